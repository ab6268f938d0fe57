/-
  How rows ahead of release stand (prec.releases), how versions stand by precedence and in the full order (prec.Compare, prec.Full). Conditions: the rows read as the lists pre and build; the rows' and the texts' lengths are those that the form allows.
  Cuts of versions and sets of spans: how cuts stand, which are right, what a set covers, when it is normal; of each set there is just one normal one. Plain facts.
  The sweep over sorted cuts: what it answers is normal, and covers just what is covered often enough. Plain facts.
  Cuts, spans and edges as memory holds them: where their versions' rows lie; blocks of six, seven and twelve cells; slices that read as lists of them. Conditions: as each states.
  Which cuts are right, how they stand and compare, which spans count (span.right, ofVersion, stand, Compare, counts). Conditions: the versions' rows lie where the cuts say, and have lengths that the form allows.
  Slices of many cells an element that the call itself made, cell by cell; a new block; rows of unlike types. Conditions: as each states.
  Slices of edges, spans and cuts that the call itself made: what they read as, append onto them. Conditions: as each states.
  Edges sorted where they are (slices.SortFunc with sweep's closure): a permutation, none behind one that it stands ahead of. Conditions: the call owns the slice; the edges' versions lie in older memory.
  The edges of the spans that count (span.edges); the question whether versions are covered often enough (span.atLeast). Conditions: the slice reads as the list of spans l; their number is small enough.
  A cut in new memory (span.copied), its version without a build. Conditions: its rows lie where it says; few identifiers.
  A scope with two labels, 0 and 1, that the run jumps back to; label 1 stands behind label 0. No condition.
-/
import Derived.Test.YtgfbflnhjpbceaaGreatDoorPartsB2
import Derived.Deep.CutBlock
import Derived.Deep.DeepCutAuto
import Derived.Deep.RegionHeld3
import Derived.Test.YtgfbflnhjpbceaaGreatDoorShelfSort
import Derived.Shelf.SlSortCmp.NoneTotal
import Derived.Lib.QuietBelow
namespace Go.Proofs.YtgfbflnhjpbceaaGreatDoor.Prec
open Go.RowKit Num Ident Semver

/-- A row of lengths that the form allows. -/
def Fit (xs : List (List UInt8)) : Prop := xs.length ≤ maxLen ∧ ∀ x ∈ xs, x.length ≤ maxLen
theorem Fit.nil : Fit [] := ⟨by unfold maxLen; simp, fun x hx => by simp at hx⟩
theorem Fit.zero : Fit [[48]] := ⟨by unfold maxLen; simp, fun x hx => by simp at hx; subst hx; unfold maxLen; simp⟩
set_option maxRecDepth 100000 in
set_option maxHeartbeats 1600000 in
theorem releases_anyD (A : Option Addr) (ca : Nat) (xs : List (List UInt8)) (B : Option Addr) (cb : Nat) (ys : List (List UInt8)) (w : World) (hA : SRow w A xs.length xs) (hB : SRow w B ys.length ys) (fx : Fit xs) (fy : Fit ys) :
    Calls Tryz.prog 131 #[.slice A xs.length ca, .slice B ys.length cb] w fun e w' => e = .returned (.int .i64 (cmpPre xs ys)) ∧ BelowD w.heap.size w w' := by
  have HA := Lib.hid hA
  have HB := Lib.hid hB
  have FX := Lib.hid fx
  have FY := Lib.hid fy
  have hx := fx.1
  have hy := fy.1
  unfold maxLen at hx hy
  clear hA hB fx fy
  by_cases h1 : xs.length = 0
  · by_cases h2 : ys.length = 0
    · have HF := Lib.hid (cmpPre_rows (x := xs) (y := ys) ⟨fun _ => h2, fun _ => h1⟩)
      have K : Hid (∀ W, W = w → Calls Tryz.prog 151 #[.slice A xs.length ca, .slice B ys.length cb] W fun e w' => e = .returned (.int .i64 (cmpPre xs ys)) ∧ BelowD w.heap.size w w') := by
        rintro W rfl; rw [HF.out]; exact rows_anyD A _ ca xs B _ cb ys W HA.out HB.out FX.out.1 FY.out.1 FX.out.2 FY.out.2
      rw [h1, h2] at K
      clear HF
      go_enter Tryz.func131, Tryz.ntmps131
      go_wp2_with fail
      refine (K.out _ rfl).mono ?_
      rintro e w1 ⟨rfl, hb1⟩
      go_wp2
      go_ret
      exact ⟨rfl, hb1⟩
    · have HF := Lib.hid (cmpPre_one h1 h2)
      have h3 : 0 < ys.length := by omega
      go_enter Tryz.func131, Tryz.ntmps131
      go_wp2
      go_ret
      exact ⟨by rw [HF.out]; rfl, BelowD.refl _ _⟩
  · have h3 : 0 < xs.length := by omega
    by_cases h2 : ys.length = 0
    · have HF := Lib.hid (cmpPre_two h1 h2)
      go_enter Tryz.func131, Tryz.ntmps131
      go_wp2
      go_ret
      exact ⟨by rw [HF.out]; rfl, BelowD.refl _ _⟩
    · have h4 : 0 < ys.length := by omega
      have HF := Lib.hid (cmpPre_rows (x := xs) (y := ys) ⟨fun h => absurd h h1, fun h => absurd h h2⟩)
      have K : Hid (∀ W, W = w → Calls Tryz.prog 151 #[.slice A xs.length ca, .slice B ys.length cb] W fun e w' => e = .returned (.int .i64 (cmpPre xs ys)) ∧ BelowD w.heap.size w w') := by
        rintro W rfl; rw [HF.out]; exact rows_anyD A _ ca xs B _ cb ys W HA.out HB.out FX.out.1 FY.out.1 FX.out.2 FY.out.2
      clear HF
      go_enter Tryz.func131, Tryz.ntmps131
      go_wp2_with fail
      refine (K.out _ rfl).mono ?_
      rintro e w1 ⟨rfl, hb1⟩
      go_wp2
      go_ret
      exact ⟨rfl, hb1⟩
set_option maxRecDepth 100000 in
set_option maxHeartbeats 3200000 in
theorem compare_anyD (u v : Ver) (A1 A2 B1 B2 : Option Addr) (c1 c2 d1 d2 : Nat) (w : World) (r1 : SRow w A1 u.pre.length u.pre) (q1 : SRow w B1 v.pre.length v.pre) (f1 : Fit u.pre) (g1 : Fit v.pre) :
    Calls Tryz.prog 110 #[.agg #[.int .u64 (u.a : Int), .int .u64 (u.b : Int), .int .u64 (u.c : Int), .slice A1 u.pre.length c1, .slice A2 u.build.length c2], .agg #[.int .u64 (v.a : Int), .int .u64 (v.b : Int), .int .u64 (v.c : Int), .slice B1 v.pre.length d1, .slice B2 v.build.length d2]] w fun e w' => e = .returned (.int .i64 (cmpV u v)) ∧ BelowD w.heap.size w w' := by
  have HB0 : Hid (BelowD w.heap.size w ((w.alloc (.cells #[.int .u64 (u.a : Int), .int .u64 (u.b : Int), .int .u64 (u.c : Int), .slice A1 u.pre.length c1, .slice A2 u.build.length c2] 25)).alloc (.cells #[.int .u64 (v.a : Int), .int .u64 (v.b : Int), .int .u64 (v.c : Int), .slice B1 v.pre.length d1, .slice B2 v.build.length d2] 25))) := ((BelowD.refl _ _).alloc (Nat.le_refl _) _).alloc (by simp) _
  have K1 : Hid (At5 ((w.alloc (.cells #[.int .u64 (u.a : Int), .int .u64 (u.b : Int), .int .u64 (u.c : Int), .slice A1 u.pre.length c1, .slice A2 u.build.length c2] 25)).alloc (.cells #[.int .u64 (v.a : Int), .int .u64 (v.b : Int), .int .u64 (v.c : Int), .slice B1 v.pre.length d1, .slice B2 v.build.length d2] 25)) w.heap.size (.int .u64 (u.a : Int)) (.int .u64 (u.b : Int)) (.int .u64 (u.c : Int)) (.slice A1 u.pre.length c1) (.slice A2 u.build.length c2)) := (At5.new w 25 _ _ _ _ _).kept ((Below.refl _ _).alloc (Nat.le_refl _) _) (by simp)
  have K2 : Hid (At5 ((w.alloc (.cells #[.int .u64 (u.a : Int), .int .u64 (u.b : Int), .int .u64 (u.c : Int), .slice A1 u.pre.length c1, .slice A2 u.build.length c2] 25)).alloc (.cells #[.int .u64 (v.a : Int), .int .u64 (v.b : Int), .int .u64 (v.c : Int), .slice B1 v.pre.length d1, .slice B2 v.build.length d2] 25)) (w.heap.size + 1) (.int .u64 (v.a : Int)) (.int .u64 (v.b : Int)) (.int .u64 (v.c : Int)) (.slice B1 v.pre.length d1) (.slice B2 v.build.length d2)) := by
    have := At5.new (w.alloc (.cells #[.int .u64 (u.a : Int), .int .u64 (u.b : Int), .int .u64 (u.c : Int), .slice A1 u.pre.length c1, .slice A2 u.build.length c2] 25)) 25 (.int .u64 (v.a : Int)) (.int .u64 (v.b : Int)) (.int .u64 (v.c : Int)) (.slice B1 v.pre.length d1) (.slice B2 v.build.length d2)
    rw [size_alloc] at this; exact this
  have R1 := Lib.hid r1
  have Q1 := Lib.hid q1
  have F1 := Lib.hid f1
  have G1 := Lib.hid g1
  clear r1 q1 f1 g1
  have HF : Hid (cmpV u v = if cmpCore u v = 0 then cmpPre u.pre v.pre else cmpCore u v) := rfl
  have HC : Hid (∀ W, Calls Tryz.prog 130 #[.agg #[.int .u64 (u.a : Int), .int .u64 (u.b : Int), .int .u64 (u.c : Int)], .agg #[.int .u64 (v.a : Int), .int .u64 (v.b : Int), .int .u64 (v.c : Int)]] W fun e w' => e = .returned (.int .i64 (cmpCore u v)) ∧ BelowD W.heap.size W w') := fun W => cores_anyD u v W
  generalize cmpCore u v = c at HF HC
  go_enter Tryz.func110, Tryz.ntmps110
  go_upto_region 1 with (fail)
  generalize ((w.alloc (.cells #[.int .u64 (u.a : Int), .int .u64 (u.b : Int), .int .u64 (u.c : Int), .slice A1 u.pre.length c1, .slice A2 u.build.length c2] 25)).alloc (.cells #[.int .u64 (v.a : Int), .int .u64 (v.b : Int), .int .u64 (v.c : Int), .slice B1 v.pre.length d1, .slice B2 v.build.length d2] 25)) = W at HB0 K1 K2 ⊢
  have hz := K2.out.1
  have hw := HB0.out.size
  have D0 := Lib.hid (BelowD.refl W.heap.size W).drew
  have D1 := Lib.hid (D0.out.mono (B' := w.heap.size) hw)
  refine wp_region_held_drew (S := fun w' => (w'.cell? ⟨w.heap.size, 0, none⟩ = some (.int .u64 (u.a : Int)) ∧ w'.cell? ⟨w.heap.size, 1, none⟩ = some (.int .u64 (u.b : Int)) ∧ w'.cell? ⟨w.heap.size, 2, none⟩ = some (.int .u64 (u.c : Int)) ∧ w'.cell? ⟨w.heap.size, 3, none⟩ = some (.slice A1 u.pre.length c1) ∧ w'.cell? ⟨w.heap.size, 4, none⟩ = some (.slice A2 u.build.length c2)) ∧ (w'.cell? ⟨(w.heap.size + 1), 0, none⟩ = some (.int .u64 (v.a : Int)) ∧ w'.cell? ⟨(w.heap.size + 1), 1, none⟩ = some (.int .u64 (v.b : Int)) ∧ w'.cell? ⟨(w.heap.size + 1), 2, none⟩ = some (.int .u64 (v.c : Int)) ∧ w'.cell? ⟨(w.heap.size + 1), 3, none⟩ = some (.slice B1 v.pre.length d1) ∧ w'.cell? ⟨(w.heap.size + 1), 4, none⟩ = some (.slice B2 v.build.length d2))) (by kernel_rfl) ⟨K1.out.2.2, K2.out.2.2⟩ (fun hHeld => ?_)
  refine wpAnyH_take (i := 0) (oi := { dst := some 6, op := Op.load 25 (Operand.tmp 2), type := 25, pos := _, after := _, guard := none }) (v := .agg #[.int .u64 (u.a : Int), .int .u64 (u.b : Int), .int .u64 (u.c : Int), .slice A1 u.pre.length c1, .slice A2 u.build.length c2]) rfl (by kernel_rfl) (by kernel_rfl) (by kernel_rfl) (fun _ _ _ h => h) (Or.inl ⟨by rfl, fun w' hS' => by go_simp⟩) (by assumption) ?_
  simp only [Act.put, List.setIfInBounds_toArray, List.set_cons_zero, List.set_cons_succ]
  refine wpAnyH_take (i := 2) (oi := { dst := some 8, op := Op.load 25 (Operand.tmp 3), type := 25, pos := _, after := _, guard := none }) (v := .agg #[.int .u64 (v.a : Int), .int .u64 (v.b : Int), .int .u64 (v.c : Int), .slice B1 v.pre.length d1, .slice B2 v.build.length d2]) rfl (by kernel_rfl) (by kernel_rfl) (by kernel_rfl) (fun _ _ _ h => h) (Or.inl ⟨by rfl, fun w' hS' => by go_simp⟩) (by assumption) ?_
  simp only [Act.put, List.setIfInBounds_toArray, List.set_cons_zero, List.set_cons_succ]
  refine wpAnyH_ready (rs := [1]) (by kernel_rfl) (by simp) ?_
  refine AllReadyH.cons (o := { dst := some 7, op := Op.call { callee := Callee.value (Operand.func 123), args := #[Operand.tmp 6], argTypes := #[25] }, type := 147, pos := _, after := _, guard := none }) rfl (fun K hK => ?_) AllReadyH.nil
  go_simp
  refine (coreOf_anyD _ _ _ _ _ _).mono ?_
  rintro e w2 ⟨rfl, hb2⟩
  have L1 := Lib.hid ((K1.out.kept D0.out.toBelow (by omega)).kept hb2.toBelow (by simp; omega))
  have L2 := Lib.hid ((K2.out.kept D0.out.toBelow (by omega)).kept hb2.toBelow (by simp; omega))
  have B2 := Lib.hid ((HB0.out.trans D1.out).trans (hb2.mono (by simp; omega)))
  have hz2 : W.heap.size ≤ w2.heap.size := by have := hb2.size; simpa using this
  clear hb2
  refine hK.out _ _ ⟨L1.out.2.2, L2.out.2.2⟩ (fun hHeld => ?_)
  clear hK K
  try simp only [Act.put, List.setIfInBounds_toArray, List.set_cons_zero, List.set_cons_succ]
  refine wpAnyH_ready (rs := [3]) (by kernel_rfl) (by simp) ?_
  refine AllReadyH.cons (o := { dst := some 9, op := Op.call { callee := Callee.value (Operand.func 123), args := #[Operand.tmp 8], argTypes := #[25] }, type := 147, pos := _, after := _, guard := none }) rfl (fun K hK => ?_) AllReadyH.nil
  go_simp
  refine (coreOf_anyD _ _ _ _ _ _).mono ?_
  rintro e w3 ⟨rfl, hb3⟩
  have M1 := Lib.hid (L1.out.kept hb3.toBelow (by omega))
  have M2 := Lib.hid (L2.out.kept hb3.toBelow (by omega))
  have B3 := Lib.hid (B2.out.trans (hb3.mono (by omega)))
  have hz3 := hb3.size
  clear hb3
  refine hK.out _ _ ⟨M1.out.2.2, M2.out.2.2⟩ (fun hHeld => ?_)
  clear hK K
  try simp only [Act.put, List.setIfInBounds_toArray, List.set_cons_zero, List.set_cons_succ]
  refine wpAnyH_ready (rs := [4]) (by kernel_rfl) (by simp) ?_
  refine AllReadyH.cons (o := { dst := some 10, op := Op.call { callee := Callee.value (Operand.func 130), args := #[Operand.tmp 7, Operand.tmp 9], argTypes := #[147, 147] }, type := 3, pos := _, after := _, guard := none }) rfl (fun K hK => ?_) AllReadyH.nil
  go_simp
  refine (HC.out _).mono ?_
  rintro e w4 ⟨rfl, hb4⟩
  have N1 := Lib.hid (M1.out.kept hb4.toBelow (by omega))
  have N2 := Lib.hid (M2.out.kept hb4.toBelow (by omega))
  have B4 := Lib.hid (B3.out.trans (hb4.mono (by omega)))
  have hz4 := hb4.size
  clear hb4
  refine hK.out _ _ ⟨N1.out.2.2, N2.out.2.2⟩ (fun hHeld => ?_)
  clear hK K
  try simp only [Act.put, List.setIfInBounds_toArray, List.set_cons_zero, List.set_cons_succ]
  refine wpAnyH_take (i := 5) (oi := { dst := some 5, op := Op.assign (Operand.tmp 10), type := 3, pos := _, after := _, guard := none }) (v := .int .i64 c) rfl (by kernel_rfl) (by kernel_rfl) (by kernel_rfl) (fun _ _ _ h => h) (Or.inl ⟨by rfl, fun w' hS' => by go_simp⟩) (by assumption) ?_
  simp only [Act.put, List.setIfInBounds_toArray, List.set_cons_zero, List.set_cons_succ]
  refine wpAnyH_done (by kernel_rfl) ?_ _
  clear hHeld
  by_cases hc : c = 0
  · have HF2 : Hid (cmpPre u.pre v.pre = cmpV u v) := by have := HF.out; rw [if_pos hc] at this; exact this.symm
    have KR : Hid (∀ W', W' = w4 → Calls Tryz.prog 131 #[.slice A1 u.pre.length c1, .slice B1 v.pre.length d1] W' fun e w' => e = .returned (.int .i64 (cmpV u v)) ∧ BelowD w4.heap.size w4 w') := by
      rintro W' rfl; rw [← HF2.out]; exact releases_anyD A1 c1 u.pre B1 d1 v.pre W' (R1.out.kept B4.out.toBelow) (Q1.out.kept B4.out.toBelow) F1.out G1.out
    subst hc
    obtain ⟨_, _, x0, x1, x2, x3, x4⟩ := N1.out
    obtain ⟨_, _, y0, y1, y2, y3, y4⟩ := N2.out
    clear HF HF2
    go_wp2_with fail
    refine (KR.out _ rfl).mono ?_
    rintro e w5 ⟨rfl, hb5⟩
    have B5 := Lib.hid (B4.out.trans (hb5.mono (by omega)))
    clear hb5
    go_wp2
    go_ret
    exact ⟨rfl, B5.out⟩
  · have HF2 : Hid (cmpV u v = c) := by have := HF.out; rw [if_neg hc] at this; exact this
    have hn : (c == 0) = false := by simp [hc]
    have hn2 : (c != 0) = true := by simp [hc]
    clear HF hc
    go_wp2
    go_ret
    exact ⟨by rw [HF2.out]; rfl, B4.out⟩
theorem compare_any (u v : Ver) (A1 A2 B1 B2 : Option Addr) (c1 c2 d1 d2 : Nat) (w : World) (r1 : SRow w A1 u.pre.length u.pre) (q1 : SRow w B1 v.pre.length v.pre) (f1 : Fit u.pre) (g1 : Fit v.pre) :
    Calls Tryz.prog 110 #[.agg #[.int .u64 (u.a : Int), .int .u64 (u.b : Int), .int .u64 (u.c : Int), .slice A1 u.pre.length c1, .slice A2 u.build.length c2], .agg #[.int .u64 (v.a : Int), .int .u64 (v.b : Int), .int .u64 (v.c : Int), .slice B1 v.pre.length d1, .slice B2 v.build.length d2]] w fun e w' => e = .returned (.int .i64 (cmpV u v)) ∧ Below w.heap.size w w' := dropD (compare_anyD u v A1 A2 B1 B2 c1 c2 d1 d2 w r1 q1 f1 g1)
end Go.Proofs.YtgfbflnhjpbceaaGreatDoor.Prec

namespace Go.Proofs.YtgfbflnhjpbceaaGreatDoor.Span
open Go.RowKit Num Ident Semver Prec

/-- A cut: its kind and its version. -/
structure Cut where
  kind : Int
  v : Ver
deriving DecidableEq
/-- A span: two cuts. -/
structure Sp where
  lo : Cut
  hi : Cut
deriving DecidableEq
def low : Cut := ⟨0, noVer⟩
def high : Cut := ⟨3, noVer⟩
instance : Inhabited Sp := ⟨⟨low, low⟩⟩
/-- Is a cut one of a version? -/
def ofVer (c : Cut) : Bool := decide (c.kind = 1 ∨ c.kind = 2)
theorem ofVer_iff (c : Cut) : ofVer c = true ↔ c.kind = 1 ∨ c.kind = 2 := by simp [ofVer]
theorem ofVer_no (c : Cut) : ofVer c = false ↔ ¬ (c.kind = 1 ∨ c.kind = 2) := by rw [← ofVer_iff]; cases ofVer c <;> simp
/-- Is a cut right? -/
def right (c : Cut) : Bool := if c.kind = 0 ∨ c.kind = 3 then sameV c.v noVer else if c.kind = 1 ∨ c.kind = 2 then goodV c.v && decide (c.v.build.length = 0) else false
theorem right_ends {c : Cut} (h : c.kind = 0 ∨ c.kind = 3) : right c = sameV c.v noVer := by unfold right; rw [if_pos h]
theorem right_ver {c : Cut} (h : c.kind = 1 ∨ c.kind = 2) : right c = (goodV c.v && decide (c.v.build.length = 0)) := by unfold right; rw [if_neg (by omega), if_pos h]
theorem right_none {c : Cut} (h1 : ¬ (c.kind = 0 ∨ c.kind = 3)) (h2 : ¬ (c.kind = 1 ∨ c.kind = 2)) : right c = false := by unfold right; rw [if_neg h1, if_neg h2]
/-- -1, 0, 1. -/
def ordI (x y : Int) : Int := if x < y then -1 else if y < x then 1 else 0
theorem ordI_lt {x y : Int} (h : x < y) : ordI x y = -1 := by unfold ordI; rw [if_pos h]
theorem ordI_gt {x y : Int} (h : y < x) : ordI x y = 1 := by unfold ordI; rw [if_neg (by omega), if_pos h]
theorem ordI_eq {x y : Int} (h : x = y) : ordI x y = 0 := by unfold ordI; rw [if_neg (by omega), if_neg (by omega)]
theorem ordI_cases (x y : Int) : (x < y ∧ ordI x y = -1) ∨ (x = y ∧ ordI x y = 0) ∨ (y < x ∧ ordI x y = 1) := by
  rcases Int.lt_trichotomy x y with h | h | h
  · exact .inl ⟨h, ordI_lt h⟩
  · exact .inr (.inl ⟨h, ordI_eq h⟩)
  · exact .inr (.inr ⟨h, ordI_gt h⟩)
theorem ordI_ordr : Ordr ordI := by
  refine ⟨fun x y => ?_, fun x y z h1 h2 => ?_⟩
  · rcases ordI_cases x y with ⟨a, b⟩ | ⟨a, b⟩ | ⟨a, b⟩ <;> rcases ordI_cases y x with ⟨c, d⟩ | ⟨c, d⟩ | ⟨c, d⟩ <;> omega
  · rcases ordI_cases x y with ⟨a, b⟩ | ⟨a, b⟩ | ⟨a, b⟩ <;> rcases ordI_cases y z with ⟨c, d⟩ | ⟨c, d⟩ | ⟨c, d⟩ <;> rcases ordI_cases x z with ⟨e, f⟩ | ⟨e, f⟩ | ⟨e, f⟩ <;> omega
/-- How cuts stand. -/
def stand (a b : Cut) : Int := if ofVer a = true ∧ ofVer b = true ∧ cmpV a.v b.v ≠ 0 then cmpV a.v b.v else ordI a.kind b.kind
/-- How cuts compare: by kind alone, if one of both isn't right. -/
def cmpC (a b : Cut) : Int := if right a = true ∧ right b = true then stand a b else ordI a.kind b.kind
theorem cmpC_right {a b : Cut} (h1 : right a = true) (h2 : right b = true) : cmpC a b = stand a b := by unfold cmpC; rw [if_pos ⟨h1, h2⟩]
def kc (c : Cut) : Int := if ofVer c = true then 1 else c.kind
def vk (c : Cut) : Ver := if ofVer c = true then c.v else noVer
theorem stand_lex (a b : Cut) : stand a b = lex (fun x y => ordI (kc x) (kc y)) (lex (fun x y => cmpV (vk x) (vk y)) fun x y => ordI x.kind y.kind) a b := by
  unfold stand
  by_cases h1 : ofVer a = true
  · by_cases h2 : ofVer b = true
    · have e1 : ordI (kc a) (kc b) = 0 := ordI_eq (by unfold kc; rw [if_pos h1, if_pos h2])
      have e2 : cmpV (vk a) (vk b) = cmpV a.v b.v := by unfold vk; rw [if_pos h1, if_pos h2]
      refine Eq.trans ?_ (lex_yes (f := fun x y => ordI (kc x) (kc y)) e1).symm
      by_cases h3 : cmpV a.v b.v = 0
      · rw [if_neg (fun h => h.2.2 h3)]
        exact (lex_yes (f := fun x y => cmpV (vk x) (vk y)) (g := fun x y : Cut => ordI x.kind y.kind) (by show cmpV (vk a) (vk b) = 0; rw [e2]; exact h3)).symm
      · rw [if_pos ⟨h1, h2, h3⟩, ← e2]
        exact (lex_no (f := fun x y => cmpV (vk x) (vk y)) (g := fun x y : Cut => ordI x.kind y.kind) (by show cmpV (vk a) (vk b) ≠ 0; rw [e2]; exact h3)).symm
    · rw [if_neg (fun h => h2 h.2.1)]
      have ha := (ofVer_iff a).1 h1
      have hb := (ofVer_no b).1 (by simpa using h2)
      have e1 : kc a = 1 := by unfold kc; rw [if_pos h1]
      have e2 : kc b = b.kind := by unfold kc; rw [if_neg h2]
      have e3 : ordI (kc a) (kc b) = ordI a.kind b.kind := by
        rw [e1, e2]
        rcases ordI_cases 1 b.kind with ⟨c, d⟩ | ⟨c, d⟩ | ⟨c, d⟩ <;> rcases ordI_cases a.kind b.kind with ⟨e, f⟩ | ⟨e, f⟩ | ⟨e, f⟩ <;> omega
      refine Eq.trans e3.symm (lex_no (f := fun x y => ordI (kc x) (kc y)) ?_).symm
      show ordI (kc a) (kc b) ≠ 0
      rw [e3]; rcases ordI_cases a.kind b.kind with ⟨e, f⟩ | ⟨e, f⟩ | ⟨e, f⟩ <;> omega
  · rw [if_neg (fun h => h1 h.1)]
    have ha := (ofVer_no a).1 (by simpa using h1)
    have e1 : kc a = a.kind := by unfold kc; rw [if_neg h1]
    have e0 : vk a = noVer := by unfold vk; rw [if_neg h1]
    by_cases h2 : ofVer b = true
    · have hb := (ofVer_iff b).1 h2
      have e2 : kc b = 1 := by unfold kc; rw [if_pos h2]
      have e3 : ordI (kc a) (kc b) = ordI a.kind b.kind := by
        rw [e1, e2]
        rcases ordI_cases a.kind 1 with ⟨c, d⟩ | ⟨c, d⟩ | ⟨c, d⟩ <;> rcases ordI_cases a.kind b.kind with ⟨e, f⟩ | ⟨e, f⟩ | ⟨e, f⟩ <;> omega
      refine Eq.trans e3.symm (lex_no (f := fun x y => ordI (kc x) (kc y)) ?_).symm
      show ordI (kc a) (kc b) ≠ 0
      rw [e3]; rcases ordI_cases a.kind b.kind with ⟨e, f⟩ | ⟨e, f⟩ | ⟨e, f⟩ <;> omega
    · have e2 : kc b = b.kind := by unfold kc; rw [if_neg h2]
      have e4 : vk b = noVer := by unfold vk; rw [if_neg h2]
      by_cases h3 : ordI (kc a) (kc b) = 0
      · refine Eq.trans ?_ (lex_yes (f := fun x y => ordI (kc x) (kc y)) h3).symm
        exact (lex_yes (f := fun x y => cmpV (vk x) (vk y)) (g := fun x y : Cut => ordI x.kind y.kind) (by show cmpV (vk a) (vk b) = 0; rw [e0, e4]; exact cmpV_ordr.self noVer)).symm
      · refine Eq.trans ?_ (lex_no (f := fun x y => ordI (kc x) (kc y)) h3).symm
        show ordI a.kind b.kind = ordI (kc a) (kc b)
        rw [e1, e2]
theorem stand_ordr : Ordr stand := by
  have h : stand = lex (fun x y => ordI (kc x) (kc y)) (lex (fun x y => cmpV (vk x) (vk y)) fun x y => ordI x.kind y.kind) := by
    funext a b; exact stand_lex a b
  rw [h]
  exact (ordI_ordr.on kc).lex ((cmpV_ordr.on vk).lex (ordI_ordr.on Cut.kind))
theorem stand_flip (a b : Cut) : stand b a = 0 - stand a b := stand_ordr.flip a b
theorem stand_self (a : Cut) : stand a a = 0 := stand_ordr.self a
theorem le_le {a b c : Cut} (h1 : stand a b ≤ 0) (h2 : stand b c ≤ 0) : stand a c ≤ 0 := stand_ordr.trans a b c h1 h2
theorem le_lt {a b c : Cut} (h1 : stand a b ≤ 0) (h2 : stand b c < 0) : stand a c < 0 := by
  have h3 := le_le h1 (show stand b c ≤ 0 by omega)
  rcases Int.lt_or_eq_of_le h3 with h | h
  · exact h
  · have h4 := stand_flip a c
    have h5 := le_le (show stand c a ≤ 0 by omega) h1
    have h6 := stand_flip b c
    omega
theorem lt_le {a b c : Cut} (h1 : stand a b < 0) (h2 : stand b c ≤ 0) : stand a c < 0 := by
  have h3 := le_le (show stand a b ≤ 0 by omega) h2
  rcases Int.lt_or_eq_of_le h3 with h | h
  · exact h
  · have h4 := stand_flip a c
    have h5 := le_le h2 (show stand c a ≤ 0 by omega)
    have h6 := stand_flip a b
    omega
theorem lt_lt {a b c : Cut} (h1 : stand a b < 0) (h2 : stand b c < 0) : stand a c < 0 := le_lt (by omega) h2
theorem not_lt {a b : Cut} (h : ¬ stand a b < 0) : stand b a ≤ 0 := by have := stand_flip a b; omega
theorem not_le {a b : Cut} (h : ¬ stand a b ≤ 0) : stand b a < 0 := by have := stand_flip a b; omega
theorem lt_not {a b : Cut} (h : stand a b < 0) : ¬ stand b a ≤ 0 := by have := stand_flip a b; omega
theorem le_not {a b : Cut} (h : stand a b ≤ 0) : ¬ stand b a < 0 := by have := stand_flip a b; omega
theorem like_flip {a b : Cut} (h : stand a b = 0) : stand b a = 0 := by have := stand_flip a b; omega

/-- Does a span have what stands just behind a cut? -/
def inOne (s : Sp) (c : Cut) : Prop := stand s.lo c ≤ 0 ∧ stand c s.hi < 0
/-- Does a set have it? -/
def inS (l : List Sp) (c : Cut) : Prop := ∃ s ∈ l, inOne s c
/-- Does a span count? -/
def cnt (s : Sp) : Bool := right s.lo && (right s.hi && decide (stand s.lo s.hi < 0))
theorem cnt_iff (s : Sp) : cnt s = true ↔ right s.lo = true ∧ right s.hi = true ∧ stand s.lo s.hi < 0 := by simp [cnt]
/-- What a set whose spans may be wrong has. -/
def inR (l : List Sp) (c : Cut) : Prop := ∃ s ∈ l, cnt s = true ∧ inOne s c
/-- A set is normal. -/
structure Norm (l : List Sp) : Prop where
  cnt : ∀ s ∈ l, cnt s = true
  gap : l.Pairwise fun s t => stand s.hi t.lo < 0
theorem Norm.nil : Norm [] := ⟨(fun s h => by cases h), List.Pairwise.nil⟩
theorem Norm.tail {s : Sp} {l : List Sp} (h : Norm (s :: l)) : Norm l := ⟨fun t ht => h.cnt t (List.mem_cons_of_mem _ ht), (List.pairwise_cons.1 h.gap).2⟩
theorem Norm.ahead {s : Sp} {l : List Sp} (h : Norm (s :: l)) : ∀ t ∈ l, stand s.hi t.lo < 0 := (List.pairwise_cons.1 h.gap).1
theorem Norm.head {s : Sp} {l : List Sp} (h : Norm (s :: l)) : right s.lo = true ∧ right s.hi = true ∧ stand s.lo s.hi < 0 := (cnt_iff s).1 (h.cnt s (List.mem_cons_self ..))
theorem Norm.inR {l : List Sp} (h : Norm l) (c : Cut) : inR l c ↔ inS l c := ⟨fun ⟨s, hs, _, hi⟩ => ⟨s, hs, hi⟩, fun ⟨s, hs, hi⟩ => ⟨s, hs, h.cnt s hs, hi⟩⟩
/-- Two sets have like cuts, one by one. -/
inductive Like : List Sp → List Sp → Prop
  | nil : Like [] []
  | cons {s t : Sp} {l m : List Sp} : stand s.lo t.lo = 0 → stand s.hi t.hi = 0 → Like l m → Like (s :: l) (t :: m)
theorem first_le {s : Sp} {l : List Sp} (h : Norm (s :: l)) {t : Sp} (ht : t ∈ s :: l) : stand s.lo t.lo ≤ 0 := by
  rcases List.mem_cons.1 ht with rfl | ht
  · rw [stand_self]; exact Int.le_refl 0
  · have h1 := h.ahead t ht
    have h2 := h.head.2.2
    have := lt_lt h2 h1
    omega
/-- Of each set there is just one normal one. -/
theorem unique : ∀ {l m : List Sp}, Norm l → Norm m → (∀ c, inS l c ↔ inS m c) → Like l m
  | [], [], _, _, _ => Like.nil
  | [], t :: m, _, hm, h => by
    obtain ⟨s, hs, _⟩ := (h t.lo).2 ⟨t, List.mem_cons_self .., by rw [stand_self]; exact Int.le_refl 0, hm.head.2.2⟩
    cases hs
  | s :: l, [], hl, _, h => by
    obtain ⟨t, ht, _⟩ := (h s.lo).1 ⟨s, List.mem_cons_self .., by rw [stand_self]; exact Int.le_refl 0, hl.head.2.2⟩
    cases ht
  | s :: l, t :: m, hl, hm, h => by
    have hs := hl.head.2.2
    have ht := hm.head.2.2
    obtain ⟨t', ht', i1⟩ := (h s.lo).1 ⟨s, List.mem_cons_self .., by rw [stand_self]; exact Int.le_refl 0, hs⟩
    obtain ⟨s', hs', i2⟩ := (h t.lo).2 ⟨t, List.mem_cons_self .., by rw [stand_self]; exact Int.le_refl 0, ht⟩
    have e1 := le_le (first_le hm ht') i1.1
    have e2 := le_le (first_le hl hs') i2.1
    have el : stand s.lo t.lo = 0 := by have := stand_flip s.lo t.lo; omega
    have eh : stand s.hi t.hi = 0 := by
      rcases Int.lt_trichotomy (stand s.hi t.hi) 0 with g | g | g
      · exfalso
        obtain ⟨x, hx, i3⟩ := (h s.hi).2 ⟨t, List.mem_cons_self .., le_le e1 (by omega), g⟩
        rcases List.mem_cons.1 hx with rfl | hx
        · have := i3.2; rw [stand_self] at this; omega
        · exact lt_not (hl.ahead x hx) i3.1
      · exact g
      · exfalso
        have g2 : stand t.hi s.hi < 0 := by have := stand_flip s.hi t.hi; omega
        obtain ⟨x, hx, i3⟩ := (h t.hi).1 ⟨s, List.mem_cons_self .., le_le e2 (by omega), g2⟩
        rcases List.mem_cons.1 hx with rfl | hx
        · have := i3.2; rw [stand_self] at this; omega
        · exact lt_not (hm.ahead x hx) i3.1
    refine Like.cons el eh (unique hl.tail hm.tail fun c => ⟨fun ⟨x, hx, i⟩ => ?_, fun ⟨x, hx, i⟩ => ?_⟩)
    · obtain ⟨y, hy, j⟩ := (h c).1 ⟨x, List.mem_cons_of_mem _ hx, i⟩
      rcases List.mem_cons.1 hy with rfl | hy
      · exfalso
        have h1 := lt_le (hl.ahead x hx) i.1
        have h2 := lt_lt h1 j.2
        have := stand_flip s.hi y.hi
        omega
      · exact ⟨y, hy, j⟩
    · obtain ⟨y, hy, j⟩ := (h c).2 ⟨x, List.mem_cons_of_mem _ hx, i⟩
      rcases List.mem_cons.1 hy with rfl | hy
      · exfalso
        have h1 := lt_le (hm.ahead x hx) i.1
        have h2 := lt_lt h1 j.2
        have := stand_flip y.hi t.hi
        omega
      · exact ⟨y, hy, j⟩

theorem sameV_none {v : Ver} (h : sameV v noVer = true) : v = noVer := by
  unfold sameV at h
  rw [Bool.and_eq_true, decide_eq_true_eq, Bool.and_eq_true, sameB_iff, sameB_iff] at h
  obtain ⟨⟨h1, h2, h3⟩, h4, h5⟩ := h
  cases v; simp only [noVer] at *; subst h1; subst h2; subst h3; subst h4; subst h5; rfl
theorem good_len (pre : Bool) : ∀ (xs : List (List UInt8)) (i : Nat), i ≤ 16 → goodFrom pre xs i = true → i + xs.length ≤ 16
  | [], i, hi, _ => by simpa using hi
  | x :: r, i, hi, h => by
    rw [goodFrom] at h
    simp only [Bool.and_eq_true, beq_iff_eq] at h
    have h1 := (fault_pos h.1.1).2.2
    have := good_len pre r (i + 1) (by omega) h.2
    simp; omega
/-- What a right cut's version is: few identifiers, no build. -/
theorem right_few {c : Cut} (h : right c = true) : c.v.pre.length ≤ 16 ∧ c.v.build = [] := by
  by_cases h1 : c.kind = 0 ∨ c.kind = 3
  · rw [right_ends h1] at h
    rw [sameV_none h]; exact ⟨by simp [noVer], rfl⟩
  · by_cases h2 : c.kind = 1 ∨ c.kind = 2
    · rw [right_ver h2, Bool.and_eq_true, decide_eq_true_eq] at h
      refine ⟨?_, List.eq_nil_of_length_eq_zero h.2⟩
      have hg := h.1
      unfold goodV at hg
      rw [Bool.and_eq_true, Bool.and_eq_true] at hg
      have := good_len true c.v.pre 0 (by omega) hg.2.1
      omega
    · rw [right_none h1 h2] at h; cases h
theorem right_bare {c : Cut} (h : right c = true) : bare c.v = c.v := by
  have := (right_few h).2
  unfold bare; rw [← this]
theorem low_right : right low = true := by rw [right_ends (.inl rfl)]; exact sameV_self noVer
theorem high_right : right high = true := by rw [right_ends (.inr rfl)]; exact sameV_self noVer
theorem low_high : stand low high < 0 := by
  unfold stand; rw [if_neg (by rintro ⟨h, _⟩; exact absurd h (by decide))]; exact (show (-1 : Int) < 0 by omega)
theorem right_kind {c : Cut} (h : right c = true) : c.kind = 0 ∨ c.kind = 1 ∨ c.kind = 2 ∨ c.kind = 3 := by
  by_cases h1 : c.kind = 0 ∨ c.kind = 3
  · omega
  · by_cases h2 : c.kind = 1 ∨ c.kind = 2
    · omega
    · rw [right_none h1 h2] at h; cases h
theorem stand_kind {a b : Cut} (h : ¬ (ofVer a = true ∧ ofVer b = true)) : stand a b = ordI a.kind b.kind := by
  unfold stand; rw [if_neg (fun k => h ⟨k.1, k.2.1⟩)]
theorem low_le {c : Cut} (h : right c = true) : stand low c ≤ 0 := by
  rw [stand_kind (by rintro ⟨h, _⟩; exact absurd h (by decide))]
  have := right_kind h
  have e : low.kind = 0 := rfl
  rcases ordI_cases low.kind c.kind with ⟨a, b⟩ | ⟨a, b⟩ | ⟨a, b⟩ <;> omega
theorem le_high {c : Cut} (h : right c = true) : stand c high ≤ 0 := by
  rw [stand_kind (by rintro ⟨_, h⟩; exact absurd h (by decide))]
  have := right_kind h
  have e : high.kind = 3 := rfl
  rcases ordI_cases c.kind high.kind with ⟨a, b⟩ | ⟨a, b⟩ | ⟨a, b⟩ <;> omega

/-- A version's two cuts. -/
def aheadOf (v : Ver) : Cut := ⟨1, bare v⟩
def behindOf (v : Ver) : Cut := ⟨2, bare v⟩
theorem ahead_behind (v : Ver) : stand (aheadOf v) (behindOf v) < 0 := by
  have h : cmpV (bare v) (bare v) = 0 := cmpV_ordr.self _
  unfold stand
  rw [if_neg (fun k => k.2.2 h)]; exact (show (-1 : Int) < 0 by omega)
/-- Between a version's two cuts stands none. -/
theorem behind_le (c : Cut) (v : Ver) : stand (aheadOf v) c < 0 ↔ stand (behindOf v) c ≤ 0 := by
  constructor
  · intro hc
    by_cases hv : ofVer c = true
    · have hk := (ofVer_iff c).1 hv
      by_cases h0 : cmpV (bare v) c.v = 0
      · have e1 : stand (aheadOf v) c = ordI 1 c.kind := by unfold stand; rw [if_neg (fun k => k.2.2 h0)]; rfl
        have e2 : stand (behindOf v) c = ordI 2 c.kind := by unfold stand; rw [if_neg (fun k => k.2.2 h0)]; rfl
        rw [e1] at hc
        rw [e2]
        rcases ordI_cases 1 c.kind with ⟨a, b⟩ | ⟨a, b⟩ | ⟨a, b⟩ <;> rcases ordI_cases 2 c.kind with ⟨e, f⟩ | ⟨e, f⟩ | ⟨e, f⟩ <;> omega
      · have e1 : stand (aheadOf v) c = cmpV (bare v) c.v := by unfold stand; rw [if_pos ⟨rfl, hv, h0⟩]; rfl
        have e2 : stand (behindOf v) c = cmpV (bare v) c.v := by unfold stand; rw [if_pos ⟨rfl, hv, h0⟩]; rfl
        omega
    · have hk := (ofVer_no c).1 (by simpa using hv)
      rw [stand_kind (fun k => hv k.2)] at hc ⊢
      have e1 : (aheadOf v).kind = 1 := rfl
      have e2 : (behindOf v).kind = 2 := rfl
      rcases ordI_cases (aheadOf v).kind c.kind with ⟨a, b⟩ | ⟨a, b⟩ | ⟨a, b⟩ <;> rcases ordI_cases (behindOf v).kind c.kind with ⟨e, f⟩ | ⟨e, f⟩ | ⟨e, f⟩ <;> omega
  · intro hc
    exact lt_le (ahead_behind v) hc

/-- Is a set normal, place by place? -/
def goodS (l : List Sp) : Bool := (List.range l.length).all fun i => cnt (l.getD i default) && (decide (i = 0) || decide (stand (l.getD (i - 1) default).hi (l.getD i default).lo < 0))
theorem goodS_iff (l : List Sp) : goodS l = true ↔ ∀ i, i < l.length → cnt (l.getD i default) = true ∧ (i = 0 ∨ stand (l.getD (i - 1) default).hi (l.getD i default).lo < 0) := by
  simp [goodS, List.all_eq_true]
theorem goodS_cons {s : Sp} {l : List Sp} : goodS (s :: l) = true ↔ cnt s = true ∧ (l = [] ∨ stand s.hi (l.getD 0 default).lo < 0) ∧ goodS l = true := by
  rw [goodS_iff, goodS_iff]
  constructor
  · intro h
    have h0 := h 0 (by simp)
    refine ⟨h0.1, ?_, fun i hi => ?_⟩
    · cases l with
      | nil => exact .inl rfl
      | cons t l =>
        have h1 := h 1 (by simp)
        rcases h1.2 with h2 | h2
        · omega
        · exact .inr h2
    · have h1 := h (i + 1) (by simp; omega)
      refine ⟨h1.1, ?_⟩
      rcases Nat.eq_zero_or_pos i with h2 | h2
      · exact .inl h2
      · right
        rcases h1.2 with h3 | h3
        · omega
        · obtain ⟨j, rfl⟩ : ∃ j, i = j + 1 := ⟨i - 1, by omega⟩
          exact h3
  · rintro ⟨h1, h2, h3⟩ i hi
    rcases Nat.eq_zero_or_pos i with h4 | h4
    · subst h4; exact ⟨h1, .inl rfl⟩
    · obtain ⟨j, rfl⟩ : ∃ j, i = j + 1 := ⟨i - 1, by omega⟩
      have h5 := h3 j (by simp at hi; omega)
      refine ⟨h5.1, .inr ?_⟩
      rcases Nat.eq_zero_or_pos j with h6 | h6
      · subst h6
        rcases h2 with h7 | h7
        · subst h7; simp at hi
        · exact h7
      · obtain ⟨k, rfl⟩ : ∃ k, j = k + 1 := ⟨j - 1, by omega⟩
        rcases h5.2 with h7 | h7
        · omega
        · exact h7
theorem goodS_norm : ∀ l : List Sp, goodS l = true ↔ Norm l
  | [] => ⟨fun _ => Norm.nil, fun _ => rfl⟩
  | s :: l => by
    rw [goodS_cons, goodS_norm l]
    constructor
    · rintro ⟨h1, h2, h3⟩
      refine ⟨fun t ht => ?_, List.pairwise_cons.2 ⟨fun t ht => ?_, h3.gap⟩⟩
      · rcases List.mem_cons.1 ht with rfl | ht
        · exact h1
        · exact h3.cnt t ht
      · cases l with
        | nil => cases ht
        | cons x l =>
          rcases h2 with h2 | h2
          · cases h2
          · exact lt_le h2 (first_le h3 ht)
    · intro h
      refine ⟨h.cnt s (List.mem_cons_self ..), ?_, h.tail⟩
      cases l with
      | nil => exact .inl rfl
      | cons x l => exact .inr (h.ahead x (List.mem_cons_self ..))
end Go.Proofs.YtgfbflnhjpbceaaGreatDoor.Span

namespace Go.Proofs.YtgfbflnhjpbceaaGreatDoor.Span
open Go.RowKit Num Ident Semver Prec

/-- A cut, and by how many more spans what stands behind it is covered. -/
structure Edge where
  cut : Cut
  step : Int
/-- How often what stands just behind a cut is covered. -/
def cov (l : List Edge) (c : Cut) : Int := (l.map fun e => if stand e.cut c ≤ 0 then e.step else 0).sum
def total (l : List Edge) : Int := (l.map fun e => e.step).sum
theorem cov_nil (c : Cut) : cov [] c = 0 := rfl
theorem cov_cons (e : Edge) (l : List Edge) (c : Cut) : cov (e :: l) c = (if stand e.cut c ≤ 0 then e.step else 0) + cov l c := by unfold cov; rw [List.map_cons, List.sum_cons]
theorem cov_append (l m : List Edge) (c : Cut) : cov (l ++ m) c = cov l c + cov m c := by unfold cov; rw [List.map_append, List.sum_append]
theorem total_cons (e : Edge) (l : List Edge) : total (e :: l) = e.step + total l := by unfold total; rw [List.map_cons, List.sum_cons]
theorem total_append (l m : List Edge) : total (l ++ m) = total l + total m := by unfold total; rw [List.map_append, List.sum_append]
theorem cov_perm {l m : List Edge} (h : l.Perm m) (c : Cut) : cov l c = cov m c := by
  induction h with
  | nil => rfl
  | cons x _ ih => rw [cov_cons, cov_cons, ih]
  | swap x y l => rw [cov_cons, cov_cons, cov_cons, cov_cons]; omega
  | trans _ _ h1 h2 => rw [h1, h2]
theorem total_perm {l m : List Edge} (h : l.Perm m) : total l = total m := by
  induction h with
  | nil => rfl
  | cons x _ ih => rw [total_cons, total_cons, ih]
  | swap x y l => rw [total_cons, total_cons, total_cons, total_cons]; omega
  | trans _ _ h1 h2 => rw [h1, h2]
/-- What stands behind all cuts ahead of which c stands isn't covered by them. -/
theorem cov_none {l : List Edge} {c : Cut} (h : ∀ e ∈ l, stand c e.cut < 0) : cov l c = 0 := by
  induction l with
  | nil => rfl
  | cons e l ih =>
    rw [cov_cons, if_neg (lt_not (h e (List.mem_cons_self ..))), ih fun x hx => h x (List.mem_cons_of_mem _ hx)]; rfl
/-- The edges of the spans that count. -/
def edgesOf (l : List Sp) (step : Int) : List Edge := (l.filter cnt).flatMap fun s => [⟨s.lo, step⟩, ⟨s.hi, 0 - step⟩]
theorem edgesOf_yes {s : Sp} (l : List Sp) (step : Int) (h : cnt s = true) : edgesOf (s :: l) step = ⟨s.lo, step⟩ :: ⟨s.hi, 0 - step⟩ :: edgesOf l step := by
  unfold edgesOf; rw [List.filter_cons_of_pos h]; rfl
theorem edgesOf_no {s : Sp} (l : List Sp) (step : Int) (h : cnt s = false) : edgesOf (s :: l) step = edgesOf l step := by
  unfold edgesOf; rw [List.filter_cons_of_neg (by simp [h])]
theorem edgesOf_snoc_yes {s : Sp} (l : List Sp) (step : Int) (h : cnt s = true) : edgesOf (l ++ [s]) step = edgesOf l step ++ [⟨s.lo, step⟩, ⟨s.hi, 0 - step⟩] := by
  unfold edgesOf; rw [List.filter_append, List.flatMap_append, List.filter_cons_of_pos h]; rfl
theorem edgesOf_snoc_no {s : Sp} (l : List Sp) (step : Int) (h : cnt s = false) : edgesOf (l ++ [s]) step = edgesOf l step := by
  unfold edgesOf; rw [List.filter_append, List.flatMap_append, List.filter_cons_of_neg (by simp [h])]; simp
theorem edgesOf_total (l : List Sp) (step : Int) : total (edgesOf l step) = 0 := by
  induction l with
  | nil => rfl
  | cons s l ih =>
    cases h : cnt s
    · rw [edgesOf_no l step h]; exact ih
    · rw [edgesOf_yes l step h, total_cons, total_cons, ih]; show step + (0 - step + 0) = 0; omega
theorem edgesOf_right (l : List Sp) (step : Int) : ∀ e ∈ edgesOf l step, right e.cut = true := by
  induction l with
  | nil => intro e he; cases he
  | cons s l ih =>
    intro e he
    cases h : cnt s
    · rw [edgesOf_no l step h] at he; exact ih e he
    · rw [edgesOf_yes l step h] at he
      have hc := (cnt_iff s).1 h
      rcases List.mem_cons.1 he with rfl | he
      · exact hc.1
      · rcases List.mem_cons.1 he with rfl | he
        · exact hc.2.1
        · exact ih e he
theorem edgesOf_step (l : List Sp) (step : Int) : ∀ e ∈ edgesOf l step, e.step = step ∨ e.step = 0 - step := by
  induction l with
  | nil => intro e he; cases he
  | cons s l ih =>
    intro e he
    cases h : cnt s
    · rw [edgesOf_no l step h] at he; exact ih e he
    · rw [edgesOf_yes l step h] at he
      rcases List.mem_cons.1 he with rfl | he
      · exact .inl rfl
      · rcases List.mem_cons.1 he with rfl | he
        · exact .inr rfl
        · exact ih e he
/-- How many spans that count have what stands just behind a cut. -/
def times (l : List Sp) (c : Cut) : Nat := (l.filter fun s => cnt s && (decide (stand s.lo c ≤ 0) && decide (stand c s.hi < 0))).length
theorem times_yes {s : Sp} (l : List Sp) {c : Cut} (h : cnt s = true) (h1 : inOne s c) : times (s :: l) c = times l c + 1 := by
  unfold times; rw [List.filter_cons_of_pos (by simp [h, h1.1, h1.2])]; rfl
theorem times_no {s : Sp} (l : List Sp) {c : Cut} (h : ¬ (cnt s = true ∧ inOne s c)) : times (s :: l) c = times l c := by
  unfold times; rw [List.filter_cons_of_neg (by intro k; simp at k; exact h ⟨k.1, k.2.1, k.2.2⟩)]
theorem edgesOf_cov (l : List Sp) (step : Int) (c : Cut) : cov (edgesOf l step) c = step * (times l c : Int) := by
  induction l with
  | nil => simp [edgesOf, times, cov]
  | cons s l ih =>
    cases h : cnt s
    · rw [edgesOf_no l step h, times_no l (fun k => by rw [h] at k; cases k.1)]; exact ih
    · rw [edgesOf_yes l step h, cov_cons, cov_cons, ih]
      have hc := (cnt_iff s).1 h
      show (if stand s.lo c ≤ 0 then step else 0) + ((if stand s.hi c ≤ 0 then 0 - step else 0) + _) = _
      by_cases h1 : stand s.lo c ≤ 0
      · by_cases h2 : stand s.hi c ≤ 0
        · rw [if_pos h1, if_pos h2, times_no l (fun k => le_not h2 k.2.2)]; omega
        · rw [if_pos h1, if_neg h2, times_yes l h ⟨h1, not_le h2⟩, Int.natCast_add, Int.mul_add]
          simp; omega
      · have h2 : ¬ stand s.hi c ≤ 0 := fun k => h1 (le_le (by have := hc.2.2; omega) k)
        rw [if_neg h1, if_neg h2, times_no l (fun k => h1 k.2.1)]; omega
theorem times_pos (l : List Sp) (c : Cut) : 1 ≤ times l c ↔ inR l c := by
  induction l with
  | nil =>
    constructor
    · intro h; simp [times] at h
    · rintro ⟨s, hs, _⟩; cases hs
  | cons s l ih =>
    by_cases h : cnt s = true ∧ inOne s c
    · rw [times_yes l h.1 h.2]
      exact ⟨fun _ => ⟨s, List.mem_cons_self .., h⟩, fun _ => by omega⟩
    · rw [times_no l h, ih]
      constructor
      · rintro ⟨t, ht, k⟩; exact ⟨t, List.mem_cons_of_mem _ ht, k⟩
      · rintro ⟨t, ht, k⟩
        rcases List.mem_cons.1 ht with rfl | ht
        · exact absurd k h
        · exact ⟨t, ht, k⟩
/-- A normal set has nothing twice. -/
theorem Norm.once {l : List Sp} (h : Norm l) (c : Cut) : times l c ≤ 1 := by
  induction l with
  | nil => simp [times]
  | cons s l ih =>
    by_cases k : Span.cnt s = true ∧ inOne s c
    · rw [times_yes l k.1 k.2]
      have : ¬ 1 ≤ times l c := by
        rw [times_pos]
        rintro ⟨t, ht, _, i⟩
        exact lt_not (h.ahead t ht) (le_le i.1 (by have := k.2.2; omega))
      omega
    · rw [times_no l k]; exact ih h.tail

/-- The sweep: n: how often a version must be covered; cut: the first of the like cuts that are under way; was: whether what stands ahead of them is in; t: how often it has been covered; lo: where the span that is open began. -/
def go (n : Int) : Cut → Bool → Int → Cut → List Edge → List Sp
  | _, _, _, _, [] => []
  | cut, was, t, lo, [e] =>
    if was = true ∧ ¬ n ≤ t + e.step then [⟨lo, cut⟩] else []
  | cut, was, t, lo, e :: f :: r =>
    if stand cut f.cut = 0 then go n cut was (t + e.step) lo (f :: r)
    else if n ≤ t + e.step ∧ was = false then go n f.cut true (t + e.step) cut (f :: r)
    else if was = true ∧ ¬ n ≤ t + e.step then ⟨lo, cut⟩ :: go n f.cut false (t + e.step) lo (f :: r)
    else go n f.cut was (t + e.step) lo (f :: r)
def sweepL (n : Int) : List Edge → List Sp
  | [] => []
  | e :: r => go n e.cut (decide (n ≤ 0)) 0 low (e :: r)

/-- What holds of a sweep under way. -/
structure Open (cut : Cut) (was : Bool) (lo : Cut) (out : List Sp) : Prop where
  norm : Norm out
  yes : was = true → ∃ h r, out = ⟨lo, h⟩ :: r ∧ stand cut h ≤ 0 ∧ ∀ s ∈ r, stand cut s.lo < 0
  no : was = false → ∀ s ∈ out, stand cut s.lo ≤ 0

theorem sorted_ge {e : Edge} {r : List Edge} (h : (e :: r).Pairwise fun x y => stand x.cut y.cut ≤ 0) : ∀ x ∈ r, stand e.cut x.cut ≤ 0 := (List.pairwise_cons.1 h).1

theorem go_open (n : Int) : ∀ (l : List Edge) (cut : Cut) (was : Bool) (t : Int) (lo : Cut), l ≠ [] → (l.Pairwise fun x y => stand x.cut y.cut ≤ 0) → (∀ e ∈ l, right e.cut = true) → right cut = true →
    (∀ e ∈ l, stand cut e.cut ≤ 0) → (∃ e r, l = e :: r ∧ stand cut e.cut = 0) → (was = true → right lo = true ∧ stand lo cut < 0) → t + total l < n →
    Open cut was lo (go n cut was t lo l) ∧ ∀ c, inS (go n cut was t lo l) c ↔ (if stand c cut < 0 then was = true ∧ stand lo c ≤ 0 else n ≤ t + cov l c)
  | [], _, _, _, _, h, _, _, _, _, _, _, _ => absurd rfl h
  | [e], cut, was, t, lo, _, _, _, hc, _, he, hlo, ht => by
    obtain ⟨e', r', heq, hz⟩ := he
    obtain ⟨rfl, rfl⟩ : e = e' ∧ [] = r' := by injection heq with h1 h2; exact ⟨h1, h2⟩
    have ht2 : ¬ n ≤ t + e.step := by rw [total_cons] at ht; have : total [] = 0 := rfl; omega
    have hcov : ∀ c, ¬ stand c cut < 0 → t + cov [e] c = t + e.step := fun c h => by
      rw [cov_cons, cov_nil, if_pos (le_le (by have := like_flip hz; omega) (not_lt h))]; omega
    unfold go
    cases was with
    | true =>
      rw [if_pos ⟨rfl, ht2⟩]
      obtain ⟨h1, h2⟩ := hlo rfl
      refine ⟨⟨⟨fun s hs => ?_, List.pairwise_singleton _ _⟩, fun _ => ⟨cut, [], rfl, by rw [stand_self]; exact Int.le_refl 0, (fun s hs => by cases hs)⟩, (fun h => by cases h)⟩, fun c => ?_⟩
      · rw [List.mem_singleton] at hs; subst hs; exact (cnt_iff _).2 ⟨h1, hc, h2⟩
      · by_cases k : stand c cut < 0
        · rw [if_pos k]
          constructor
          · rintro ⟨s, hs, i⟩; rw [List.mem_singleton] at hs; subst hs; exact ⟨rfl, i.1⟩
          · rintro ⟨_, i⟩; exact ⟨_, List.mem_singleton.2 rfl, i, k⟩
        · rw [if_neg k, hcov c k]
          constructor
          · rintro ⟨s, hs, i⟩; rw [List.mem_singleton] at hs; subst hs; exact absurd i.2 k
          · intro h; exact absurd h ht2
    | false =>
      rw [if_neg (by rintro ⟨h, _⟩; cases h)]
      refine ⟨⟨Norm.nil, (fun h => by cases h), fun _ s hs => by cases hs⟩, fun c => ?_⟩
      by_cases k : stand c cut < 0
      · rw [if_pos k]
        constructor
        · rintro ⟨s, hs, _⟩; cases hs
        · rintro ⟨h, _⟩; cases h
      · rw [if_neg k, hcov c k]
        constructor
        · rintro ⟨s, hs, _⟩; cases hs
        · intro h; exact absurd h ht2
  | e :: f :: r, cut, was, t, lo, _, hp, hr, hc, hge, he, hlo, ht => by
    obtain ⟨e', r', heq, hz⟩ := he
    obtain ⟨rfl, rfl⟩ : e = e' ∧ f :: r = r' := by injection heq with h1 h2; exact ⟨h1, h2⟩
    have hp2 := (List.pairwise_cons.1 hp).2
    have hr2 : ∀ x ∈ f :: r, right x.cut = true := fun x hx => hr x (List.mem_cons_of_mem _ hx)
    have ht2 : t + e.step + total (f :: r) < n := by rw [total_cons] at ht; omega
    have hge2 : ∀ x ∈ f :: r, stand cut x.cut ≤ 0 := fun x hx => hge x (List.mem_cons_of_mem _ hx)
    have hcov : ∀ c, ¬ stand c cut < 0 → t + cov (e :: f :: r) c = t + e.step + cov (f :: r) c := fun c h => by
      rw [cov_cons, if_pos (le_le (by have := like_flip hz; omega) (not_lt h))]; omega
    have hfge : ∀ x ∈ f :: r, stand f.cut x.cut ≤ 0 := fun x hx => by
      rcases List.mem_cons.1 hx with rfl | hx
      · rw [stand_self]; exact Int.le_refl 0
      · exact sorted_ge hp2 x hx
    unfold go
    by_cases h0 : stand cut f.cut = 0
    · rw [if_pos h0]
      obtain ⟨o, k⟩ := go_open n (f :: r) cut was (t + e.step) lo (by simp) hp2 hr2 hc hge2 ⟨f, r, rfl, h0⟩ hlo ht2
      refine ⟨o, fun c => (k c).trans ?_⟩
      by_cases q : stand c cut < 0
      · rw [if_pos q, if_pos q]
      · rw [if_neg q, if_neg q, hcov c q]
    · rw [if_neg h0]
      have hcf : stand cut f.cut < 0 := by have := hge2 f (List.mem_cons_self ..); omega
      have hfr := hr2 f (List.mem_cons_self ..)
      have hself : ∃ e r', f :: r = e :: r' ∧ stand f.cut e.cut = 0 := ⟨f, r, rfl, stand_self _⟩
      have hmid : ∀ c, ¬ stand c cut < 0 → stand c f.cut < 0 → t + e.step + cov (f :: r) c = t + e.step := fun c _ h => by
        rw [cov_none fun x hx => lt_le h (hfge x hx)]; omega
      by_cases h1 : n ≤ t + e.step ∧ was = false
      · rw [if_pos h1]
        obtain ⟨h1, rfl⟩ := h1
        obtain ⟨o, k⟩ := go_open n (f :: r) f.cut true (t + e.step) cut (by simp) hp2 hr2 hfr hfge hself (fun _ => ⟨hc, hcf⟩) ht2
        obtain ⟨h, q, e1, e2, e3⟩ := o.yes rfl
        refine ⟨⟨o.norm, (fun h => by cases h), fun _ s hs => ?_⟩, fun c => (k c).trans ?_⟩
        · rw [e1] at hs
          rcases List.mem_cons.1 hs with rfl | hs
          · show stand cut cut ≤ 0; rw [stand_self]; exact Int.le_refl 0
          · have := lt_lt hcf (e3 s hs); omega
        · by_cases q1 : stand c cut < 0
          · rw [if_pos q1, if_pos (lt_lt q1 hcf)]
            constructor
            · rintro ⟨_, g⟩; exact absurd q1 (le_not g)
            · rintro ⟨g, _⟩; cases g
          · rw [if_neg q1, hcov c q1]
            by_cases q2 : stand c f.cut < 0
            · rw [if_pos q2, hmid c q1 q2]
              exact ⟨fun _ => h1, fun _ => ⟨rfl, not_lt q1⟩⟩
            · rw [if_neg q2]
      · rw [if_neg h1]
        by_cases h2 : was = true ∧ ¬ n ≤ t + e.step
        · rw [if_pos h2]
          obtain ⟨rfl, h2⟩ := h2
          obtain ⟨l1, l2⟩ := hlo rfl
          obtain ⟨o, k⟩ := go_open n (f :: r) f.cut false (t + e.step) lo (by simp) hp2 hr2 hfr hfge hself (fun h => by cases h) ht2
          have hno := o.no rfl
          refine ⟨⟨⟨fun s hs => ?_, List.pairwise_cons.2 ⟨fun s hs => ?_, o.norm.gap⟩⟩, fun _ => ⟨cut, _, rfl, by rw [stand_self]; exact Int.le_refl 0, fun s hs => lt_le hcf (hno s hs)⟩, fun h => by cases h⟩, fun c => ?_⟩
          · rcases List.mem_cons.1 hs with rfl | hs
            · exact (cnt_iff _).2 ⟨l1, hc, l2⟩
            · exact o.norm.cnt s hs
          · exact lt_le hcf (hno s hs)
          · by_cases q1 : stand c cut < 0
            · rw [if_pos q1]
              constructor
              · rintro ⟨s, hs, i⟩
                rcases List.mem_cons.1 hs with rfl | hs
                · exact ⟨rfl, i.1⟩
                · exact absurd (le_le (hno s hs) i.1) (lt_not (lt_lt q1 hcf))
              · rintro ⟨_, i⟩; exact ⟨_, List.mem_cons_self .., i, q1⟩
            · rw [if_neg q1, hcov c q1]
              have step : inS (⟨lo, cut⟩ :: go n f.cut false (t + e.step) lo (f :: r)) c ↔ inS (go n f.cut false (t + e.step) lo (f :: r)) c := by
                constructor
                · rintro ⟨s, hs, i⟩
                  rcases List.mem_cons.1 hs with rfl | hs
                  · exact absurd i.2 q1
                  · exact ⟨s, hs, i⟩
                · rintro ⟨s, hs, i⟩; exact ⟨s, List.mem_cons_of_mem _ hs, i⟩
              refine (step.trans (k c)).trans ?_
              by_cases q2 : stand c f.cut < 0
              · rw [if_pos q2, hmid c q1 q2]
                constructor
                · rintro ⟨g, _⟩; cases g
                · intro g; exact absurd g h2
              · rw [if_neg q2]
        · rw [if_neg h2]
          cases was with
          | true =>
            have h3 : n ≤ t + e.step := by
              by_cases g : n ≤ t + e.step
              · exact g
              · exact absurd ⟨rfl, g⟩ h2
            obtain ⟨l1, l2⟩ := hlo rfl
            obtain ⟨o, k⟩ := go_open n (f :: r) f.cut true (t + e.step) lo (by simp) hp2 hr2 hfr hfge hself (fun _ => ⟨l1, lt_lt l2 hcf⟩) ht2
            obtain ⟨h, q, e1, e2, e3⟩ := o.yes rfl
            refine ⟨⟨o.norm, fun _ => ⟨h, q, e1, le_le (by omega) e2, fun s hs => lt_lt hcf (e3 s hs)⟩, fun h => by cases h⟩, fun c => (k c).trans ?_⟩
            by_cases q1 : stand c cut < 0
            · rw [if_pos q1, if_pos (lt_lt q1 hcf)]
            · rw [if_neg q1, hcov c q1]
              by_cases q2 : stand c f.cut < 0
              · rw [if_pos q2, hmid c q1 q2]
                exact ⟨fun _ => h3, fun _ => ⟨rfl, le_le (by omega) (not_lt q1)⟩⟩
              · rw [if_neg q2]
          | false =>
            have h3 : ¬ n ≤ t + e.step := fun g => h1 ⟨g, rfl⟩
            obtain ⟨o, k⟩ := go_open n (f :: r) f.cut false (t + e.step) lo (by simp) hp2 hr2 hfr hfge hself (fun h => by cases h) ht2
            have hno := o.no rfl
            refine ⟨⟨o.norm, (fun h => by cases h), fun _ s hs => ?_⟩, fun c => (k c).trans ?_⟩
            · have := lt_le hcf (hno s hs); omega
            · by_cases q1 : stand c cut < 0
              · rw [if_pos q1, if_pos (lt_lt q1 hcf)]
              · rw [if_neg q1, hcov c q1]
                by_cases q2 : stand c f.cut < 0
                · rw [if_pos q2, hmid c q1 q2]
                  constructor
                  · rintro ⟨g, _⟩; cases g
                  · intro g; exact absurd g h3
                · rw [if_neg q2]
/-- What the sweep answers is normal, and has what is covered often enough. -/
theorem sweep_norm {n : Int} (hn : 0 < n) {l : List Edge} (hp : l.Pairwise fun x y => stand x.cut y.cut ≤ 0) (hr : ∀ e ∈ l, right e.cut = true) (ht : total l < n) :
    Norm (sweepL n l) ∧ ∀ c, inS (sweepL n l) c ↔ n ≤ cov l c := by
  cases l with
  | nil =>
    refine ⟨Norm.nil, fun c => ⟨(fun ⟨s, hs, _⟩ => by cases hs), fun h => ?_⟩⟩
    rw [cov_nil] at h; omega
  | cons e r =>
    have hd : decide (n ≤ 0) = false := decide_eq_false (by omega)
    have hge : ∀ x ∈ e :: r, stand e.cut x.cut ≤ 0 := fun x hx => by
      rcases List.mem_cons.1 hx with rfl | hx
      · rw [stand_self]; exact Int.le_refl 0
      · exact sorted_ge hp x hx
    unfold sweepL
    rw [hd]
    obtain ⟨o, k⟩ := go_open n (e :: r) e.cut false 0 low (by simp) hp hr (hr e (List.mem_cons_self ..)) hge ⟨e, r, rfl, stand_self _⟩ (fun h => by cases h) (by omega)
    refine ⟨o.norm, fun c => (k c).trans ?_⟩
    by_cases q : stand c e.cut < 0
    · rw [if_pos q, cov_none fun x hx => lt_le q (hge x hx)]
      constructor
      · rintro ⟨g, _⟩; cases g
      · intro g; omega
    · rw [if_neg q]; omega
/-- The sweep ahead of the next cut. -/
def nextL (n t : Int) (lo : Cut) : List Edge → List Sp
  | [] => []
  | e :: r => go n e.cut (decide (n ≤ t)) t lo (e :: r)
theorem sweepL_next (n : Int) (l : List Edge) : sweepL n l = nextL n 0 low l := by cases l <;> rfl
theorem go_like {n : Int} {cut lo : Cut} {was : Bool} {t : Int} {e f : Edge} {r : List Edge} (h : stand cut f.cut = 0) : go n cut was t lo (e :: f :: r) = go n cut was (t + e.step) lo (f :: r) := by
  rw [go, if_pos h]
/-- No like cut follows. -/
def Ends (cut : Cut) (r : List Edge) : Prop := r = [] ∨ ∃ f q, r = f :: q ∧ stand cut f.cut ≠ 0
theorem go_open_ {n : Int} {cut lo : Cut} {t : Int} {e : Edge} {r : List Edge} (h : Ends cut r) (h1 : n ≤ t + e.step) : go n cut false t lo (e :: r) = nextL n (t + e.step) cut r := by
  rcases h with rfl | ⟨f, q, rfl, h⟩
  · rw [go, if_neg (by rintro ⟨g, _⟩; cases g)]; rfl
  · rw [go, if_neg h, if_pos ⟨h1, rfl⟩]; unfold nextL; rw [decide_eq_true h1]
theorem go_shut {n : Int} {cut lo : Cut} {t : Int} {e : Edge} {r : List Edge} (h : Ends cut r) (h1 : ¬ n ≤ t + e.step) : go n cut true t lo (e :: r) = ⟨lo, cut⟩ :: nextL n (t + e.step) lo r := by
  rcases h with rfl | ⟨f, q, rfl, h⟩
  · rw [go, if_pos ⟨rfl, h1⟩]; rfl
  · rw [go, if_neg h, if_neg (fun g => h1 g.1), if_pos ⟨rfl, h1⟩]; unfold nextL; rw [decide_eq_false h1]
theorem go_same {n : Int} {cut lo : Cut} {was : Bool} {t : Int} {e : Edge} {r : List Edge} (h : Ends cut r) (h1 : decide (n ≤ t + e.step) = was) : go n cut was t lo (e :: r) = nextL n (t + e.step) lo r := by
  have h2 : ¬ (was = true ∧ ¬ n ≤ t + e.step) := by rintro ⟨rfl, g⟩; exact g (of_decide_eq_true h1)
  have h3 : ¬ (n ≤ t + e.step ∧ was = false) := by rintro ⟨g, rfl⟩; exact of_decide_eq_false h1 g
  rcases h with rfl | ⟨f, q, rfl, h⟩
  · rw [go, if_neg h2]; rfl
  · rw [go, if_neg h, if_neg h3, if_neg h2]; unfold nextL; rw [h1]
end Go.Proofs.YtgfbflnhjpbceaaGreatDoor.Span

namespace Go.Proofs.YtgfbflnhjpbceaaGreatDoor.Span
open Go.RowKit Num Ident Semver Prec

/-- A cut in memory: beside its kind and version where the rows lie. -/
structure RCut where
  kind : Int
  v : Ver
  A : Option Addr
  c : Nat
  B : Option Addr
  d : Nat
def RCut.cut (r : RCut) : Cut := ⟨r.kind, r.v⟩
/-- A span in memory. -/
structure RSp where
  lo : RCut
  hi : RCut
def RSp.sp (s : RSp) : Sp := ⟨s.lo.cut, s.hi.cut⟩
/-- An edge in memory. -/
structure REdge where
  cut : RCut
  step : Int
def REdge.edge (e : REdge) : Edge := ⟨e.cut.cut, e.step⟩
def rlow : RCut := ⟨0, noVer, none, 0, none, 0⟩
def rhigh : RCut := ⟨3, noVer, none, 0, none, 0⟩
instance : Inhabited RSp := ⟨⟨rlow, rlow⟩⟩
instance : Inhabited REdge := ⟨⟨rlow, 0⟩⟩
def RCut.vals (r : RCut) : List Value := [.int .i64 r.kind, .int .u64 (r.v.a : Int), .int .u64 (r.v.b : Int), .int .u64 (r.v.c : Int), .slice r.A r.v.pre.length r.c, .slice r.B r.v.build.length r.d]
def RSp.vals (s : RSp) : List Value := [.int .i64 s.lo.kind, .int .u64 (s.lo.v.a : Int), .int .u64 (s.lo.v.b : Int), .int .u64 (s.lo.v.c : Int), .slice s.lo.A s.lo.v.pre.length s.lo.c, .slice s.lo.B s.lo.v.build.length s.lo.d, .int .i64 s.hi.kind, .int .u64 (s.hi.v.a : Int), .int .u64 (s.hi.v.b : Int), .int .u64 (s.hi.v.c : Int), .slice s.hi.A s.hi.v.pre.length s.hi.c, .slice s.hi.B s.hi.v.build.length s.hi.d]
def REdge.vals (e : REdge) : List Value := [.int .i64 e.cut.kind, .int .u64 (e.cut.v.a : Int), .int .u64 (e.cut.v.b : Int), .int .u64 (e.cut.v.c : Int), .slice e.cut.A e.cut.v.pre.length e.cut.c, .slice e.cut.B e.cut.v.build.length e.cut.d, .int .i64 e.step]
/-- The rows of a cut's version lie where it says, and have lengths that the form allows. -/
structure Lies (w : World) (r : RCut) : Prop where
  pre : SRow w r.A r.v.pre.length r.v.pre
  build : SRow w r.B r.v.build.length r.v.build
  fpre : Fit r.v.pre
  fbuild : Fit r.v.build
theorem Lies.kept {w w' : World} {r : RCut} (h : Lies w r) (hb : Below w.heap.size w w') : Lies w' r := ⟨h.pre.kept hb, h.build.kept hb, h.fpre, h.fbuild⟩
theorem Lies.low (w : World) : Lies w rlow := ⟨SRow.none_ _ _, SRow.none_ _ _, Fit.nil, Fit.nil⟩
theorem Lies.high (w : World) : Lies w rhigh := ⟨SRow.none_ _ _, SRow.none_ _ _, Fit.nil, Fit.nil⟩
structure LiesS (w : World) (s : RSp) : Prop where
  lo : Lies w s.lo
  hi : Lies w s.hi
theorem LiesS.kept {w w' : World} {s : RSp} (h : LiesS w s) (hb : Below w.heap.size w w') : LiesS w' s := ⟨h.lo.kept hb, h.hi.kept hb⟩
theorem vals_one (r : RCut) : ∀ u ∈ r.vals, u.oneCell' = true := by
  intro u hu; simp only [RCut.vals, List.mem_cons, List.mem_nil_iff, or_false] at hu
  rcases hu with rfl | rfl | rfl | rfl | rfl | rfl <;> rfl
theorem svals_eq (s : RSp) : s.vals = s.lo.vals ++ s.hi.vals := rfl
theorem evals_eq (e : REdge) : e.vals = e.cut.vals ++ [.int .i64 e.step] := rfl
theorem svals_one (s : RSp) : ∀ u ∈ s.vals, u.oneCell' = true := by
  intro u hu; rw [svals_eq, List.mem_append] at hu
  exact hu.elim (vals_one _ u) (vals_one _ u)
theorem evals_one (e : REdge) : ∀ u ∈ e.vals, u.oneCell' = true := by
  intro u hu; rw [evals_eq, List.mem_append] at hu
  rcases hu with h | h
  · exact vals_one _ u h
  · rw [List.mem_singleton] at h; subst h; rfl

/-- A block of 6 cells, none frozen. -/
def At6B (W : World) (b : Nat) (u0 u1 u2 u3 u4 u5 : Value) : Prop := b < W.heap.size ∧ (∀ o, W.frozen? ⟨b, o, none⟩ = false) ∧ W.cell? ⟨b, 0, none⟩ = some u0 ∧ W.cell? ⟨b, 1, none⟩ = some u1 ∧ W.cell? ⟨b, 2, none⟩ = some u2 ∧ W.cell? ⟨b, 3, none⟩ = some u3 ∧ W.cell? ⟨b, 4, none⟩ = some u4 ∧ W.cell? ⟨b, 5, none⟩ = some u5
theorem At6B.new (w : World) (t : TypeId) (u0 u1 u2 u3 u4 u5 : Value) : At6B (w.alloc (.cells #[u0, u1, u2, u3, u4, u5] t)) w.heap.size u0 u1 u2 u3 u4 u5 := by
  unfold At6B
  refine ⟨by simp, fun o => by simp [go_sem], ?_, ?_, ?_, ?_, ?_, ?_⟩ <;> simp [go_sem]
theorem At6B.kept {W W' : World} {b B : Nat} {u0 u1 u2 u3 u4 u5 : Value} (h : At6B W b u0 u1 u2 u3 u4 u5) (hb : Below B W W') (hB : b < B) : At6B W' b u0 u1 u2 u3 u4 u5 := by
  obtain ⟨h1, h2, c0, c1, c2, c3, c4, c5⟩ := h
  exact ⟨Nat.lt_of_lt_of_le h1 hb.size, fun o => (hb.frozen (p := ⟨b, o, none⟩) hB).trans (h2 o), (hb.cell (p := ⟨b, 0, none⟩) hB).trans c0, (hb.cell (p := ⟨b, 1, none⟩) hB).trans c1, (hb.cell (p := ⟨b, 2, none⟩) hB).trans c2, (hb.cell (p := ⟨b, 3, none⟩) hB).trans c3, (hb.cell (p := ⟨b, 4, none⟩) hB).trans c4, (hb.cell (p := ⟨b, 5, none⟩) hB).trans c5⟩
/-- A block of 7 cells, none frozen. -/
def At7B (W : World) (b : Nat) (u0 u1 u2 u3 u4 u5 u6 : Value) : Prop := b < W.heap.size ∧ (∀ o, W.frozen? ⟨b, o, none⟩ = false) ∧ W.cell? ⟨b, 0, none⟩ = some u0 ∧ W.cell? ⟨b, 1, none⟩ = some u1 ∧ W.cell? ⟨b, 2, none⟩ = some u2 ∧ W.cell? ⟨b, 3, none⟩ = some u3 ∧ W.cell? ⟨b, 4, none⟩ = some u4 ∧ W.cell? ⟨b, 5, none⟩ = some u5 ∧ W.cell? ⟨b, 6, none⟩ = some u6
theorem At7B.new (w : World) (t : TypeId) (u0 u1 u2 u3 u4 u5 u6 : Value) : At7B (w.alloc (.cells #[u0, u1, u2, u3, u4, u5, u6] t)) w.heap.size u0 u1 u2 u3 u4 u5 u6 := by
  unfold At7B
  refine ⟨by simp, fun o => by simp [go_sem], ?_, ?_, ?_, ?_, ?_, ?_, ?_⟩ <;> simp [go_sem]
theorem At7B.kept {W W' : World} {b B : Nat} {u0 u1 u2 u3 u4 u5 u6 : Value} (h : At7B W b u0 u1 u2 u3 u4 u5 u6) (hb : Below B W W') (hB : b < B) : At7B W' b u0 u1 u2 u3 u4 u5 u6 := by
  obtain ⟨h1, h2, c0, c1, c2, c3, c4, c5, c6⟩ := h
  exact ⟨Nat.lt_of_lt_of_le h1 hb.size, fun o => (hb.frozen (p := ⟨b, o, none⟩) hB).trans (h2 o), (hb.cell (p := ⟨b, 0, none⟩) hB).trans c0, (hb.cell (p := ⟨b, 1, none⟩) hB).trans c1, (hb.cell (p := ⟨b, 2, none⟩) hB).trans c2, (hb.cell (p := ⟨b, 3, none⟩) hB).trans c3, (hb.cell (p := ⟨b, 4, none⟩) hB).trans c4, (hb.cell (p := ⟨b, 5, none⟩) hB).trans c5, (hb.cell (p := ⟨b, 6, none⟩) hB).trans c6⟩
/-- A block of 12 cells, none frozen. -/
def At12B (W : World) (b : Nat) (u0 u1 u2 u3 u4 u5 u6 u7 u8 u9 u10 u11 : Value) : Prop := b < W.heap.size ∧ (∀ o, W.frozen? ⟨b, o, none⟩ = false) ∧ W.cell? ⟨b, 0, none⟩ = some u0 ∧ W.cell? ⟨b, 1, none⟩ = some u1 ∧ W.cell? ⟨b, 2, none⟩ = some u2 ∧ W.cell? ⟨b, 3, none⟩ = some u3 ∧ W.cell? ⟨b, 4, none⟩ = some u4 ∧ W.cell? ⟨b, 5, none⟩ = some u5 ∧ W.cell? ⟨b, 6, none⟩ = some u6 ∧ W.cell? ⟨b, 7, none⟩ = some u7 ∧ W.cell? ⟨b, 8, none⟩ = some u8 ∧ W.cell? ⟨b, 9, none⟩ = some u9 ∧ W.cell? ⟨b, 10, none⟩ = some u10 ∧ W.cell? ⟨b, 11, none⟩ = some u11
theorem At12B.new (w : World) (t : TypeId) (u0 u1 u2 u3 u4 u5 u6 u7 u8 u9 u10 u11 : Value) : At12B (w.alloc (.cells #[u0, u1, u2, u3, u4, u5, u6, u7, u8, u9, u10, u11] t)) w.heap.size u0 u1 u2 u3 u4 u5 u6 u7 u8 u9 u10 u11 := by
  unfold At12B
  refine ⟨by simp, fun o => by simp [go_sem], ?_, ?_, ?_, ?_, ?_, ?_, ?_, ?_, ?_, ?_, ?_, ?_⟩ <;> simp [go_sem]
theorem At12B.kept {W W' : World} {b B : Nat} {u0 u1 u2 u3 u4 u5 u6 u7 u8 u9 u10 u11 : Value} (h : At12B W b u0 u1 u2 u3 u4 u5 u6 u7 u8 u9 u10 u11) (hb : Below B W W') (hB : b < B) : At12B W' b u0 u1 u2 u3 u4 u5 u6 u7 u8 u9 u10 u11 := by
  obtain ⟨h1, h2, c0, c1, c2, c3, c4, c5, c6, c7, c8, c9, c10, c11⟩ := h
  exact ⟨Nat.lt_of_lt_of_le h1 hb.size, fun o => (hb.frozen (p := ⟨b, o, none⟩) hB).trans (h2 o), (hb.cell (p := ⟨b, 0, none⟩) hB).trans c0, (hb.cell (p := ⟨b, 1, none⟩) hB).trans c1, (hb.cell (p := ⟨b, 2, none⟩) hB).trans c2, (hb.cell (p := ⟨b, 3, none⟩) hB).trans c3, (hb.cell (p := ⟨b, 4, none⟩) hB).trans c4, (hb.cell (p := ⟨b, 5, none⟩) hB).trans c5, (hb.cell (p := ⟨b, 6, none⟩) hB).trans c6, (hb.cell (p := ⟨b, 7, none⟩) hB).trans c7, (hb.cell (p := ⟨b, 8, none⟩) hB).trans c8, (hb.cell (p := ⟨b, 9, none⟩) hB).trans c9, (hb.cell (p := ⟨b, 10, none⟩) hB).trans c10, (hb.cell (p := ⟨b, 11, none⟩) hB).trans c11⟩

/-- The slice of n spans at A reads as the list l; a slice without spans may lie anywhere. -/
def SpRow (w : World) (A : Option Addr) (n : Nat) (l : List RSp) : Prop :=
  l.length = n ∧ (∀ s ∈ l, LiesS w s) ∧ (0 < n → ∃ b o, A = some ⟨b, o, none⟩ ∧ b < w.heap.size ∧ ∀ j, j < n → ∀ i v, (l.getD j default).vals[i]? = some v → w.cell? ⟨b, o + j * 12 + i, none⟩ = some v)
theorem SpRow.none_ (w : World) (A : Option Addr) : SpRow w A 0 [] := ⟨rfl, (fun s h => by cases h), fun h => by omega⟩
theorem SpRow.kept {w w' : World} {A : Option Addr} {n : Nat} {l : List RSp} (h : SpRow w A n l) (hb : Below w.heap.size w w') : SpRow w' A n l := by
  refine ⟨h.1, fun s hs => (h.2.1 s hs).kept hb, fun h0 => ?_⟩
  obtain ⟨b, o, e, hlt, hc⟩ := h.2.2 h0
  exact ⟨b, o, e, Nat.lt_of_lt_of_le hlt hb.size, fun j hj i v hv => (hb.cell (p := ⟨b, o + j * 12 + i, none⟩) hlt).trans (hc j hj i v hv)⟩
theorem getS_mem {l : List RSp} {k : Nat} (h : k < l.length) : l.getD k default ∈ l := by simp [List.getD, List.getElem?_eq_getElem h]
theorem SpRow.lies {w : World} {A : Option Addr} {n : Nat} {l : List RSp} (h : SpRow w A n l) {k : Nat} (hk : k < n) : LiesS w (l.getD k default) := h.2.1 _ (getS_mem (by rw [h.1]; exact hk))
/-- The twelve cells of the k-th span. -/
theorem SpRow.cells {w : World} {b o n : Nat} {l : List RSp} (h : ∀ j, j < n → ∀ i v, (l.getD j default).vals[i]? = some v → w.cell? ⟨b, o + j * 12 + i, none⟩ = some v) {k : Nat} (hk : k < n) :
    w.cell? ⟨b, o + k * 12, none⟩ = some (.int .i64 (l.getD k default).lo.kind) ∧ w.cell? ⟨b, o + k * 12 + 1, none⟩ = some (.int .u64 ((l.getD k default).lo.v.a : Int)) ∧ w.cell? ⟨b, o + k * 12 + 2, none⟩ = some (.int .u64 ((l.getD k default).lo.v.b : Int)) ∧ w.cell? ⟨b, o + k * 12 + 3, none⟩ = some (.int .u64 ((l.getD k default).lo.v.c : Int)) ∧ w.cell? ⟨b, o + k * 12 + 4, none⟩ = some (.slice (l.getD k default).lo.A (l.getD k default).lo.v.pre.length (l.getD k default).lo.c) ∧ w.cell? ⟨b, o + k * 12 + 5, none⟩ = some (.slice (l.getD k default).lo.B (l.getD k default).lo.v.build.length (l.getD k default).lo.d) ∧ w.cell? ⟨b, o + k * 12 + 6, none⟩ = some (.int .i64 (l.getD k default).hi.kind) ∧ w.cell? ⟨b, o + k * 12 + 7, none⟩ = some (.int .u64 ((l.getD k default).hi.v.a : Int)) ∧ w.cell? ⟨b, o + k * 12 + 8, none⟩ = some (.int .u64 ((l.getD k default).hi.v.b : Int)) ∧ w.cell? ⟨b, o + k * 12 + 9, none⟩ = some (.int .u64 ((l.getD k default).hi.v.c : Int)) ∧ w.cell? ⟨b, o + k * 12 + 10, none⟩ = some (.slice (l.getD k default).hi.A (l.getD k default).hi.v.pre.length (l.getD k default).hi.c) ∧ w.cell? ⟨b, o + k * 12 + 11, none⟩ = some (.slice (l.getD k default).hi.B (l.getD k default).hi.v.build.length (l.getD k default).hi.d) :=
  ⟨h k hk 0 _ rfl, h k hk 1 _ rfl, h k hk 2 _ rfl, h k hk 3 _ rfl, h k hk 4 _ rfl, h k hk 5 _ rfl, h k hk 6 _ rfl, h k hk 7 _ rfl, h k hk 8 _ rfl, h k hk 9 _ rfl, h k hk 10 _ rfl, h k hk 11 _ rfl⟩

end Go.Proofs.YtgfbflnhjpbceaaGreatDoor.Span

namespace Go.Proofs.YtgfbflnhjpbceaaGreatDoor.Span
open Go.RowKit Num Ident Semver Prec

set_option maxRecDepth 100000 in
set_option maxHeartbeats 800000 in
theorem cmpI_any (x y : Int) (w : World) :
    Calls Tryz.prog 80 #[.int .i64 x, .int .i64 y] w fun e w' => e = .returned (.int .i64 (ordI x y)) ∧ w = w' := by
  rcases Int.lt_trichotomy x y with h | h | h
  · have HF := Lib.hid (ordI_lt h)
    go_enter Tryz.func80, Tryz.ntmps80
    go_wp2
    go_ret
    exact ⟨by rw [HF.out]; rfl, rfl⟩
  · have HF := Lib.hid (ordI_eq h)
    subst h
    go_enter Tryz.func80, Tryz.ntmps80
    go_wp2
    go_ret
    exact ⟨by rw [HF.out]; rfl, rfl⟩
  · have HF := Lib.hid (ordI_gt h)
    go_enter Tryz.func80, Tryz.ntmps80
    go_wp2
    go_ret
    exact ⟨by rw [HF.out]; rfl, rfl⟩
/-- semver.Same of a version and the zero one. -/
theorem same_none (v : Ver) (A : Option Addr) (c : Nat) (B : Option Addr) (d : Nat) (w : World) (r1 : SRow w A v.pre.length v.pre) (r2 : SRow w B v.build.length v.build) (h1 : v.pre.length ≤ maxLen) (h2 : v.build.length ≤ maxLen) :
    Calls Tryz.prog 56 #[.agg #[.int .u64 (v.a : Int), .int .u64 (v.b : Int), .int .u64 (v.c : Int), .slice A v.pre.length c, .slice B v.build.length d], .agg #[.int .u64 0, .int .u64 0, .int .u64 0, .slice none 0 0, .slice none 0 0]] w fun e w' => e = .returned (.bool (sameV v noVer)) ∧ Below w.heap.size w w' :=
  same_parts A v.pre.length c v.pre B v.build.length d v.build none 0 0 [] none 0 0 [] v.a v.b v.c 0 0 0 w r1 r2 (SRow.none_ _ _) (SRow.none_ _ _) h1 h2 (Nat.zero_le _) (Nat.zero_le _)

set_option maxRecDepth 100000 in
set_option maxHeartbeats 1600000 in
theorem right_any (r : RCut) (w : World) (h : Lies w r) :
    Calls Tryz.prog 79 #[.agg #[.int .i64 r.kind, .int .u64 (r.v.a : Int), .int .u64 (r.v.b : Int), .int .u64 (r.v.c : Int), .slice r.A r.v.pre.length r.c, .slice r.B r.v.build.length r.d]] w fun e w' => e = .returned (.bool (right r.cut)) ∧ Below w.heap.size w w' := by
  have HBa : Hid (Below w.heap.size w (w.alloc (.cells #[.int .i64 r.kind, .int .u64 (r.v.a : Int), .int .u64 (r.v.b : Int), .int .u64 (r.v.c : Int), .slice r.A r.v.pre.length r.c, .slice r.B r.v.build.length r.d] 41))) := (Below.refl _ _).alloc (Nat.le_refl _) _
  have HL := Lib.hid (h.kept HBa.out)
  have K0 : Hid (At6B (w.alloc (.cells #[.int .i64 r.kind, .int .u64 (r.v.a : Int), .int .u64 (r.v.b : Int), .int .u64 (r.v.c : Int), .slice r.A r.v.pre.length r.c, .slice r.B r.v.build.length r.d] 41)) w.heap.size (.int .i64 r.kind) (.int .u64 (r.v.a : Int)) (.int .u64 (r.v.b : Int)) (.int .u64 (r.v.c : Int)) (.slice r.A r.v.pre.length r.c) (.slice r.B r.v.build.length r.d)) := At6B.new w _ _ _ _ _ _ _
  clear h
  have HR : Hid (right r.cut = right ⟨r.kind, r.v⟩) := rfl
  by_cases h0 : r.kind = 0 ∨ r.kind = 3
  · have HF : Hid (right r.cut = sameV r.v noVer) := right_ends h0
    have hs : (r.kind == 0) = true ∨ ((r.kind == 0) = false ∧ (r.kind == 3) = true) := by
      rcases h0 with h0 | h0
      · left; simp [h0]
      · right; simp [h0]
    clear h0 HR
    rcases hs with e0 | ⟨e0, e3⟩
    all_goals
      go_enter Tryz.func79, Tryz.ntmps79
      go_upto_region 1 with (fail)
      generalize (w.alloc (.cells #[.int .i64 r.kind, .int .u64 (r.v.a : Int), .int .u64 (r.v.b : Int), .int .u64 (r.v.c : Int), .slice r.A r.v.pre.length r.c, .slice r.B r.v.build.length r.d] 41)) = W at HBa HL K0 ⊢
      obtain ⟨hz, _, x0, x1, x2, x3, x4, x5⟩ := K0.out
      go_wp2_with fail
      refine (same_none r.v r.A r.c r.B r.d _ HL.out.pre HL.out.build HL.out.fpre.1 HL.out.fbuild.1).mono ?_
      rintro e w1 ⟨rfl, hb1⟩
      have B1 := Lib.hid (HBa.out.trans (hb1.mono HBa.out.size))
      clear hb1 x0 x1 x2 x3 x4 x5
      go_wp2
      go_ret
      exact ⟨by rw [HF.out]; rfl, B1.out⟩
  have e0 : (r.kind == 0) = false := by simp; omega
  have e3 : (r.kind == 3) = false := by simp; omega
  by_cases h1 : r.kind = 1 ∨ r.kind = 2
  · have HF : Hid (right r.cut = (goodV r.v && decide (r.v.build.length = 0))) := right_ver h1
    have hs : (r.kind == 1) = true ∨ ((r.kind == 1) = false ∧ (r.kind == 2) = true) := by
      rcases h1 with h1 | h1
      · left; simp [h1]
      · right; simp [h1]
    clear h0 h1 HR
    rcases hs with e1 | ⟨e1, e2⟩
    all_goals
      go_enter Tryz.func79, Tryz.ntmps79
      go_upto_region 1 with (fail)
      generalize (w.alloc (.cells #[.int .i64 r.kind, .int .u64 (r.v.a : Int), .int .u64 (r.v.b : Int), .int .u64 (r.v.c : Int), .slice r.A r.v.pre.length r.c, .slice r.B r.v.build.length r.d] 41)) = W at HBa HL K0 ⊢
      obtain ⟨hz, _, x0, x1, x2, x3, x4, x5⟩ := K0.out
      go_wp2_with fail
      refine (vgood_any r.v r.A r.c r.B r.d _ HL.out.pre HL.out.build HL.out.fpre.1 HL.out.fbuild.1 HL.out.fpre.2 HL.out.fbuild.2).mono ?_
      rintro e w1 ⟨rfl, hb1⟩
      have B1 := Lib.hid (HBa.out.trans (hb1.mono HBa.out.size))
      have K1 := Lib.hid (K0.out.kept hb1 hz)
      clear hb1 x0 x1 x2 x3 x4 x5 hz
      obtain ⟨hz, _, x0, x1, x2, x3, x4, x5⟩ := K1.out
      generalize goodV r.v = g at HF ⊢
      cases g
      · go_wp2
        go_ret
        exact ⟨by rw [HF.out]; rfl, B1.out⟩
      · by_cases hb : r.v.build.length = 0
        · have HF2 : Hid (right r.cut = true) := by have := HF.out; rw [this, decide_eq_true hb]; rfl
          have eb : ((r.v.build.length : Int) == 0) = true := by rw [beq_iff_eq]; omega
          clear HF hb
          go_wp2
          go_ret
          exact ⟨by rw [HF2.out]; rfl, B1.out⟩
        · have HF2 : Hid (right r.cut = false) := by have := HF.out; rw [this, decide_eq_false hb]; rfl
          have eb : ((r.v.build.length : Int) == 0) = false := by rw [beq_eq_false_iff_ne]; omega
          clear HF hb
          go_wp2
          go_ret
          exact ⟨by rw [HF2.out]; rfl, B1.out⟩
  · have HF : Hid (right r.cut = false) := right_none h0 h1
    have e1 : (r.kind == 1) = false := by simp; omega
    have e2 : (r.kind == 2) = false := by simp; omega
    clear h0 h1 HR
    go_enter Tryz.func79, Tryz.ntmps79
    go_upto_region 1 with (fail)
    generalize (w.alloc (.cells #[.int .i64 r.kind, .int .u64 (r.v.a : Int), .int .u64 (r.v.b : Int), .int .u64 (r.v.c : Int), .slice r.A r.v.pre.length r.c, .slice r.B r.v.build.length r.d] 41)) = W at HBa HL K0 ⊢
    obtain ⟨hz, _, x0, x1, x2, x3, x4, x5⟩ := K0.out
    go_wp2
    go_ret
    exact ⟨by rw [HF.out]; rfl, HBa.out⟩

set_option maxRecDepth 100000 in
set_option maxHeartbeats 1600000 in
theorem ofVer_any (r : RCut) (w : World) :
    Calls Tryz.prog 109 #[.agg #[.int .i64 r.kind, .int .u64 (r.v.a : Int), .int .u64 (r.v.b : Int), .int .u64 (r.v.c : Int), .slice r.A r.v.pre.length r.c, .slice r.B r.v.build.length r.d]] w fun e w' => e = .returned (.bool (ofVer r.cut)) ∧ BelowD w.heap.size w w' := by
  have HBa : Hid (BelowD w.heap.size w (w.alloc (.cells #[.int .i64 r.kind, .int .u64 (r.v.a : Int), .int .u64 (r.v.b : Int), .int .u64 (r.v.c : Int), .slice r.A r.v.pre.length r.c, .slice r.B r.v.build.length r.d] 41))) := (BelowD.refl _ _).alloc (Nat.le_refl _) _
  have K0 : Hid (At6B (w.alloc (.cells #[.int .i64 r.kind, .int .u64 (r.v.a : Int), .int .u64 (r.v.b : Int), .int .u64 (r.v.c : Int), .slice r.A r.v.pre.length r.c, .slice r.B r.v.build.length r.d] 41)) w.heap.size (.int .i64 r.kind) (.int .u64 (r.v.a : Int)) (.int .u64 (r.v.b : Int)) (.int .u64 (r.v.c : Int)) (.slice r.A r.v.pre.length r.c) (.slice r.B r.v.build.length r.d)) := At6B.new w _ _ _ _ _ _ _
  by_cases h1 : r.kind = 1
  · have HF : Hid (ofVer r.cut = true) := (ofVer_iff _).2 (.inl h1)
    have e1 : (r.kind == 1) = true := by simp [h1]
    clear h1
    go_enter Tryz.func109, Tryz.ntmps109
    go_upto_region 1 with (fail)
    generalize (w.alloc (.cells #[.int .i64 r.kind, .int .u64 (r.v.a : Int), .int .u64 (r.v.b : Int), .int .u64 (r.v.c : Int), .slice r.A r.v.pre.length r.c, .slice r.B r.v.build.length r.d] 41)) = W at HBa K0 ⊢
    obtain ⟨hz, _, x0, x1, x2, x3, x4, x5⟩ := K0.out
    go_wp2
    go_ret
    exact ⟨by rw [HF.out]; rfl, HBa.out⟩
  have e1 : (r.kind == 1) = false := by simp; omega
  by_cases h2 : r.kind = 2
  · have HF : Hid (ofVer r.cut = true) := (ofVer_iff _).2 (.inr h2)
    have e2 : (r.kind == 2) = true := by simp [h2]
    clear h1 h2
    go_enter Tryz.func109, Tryz.ntmps109
    go_upto_region 1 with (fail)
    generalize (w.alloc (.cells #[.int .i64 r.kind, .int .u64 (r.v.a : Int), .int .u64 (r.v.b : Int), .int .u64 (r.v.c : Int), .slice r.A r.v.pre.length r.c, .slice r.B r.v.build.length r.d] 41)) = W at HBa K0 ⊢
    obtain ⟨hz, _, x0, x1, x2, x3, x4, x5⟩ := K0.out
    go_wp2
    go_ret
    exact ⟨by rw [HF.out]; rfl, HBa.out⟩
  · have HF : Hid (ofVer r.cut = false) := (ofVer_no _).2 (by show ¬ (r.kind = 1 ∨ r.kind = 2); omega)
    have e2 : (r.kind == 2) = false := by simp; omega
    clear h1 h2
    go_enter Tryz.func109, Tryz.ntmps109
    go_upto_region 1 with (fail)
    generalize (w.alloc (.cells #[.int .i64 r.kind, .int .u64 (r.v.a : Int), .int .u64 (r.v.b : Int), .int .u64 (r.v.c : Int), .slice r.A r.v.pre.length r.c, .slice r.B r.v.build.length r.d] 41)) = W at HBa K0 ⊢
    obtain ⟨hz, _, x0, x1, x2, x3, x4, x5⟩ := K0.out
    go_wp2
    go_ret
    exact ⟨by rw [HF.out]; rfl, HBa.out⟩

set_option maxRecDepth 100000 in
set_option maxHeartbeats 3200000 in
theorem stand_anyD (r s : RCut) (w : World) (h1 : Lies w r) (h2 : Lies w s) :
    Calls Tryz.prog 81 #[.agg #[.int .i64 r.kind, .int .u64 (r.v.a : Int), .int .u64 (r.v.b : Int), .int .u64 (r.v.c : Int), .slice r.A r.v.pre.length r.c, .slice r.B r.v.build.length r.d], .agg #[.int .i64 s.kind, .int .u64 (s.v.a : Int), .int .u64 (s.v.b : Int), .int .u64 (s.v.c : Int), .slice s.A s.v.pre.length s.c, .slice s.B s.v.build.length s.d]] w fun e w' => e = .returned (.int .i64 (stand r.cut s.cut)) ∧ BelowD w.heap.size w w' := by
  have HBa : Hid (BelowD w.heap.size w ((w.alloc (.cells #[.int .i64 r.kind, .int .u64 (r.v.a : Int), .int .u64 (r.v.b : Int), .int .u64 (r.v.c : Int), .slice r.A r.v.pre.length r.c, .slice r.B r.v.build.length r.d] 41)).alloc (.cells #[.int .i64 s.kind, .int .u64 (s.v.a : Int), .int .u64 (s.v.b : Int), .int .u64 (s.v.c : Int), .slice s.A s.v.pre.length s.c, .slice s.B s.v.build.length s.d] 41))) := ((BelowD.refl _ _).alloc (Nat.le_refl _) _).alloc (by simp) _
  have HL := Lib.hid (h1.kept HBa.out.toBelow)
  have HM := Lib.hid (h2.kept HBa.out.toBelow)
  have K0 : Hid (At6B ((w.alloc (.cells #[.int .i64 r.kind, .int .u64 (r.v.a : Int), .int .u64 (r.v.b : Int), .int .u64 (r.v.c : Int), .slice r.A r.v.pre.length r.c, .slice r.B r.v.build.length r.d] 41)).alloc (.cells #[.int .i64 s.kind, .int .u64 (s.v.a : Int), .int .u64 (s.v.b : Int), .int .u64 (s.v.c : Int), .slice s.A s.v.pre.length s.c, .slice s.B s.v.build.length s.d] 41)) w.heap.size (.int .i64 r.kind) (.int .u64 (r.v.a : Int)) (.int .u64 (r.v.b : Int)) (.int .u64 (r.v.c : Int)) (.slice r.A r.v.pre.length r.c) (.slice r.B r.v.build.length r.d)) := (At6B.new w _ _ _ _ _ _ _).kept ((Below.refl _ _).alloc (Nat.le_refl _) _) (by simp)
  have J0 : Hid (At6B ((w.alloc (.cells #[.int .i64 r.kind, .int .u64 (r.v.a : Int), .int .u64 (r.v.b : Int), .int .u64 (r.v.c : Int), .slice r.A r.v.pre.length r.c, .slice r.B r.v.build.length r.d] 41)).alloc (.cells #[.int .i64 s.kind, .int .u64 (s.v.a : Int), .int .u64 (s.v.b : Int), .int .u64 (s.v.c : Int), .slice s.A s.v.pre.length s.c, .slice s.B s.v.build.length s.d] 41)) (w.heap.size + 1) (.int .i64 s.kind) (.int .u64 (s.v.a : Int)) (.int .u64 (s.v.b : Int)) (.int .u64 (s.v.c : Int)) (.slice s.A s.v.pre.length s.c) (.slice s.B s.v.build.length s.d)) := by
    have := At6B.new (w.alloc (.cells #[.int .i64 r.kind, .int .u64 (r.v.a : Int), .int .u64 (r.v.b : Int), .int .u64 (r.v.c : Int), .slice r.A r.v.pre.length r.c, .slice r.B r.v.build.length r.d] 41)) 41 (.int .i64 s.kind) (.int .u64 (s.v.a : Int)) (.int .u64 (s.v.b : Int)) (.int .u64 (s.v.c : Int)) (.slice s.A s.v.pre.length s.c) (.slice s.B s.v.build.length s.d)
    rw [size_alloc] at this; exact this
  clear h1 h2
  have HF : Hid (stand r.cut s.cut = if ofVer r.cut = true ∧ ofVer s.cut = true ∧ cmpV r.v s.v ≠ 0 then cmpV r.v s.v else ordI r.kind s.kind) := rfl
  go_enter Tryz.func81, Tryz.ntmps81
  go_upto_region 1 with (fail)
  generalize ((w.alloc (.cells #[.int .i64 r.kind, .int .u64 (r.v.a : Int), .int .u64 (r.v.b : Int), .int .u64 (r.v.c : Int), .slice r.A r.v.pre.length r.c, .slice r.B r.v.build.length r.d] 41)).alloc (.cells #[.int .i64 s.kind, .int .u64 (s.v.a : Int), .int .u64 (s.v.b : Int), .int .u64 (s.v.c : Int), .slice s.A s.v.pre.length s.c, .slice s.B s.v.build.length s.d] 41)) = W at HBa HL HM K0 J0 ⊢
  obtain ⟨hz, _, x0, x1, x2, x3, x4, x5⟩ := K0.out
  obtain ⟨hy, _, y0, y1, y2, y3, y4, y5⟩ := J0.out
  go_wp2_with fail
  refine (ofVer_any r _).mono ?_
  rintro e w1 ⟨rfl, hb1⟩
  have K1 := Lib.hid (K0.out.kept hb1.toBelow hz)
  have J1 := Lib.hid (J0.out.kept hb1.toBelow hy)
  have L1 := Lib.hid (HL.out.kept hb1.toBelow)
  have M1 := Lib.hid (HM.out.kept hb1.toBelow)
  have B1 := Lib.hid (HBa.out.trans (hb1.mono HBa.out.size))
  clear hb1 hz hy
  clear x0 x1 x2 x3 x4 x5 y0 y1 y2 y3 y4 y5
  obtain ⟨hz1, _, x0, x1, x2, x3, x4, x5⟩ := K1.out
  obtain ⟨hy1, _, y0, y1, y2, y3, y4, y5⟩ := J1.out
  generalize ofVer r.cut = g1 at HF ⊢
  cases g1
  · have HF2 : Hid (stand r.cut s.cut = ordI r.kind s.kind) := by have := HF.out; rw [if_neg (by rintro ⟨h, _⟩; cases h)] at this; exact this
    clear HF
    go_wp2_with fail
    refine (cmpI_any _ _ _).mono ?_
    rintro e w' ⟨rfl, rfl⟩
    go_wp2
    go_ret
    exact ⟨by rw [HF2.out]; rfl, B1.out⟩
  go_wp2_with fail
  refine (ofVer_any s _).mono ?_
  rintro e w2 ⟨rfl, hb2⟩
  have K2 := Lib.hid (K1.out.kept hb2.toBelow hz1)
  have J2 := Lib.hid (J1.out.kept hb2.toBelow hy1)
  have L2 := Lib.hid (L1.out.kept hb2.toBelow)
  have M2 := Lib.hid (M1.out.kept hb2.toBelow)
  have B2 := Lib.hid (B1.out.trans (hb2.mono B1.out.size))
  clear hb2 hz1 hy1
  clear x0 x1 x2 x3 x4 x5 y0 y1 y2 y3 y4 y5
  obtain ⟨hz2, _, x0, x1, x2, x3, x4, x5⟩ := K2.out
  obtain ⟨hy2, _, y0, y1, y2, y3, y4, y5⟩ := J2.out
  generalize ofVer s.cut = g2 at HF ⊢
  cases g2
  · have HF2 : Hid (stand r.cut s.cut = ordI r.kind s.kind) := by have := HF.out; rw [if_neg (by rintro ⟨_, h, _⟩; cases h)] at this; exact this
    clear HF
    go_wp2_with fail
    refine (cmpI_any _ _ _).mono ?_
    rintro e w' ⟨rfl, rfl⟩
    go_wp2
    go_ret
    exact ⟨by rw [HF2.out]; rfl, B2.out⟩
  go_wp2_with fail
  refine (Prec.compare_anyD r.v s.v r.A r.B s.A s.B r.c r.d s.c s.d _ L2.out.pre M2.out.pre L2.out.fpre M2.out.fpre).mono ?_
  rintro e w3 ⟨rfl, hb3⟩
  have K3 := Lib.hid (K2.out.kept hb3.toBelow hz2)
  have J3 := Lib.hid (J2.out.kept hb3.toBelow hy2)
  have B3 := Lib.hid (B2.out.trans (hb3.mono B2.out.size))
  clear hb3 hz2 hy2
  clear x0 x1 x2 x3 x4 x5 y0 y1 y2 y3 y4 y5
  obtain ⟨hz3, _, x0, x1, x2, x3, x4, x5⟩ := K3.out
  obtain ⟨hy3, _, y0, y1, y2, y3, y4, y5⟩ := J3.out
  generalize cmpV r.v s.v = c at HF ⊢
  by_cases hc : c = 0
  · have HF2 : Hid (stand r.cut s.cut = ordI r.kind s.kind) := by have := HF.out; rw [if_neg (fun h => h.2.2 hc)] at this; exact this
    subst hc
    clear HF
    go_wp2_with fail
    refine (cmpI_any _ _ _).mono ?_
    rintro e w' ⟨rfl, rfl⟩
    go_wp2
    go_ret
    exact ⟨by rw [HF2.out]; rfl, B3.out⟩
  · have HF2 : Hid (stand r.cut s.cut = c) := by have := HF.out; rw [if_pos (by simp [hc])] at this; exact this
    have hn : (c == 0) = false := by simp [hc]
    have hn2 : (c != 0) = true := by simp [hc]
    clear HF hc
    go_wp2
    go_ret
    exact ⟨by rw [HF2.out]; rfl, B3.out⟩
theorem stand_any (r s : RCut) (w : World) (h1 : Lies w r) (h2 : Lies w s) :
    Calls Tryz.prog 81 #[.agg #[.int .i64 r.kind, .int .u64 (r.v.a : Int), .int .u64 (r.v.b : Int), .int .u64 (r.v.c : Int), .slice r.A r.v.pre.length r.c, .slice r.B r.v.build.length r.d], .agg #[.int .i64 s.kind, .int .u64 (s.v.a : Int), .int .u64 (s.v.b : Int), .int .u64 (s.v.c : Int), .slice s.A s.v.pre.length s.c, .slice s.B s.v.build.length s.d]] w fun e w' => e = .returned (.int .i64 (stand r.cut s.cut)) ∧ Below w.heap.size w w' := dropD (stand_anyD r s w h1 h2)

set_option maxRecDepth 100000 in
set_option maxHeartbeats 3200000 in
theorem compareC_any (r s : RCut) (w : World) (h1 : Lies w r) (h2 : Lies w s) :
    Calls Tryz.prog 45 #[.agg #[.int .i64 r.kind, .int .u64 (r.v.a : Int), .int .u64 (r.v.b : Int), .int .u64 (r.v.c : Int), .slice r.A r.v.pre.length r.c, .slice r.B r.v.build.length r.d], .agg #[.int .i64 s.kind, .int .u64 (s.v.a : Int), .int .u64 (s.v.b : Int), .int .u64 (s.v.c : Int), .slice s.A s.v.pre.length s.c, .slice s.B s.v.build.length s.d]] w fun e w' => e = .returned (.int .i64 (cmpC r.cut s.cut)) ∧ Below w.heap.size w w' := by
  have HBa : Hid (Below w.heap.size w ((w.alloc (.cells #[.int .i64 r.kind, .int .u64 (r.v.a : Int), .int .u64 (r.v.b : Int), .int .u64 (r.v.c : Int), .slice r.A r.v.pre.length r.c, .slice r.B r.v.build.length r.d] 41)).alloc (.cells #[.int .i64 s.kind, .int .u64 (s.v.a : Int), .int .u64 (s.v.b : Int), .int .u64 (s.v.c : Int), .slice s.A s.v.pre.length s.c, .slice s.B s.v.build.length s.d] 41))) := ((Below.refl _ _).alloc (Nat.le_refl _) _).alloc (by simp) _
  have HL := Lib.hid (h1.kept HBa.out)
  have HM := Lib.hid (h2.kept HBa.out)
  have K0 : Hid (At6B ((w.alloc (.cells #[.int .i64 r.kind, .int .u64 (r.v.a : Int), .int .u64 (r.v.b : Int), .int .u64 (r.v.c : Int), .slice r.A r.v.pre.length r.c, .slice r.B r.v.build.length r.d] 41)).alloc (.cells #[.int .i64 s.kind, .int .u64 (s.v.a : Int), .int .u64 (s.v.b : Int), .int .u64 (s.v.c : Int), .slice s.A s.v.pre.length s.c, .slice s.B s.v.build.length s.d] 41)) w.heap.size (.int .i64 r.kind) (.int .u64 (r.v.a : Int)) (.int .u64 (r.v.b : Int)) (.int .u64 (r.v.c : Int)) (.slice r.A r.v.pre.length r.c) (.slice r.B r.v.build.length r.d)) := (At6B.new w _ _ _ _ _ _ _).kept ((Below.refl _ _).alloc (Nat.le_refl _) _) (by simp)
  have J0 : Hid (At6B ((w.alloc (.cells #[.int .i64 r.kind, .int .u64 (r.v.a : Int), .int .u64 (r.v.b : Int), .int .u64 (r.v.c : Int), .slice r.A r.v.pre.length r.c, .slice r.B r.v.build.length r.d] 41)).alloc (.cells #[.int .i64 s.kind, .int .u64 (s.v.a : Int), .int .u64 (s.v.b : Int), .int .u64 (s.v.c : Int), .slice s.A s.v.pre.length s.c, .slice s.B s.v.build.length s.d] 41)) (w.heap.size + 1) (.int .i64 s.kind) (.int .u64 (s.v.a : Int)) (.int .u64 (s.v.b : Int)) (.int .u64 (s.v.c : Int)) (.slice s.A s.v.pre.length s.c) (.slice s.B s.v.build.length s.d)) := by
    have := At6B.new (w.alloc (.cells #[.int .i64 r.kind, .int .u64 (r.v.a : Int), .int .u64 (r.v.b : Int), .int .u64 (r.v.c : Int), .slice r.A r.v.pre.length r.c, .slice r.B r.v.build.length r.d] 41)) 41 (.int .i64 s.kind) (.int .u64 (s.v.a : Int)) (.int .u64 (s.v.b : Int)) (.int .u64 (s.v.c : Int)) (.slice s.A s.v.pre.length s.c) (.slice s.B s.v.build.length s.d)
    rw [size_alloc] at this; exact this
  clear h1 h2
  have HF : Hid (cmpC r.cut s.cut = if right r.cut = true ∧ right s.cut = true then stand r.cut s.cut else ordI r.kind s.kind) := rfl
  go_enter Tryz.func45, Tryz.ntmps45
  go_upto_region 1 with (fail)
  generalize ((w.alloc (.cells #[.int .i64 r.kind, .int .u64 (r.v.a : Int), .int .u64 (r.v.b : Int), .int .u64 (r.v.c : Int), .slice r.A r.v.pre.length r.c, .slice r.B r.v.build.length r.d] 41)).alloc (.cells #[.int .i64 s.kind, .int .u64 (s.v.a : Int), .int .u64 (s.v.b : Int), .int .u64 (s.v.c : Int), .slice s.A s.v.pre.length s.c, .slice s.B s.v.build.length s.d] 41)) = W at HBa HL HM K0 J0 ⊢
  obtain ⟨hz, _, x0, x1, x2, x3, x4, x5⟩ := K0.out
  obtain ⟨hy, _, y0, y1, y2, y3, y4, y5⟩ := J0.out
  go_wp2_with fail
  refine (right_any r _ HL.out).mono ?_
  rintro e w1 ⟨rfl, hb1⟩
  have K1 := Lib.hid (K0.out.kept hb1 hz)
  have J1 := Lib.hid (J0.out.kept hb1 hy)
  have L1 := Lib.hid (HL.out.kept hb1)
  have M1 := Lib.hid (HM.out.kept hb1)
  have B1 := Lib.hid (HBa.out.trans (hb1.mono HBa.out.size))
  clear hb1 hz hy
  clear x0 x1 x2 x3 x4 x5 y0 y1 y2 y3 y4 y5
  obtain ⟨hz1, _, x0, x1, x2, x3, x4, x5⟩ := K1.out
  obtain ⟨hy1, _, y0, y1, y2, y3, y4, y5⟩ := J1.out
  generalize right r.cut = g1 at HF ⊢
  cases g1
  · have HF2 : Hid (cmpC r.cut s.cut = ordI r.kind s.kind) := by have := HF.out; rw [if_neg (by rintro ⟨h, _⟩; cases h)] at this; exact this
    clear HF
    go_wp2_with fail
    refine (cmpI_any _ _ _).mono ?_
    rintro e w' ⟨rfl, rfl⟩
    go_wp2
    go_ret
    exact ⟨by rw [HF2.out]; rfl, B1.out⟩
  go_wp2_with fail
  refine (right_any s _ M1.out).mono ?_
  rintro e w2 ⟨rfl, hb2⟩
  have K2 := Lib.hid (K1.out.kept hb2 hz1)
  have J2 := Lib.hid (J1.out.kept hb2 hy1)
  have L2 := Lib.hid (L1.out.kept hb2)
  have M2 := Lib.hid (M1.out.kept hb2)
  have B2 := Lib.hid (B1.out.trans (hb2.mono B1.out.size))
  clear hb2 hz1 hy1
  clear x0 x1 x2 x3 x4 x5 y0 y1 y2 y3 y4 y5
  obtain ⟨hz2, _, x0, x1, x2, x3, x4, x5⟩ := K2.out
  obtain ⟨hy2, _, y0, y1, y2, y3, y4, y5⟩ := J2.out
  generalize right s.cut = g2 at HF ⊢
  cases g2
  · have HF2 : Hid (cmpC r.cut s.cut = ordI r.kind s.kind) := by have := HF.out; rw [if_neg (by rintro ⟨_, h⟩; cases h)] at this; exact this
    clear HF
    go_wp2_with fail
    refine (cmpI_any _ _ _).mono ?_
    rintro e w' ⟨rfl, rfl⟩
    go_wp2
    go_ret
    exact ⟨by rw [HF2.out]; rfl, B2.out⟩
  have HF2 : Hid (cmpC r.cut s.cut = stand r.cut s.cut) := by have := HF.out; rw [if_pos (by simp)] at this; exact this
  clear HF
  go_wp2_with fail
  refine (stand_any r s _ L2.out M2.out).mono ?_
  rintro e w3 ⟨rfl, hb3⟩
  have B3 := Lib.hid (B2.out.trans (hb3.mono B2.out.size))
  clear hb3 hz2 hy2
  clear x0 x1 x2 x3 x4 x5 y0 y1 y2 y3 y4 y5
  go_wp2
  go_ret
  exact ⟨by rw [HF2.out]; rfl, B3.out⟩

set_option maxRecDepth 100000 in
set_option maxHeartbeats 3200000 in
theorem counts_any (s : RSp) (w : World) (h : LiesS w s) :
    Calls Tryz.prog 85 #[.agg #[.int .i64 s.lo.kind, .int .u64 (s.lo.v.a : Int), .int .u64 (s.lo.v.b : Int), .int .u64 (s.lo.v.c : Int), .slice s.lo.A s.lo.v.pre.length s.lo.c, .slice s.lo.B s.lo.v.build.length s.lo.d, .int .i64 s.hi.kind, .int .u64 (s.hi.v.a : Int), .int .u64 (s.hi.v.b : Int), .int .u64 (s.hi.v.c : Int), .slice s.hi.A s.hi.v.pre.length s.hi.c, .slice s.hi.B s.hi.v.build.length s.hi.d]] w fun e w' => e = .returned (.bool (cnt s.sp)) ∧ Below w.heap.size w w' := by
  have HBa : Hid (Below w.heap.size w (w.alloc (.cells #[.int .i64 s.lo.kind, .int .u64 (s.lo.v.a : Int), .int .u64 (s.lo.v.b : Int), .int .u64 (s.lo.v.c : Int), .slice s.lo.A s.lo.v.pre.length s.lo.c, .slice s.lo.B s.lo.v.build.length s.lo.d, .int .i64 s.hi.kind, .int .u64 (s.hi.v.a : Int), .int .u64 (s.hi.v.b : Int), .int .u64 (s.hi.v.c : Int), .slice s.hi.A s.hi.v.pre.length s.hi.c, .slice s.hi.B s.hi.v.build.length s.hi.d] 43))) := (Below.refl _ _).alloc (Nat.le_refl _) _
  have HL := Lib.hid (h.kept HBa.out)
  have K0 : Hid (At12B (w.alloc (.cells #[.int .i64 s.lo.kind, .int .u64 (s.lo.v.a : Int), .int .u64 (s.lo.v.b : Int), .int .u64 (s.lo.v.c : Int), .slice s.lo.A s.lo.v.pre.length s.lo.c, .slice s.lo.B s.lo.v.build.length s.lo.d, .int .i64 s.hi.kind, .int .u64 (s.hi.v.a : Int), .int .u64 (s.hi.v.b : Int), .int .u64 (s.hi.v.c : Int), .slice s.hi.A s.hi.v.pre.length s.hi.c, .slice s.hi.B s.hi.v.build.length s.hi.d] 43)) w.heap.size (.int .i64 s.lo.kind) (.int .u64 (s.lo.v.a : Int)) (.int .u64 (s.lo.v.b : Int)) (.int .u64 (s.lo.v.c : Int)) (.slice s.lo.A s.lo.v.pre.length s.lo.c) (.slice s.lo.B s.lo.v.build.length s.lo.d) (.int .i64 s.hi.kind) (.int .u64 (s.hi.v.a : Int)) (.int .u64 (s.hi.v.b : Int)) (.int .u64 (s.hi.v.c : Int)) (.slice s.hi.A s.hi.v.pre.length s.hi.c) (.slice s.hi.B s.hi.v.build.length s.hi.d)) := At12B.new w _ _ _ _ _ _ _ _ _ _ _ _ _
  clear h
  have HF : Hid (cnt s.sp = (right s.lo.cut && (right s.hi.cut && decide (stand s.lo.cut s.hi.cut < 0)))) := rfl
  go_enter Tryz.func85, Tryz.ntmps85
  go_upto_region 1 with (fail)
  generalize (w.alloc (.cells #[.int .i64 s.lo.kind, .int .u64 (s.lo.v.a : Int), .int .u64 (s.lo.v.b : Int), .int .u64 (s.lo.v.c : Int), .slice s.lo.A s.lo.v.pre.length s.lo.c, .slice s.lo.B s.lo.v.build.length s.lo.d, .int .i64 s.hi.kind, .int .u64 (s.hi.v.a : Int), .int .u64 (s.hi.v.b : Int), .int .u64 (s.hi.v.c : Int), .slice s.hi.A s.hi.v.pre.length s.hi.c, .slice s.hi.B s.hi.v.build.length s.hi.d] 43)) = W at HBa HL K0 ⊢
  obtain ⟨hz, _, x0, x1, x2, x3, x4, x5, x6, x7, x8, x9, x10, x11⟩ := K0.out
  go_wp2_with fail
  refine (right_any s.lo _ HL.out.lo).mono ?_
  rintro e w1 ⟨rfl, hb1⟩
  have K1 := Lib.hid (K0.out.kept hb1 hz)
  have L1 := Lib.hid (HL.out.kept hb1)
  have B1 := Lib.hid (HBa.out.trans (hb1.mono HBa.out.size))
  clear hb1 hz x0 x1 x2 x3 x4 x5 x6 x7 x8 x9 x10 x11
  obtain ⟨hz1, _, x0, x1, x2, x3, x4, x5, x6, x7, x8, x9, x10, x11⟩ := K1.out
  generalize right s.lo.cut = g1 at HF ⊢
  cases g1
  · go_wp2
    go_ret
    exact ⟨by rw [HF.out]; rfl, B1.out⟩
  go_wp2_with fail
  refine (right_any s.hi _ L1.out.hi).mono ?_
  rintro e w2 ⟨rfl, hb2⟩
  have K2 := Lib.hid (K1.out.kept hb2 hz1)
  have L2 := Lib.hid (L1.out.kept hb2)
  have B2 := Lib.hid (B1.out.trans (hb2.mono B1.out.size))
  clear hb2 hz1 x0 x1 x2 x3 x4 x5 x6 x7 x8 x9 x10 x11
  obtain ⟨hz2, _, x0, x1, x2, x3, x4, x5, x6, x7, x8, x9, x10, x11⟩ := K2.out
  generalize right s.hi.cut = g2 at HF ⊢
  cases g2
  · go_wp2
    go_ret
    exact ⟨by rw [HF.out]; rfl, B2.out⟩
  go_wp2_with fail
  refine (stand_any s.lo s.hi _ L2.out.lo L2.out.hi).mono ?_
  rintro e w3 ⟨rfl, hb3⟩
  have B3 := Lib.hid (B2.out.trans (hb3.mono B2.out.size))
  clear hb3 hz2 x0 x1 x2 x3 x4 x5 x6 x7 x8 x9 x10 x11
  generalize stand s.lo.cut s.hi.cut = c at HF ⊢
  by_cases hc : c < 0
  · have HF2 : Hid (cnt s.sp = true) := by have := HF.out; unfold Hid; rw [this]; simp [hc]
    clear HF
    go_wp2
    go_ret
    exact ⟨by rw [HF2.out]; rfl, B3.out⟩
  · have HF2 : Hid (cnt s.sp = false) := by have := HF.out; unfold Hid; rw [this]; simp; omega
    have hd : decide (c < 0) = false := by simpa using hc
    clear HF
    go_wp2
    go_ret
    exact ⟨by rw [HF2.out]; rfl, B3.out⟩

end Go.Proofs.YtgfbflnhjpbceaaGreatDoor.Span

namespace Go.Proofs.YtgfbflnhjpbceaaGreatDoor.Num
open Go.RowKit

/-- A new block reads as its cells. -/
theorem news_new (w : World) (L : List Value) (t : TypeId) : ∀ j u, L[j]? = some u → (w.alloc (.cells L.toArray t)).cell? ((⟨w.heap.size, 0, none⟩ : Addr).add j) = some u := by
  intro j u hu
  have hh : (w.alloc (.cells L.toArray t)).heap[w.heap.size]? = some (.cells L.toArray t) := by
    show (w.heap.push _)[w.heap.size]? = _
    simp
  rw [add_none, cell_of_row _ _ _ L.toArray t (0, 0) hh, Nat.zero_add]
  simpa using hu
theorem flat_get {α : Type} [Inhabited α] (f : α → List Value) (k : Nat) (hk : ∀ x, (f x).length = k) : ∀ (l : List α) (j i : Nat), j < l.length → i < k → (l.flatMap f)[j * k + i]? = (f (l.getD j default))[i]?
  | [], j, i, hj, _ => by simp at hj
  | x :: l, 0, i, _, hi => by
    rw [List.flatMap_cons, List.getElem?_append_left (by rw [hk]; omega)]; simp
  | x :: l, j + 1, i, hj, hi => by
    rw [List.flatMap_cons, List.getElem?_append_right (by rw [hk, Nat.succ_mul]; omega), hk, show (j + 1) * k + i - k = j * k + i by rw [Nat.succ_mul]; omega, flat_get f k hk l j i (by simpa using hj) hi]; simp
theorem flat_len {α : Type} (f : α → List Value) (k : Nat) (hk : ∀ x, (f x).length = k) : ∀ l : List α, (l.flatMap f).length = l.length * k
  | [] => by simp
  | x :: l => by rw [List.flatMap_cons, List.length_append, hk, flat_len f k hk l, List.length_cons, Nat.succ_mul]; omega
theorem flat_one {α : Type} (f : α → List Value) (h : ∀ x, ∀ u ∈ f x, u.oneCell' = true) (l : List α) : ∀ u ∈ l.flatMap f, u.oneCell' = true := by
  intro u hu; obtain ⟨x, _, hx⟩ := List.mem_flatMap.1 hu; exact h x u hx
/-- What an owned slice reads as, cell by cell. -/
theorem own_cells {α : Type} [Inhabited α] {f : α → List Value} {k : Nat} (hk : ∀ x, (f x).length = k) {w : World} {base : Nat} {e : TypeId} {v : Value} {n : Nat} {l : List α} (h : w.ownsRow base e k v n (l.flatMap f)) (hl : l.length = n) :
    ∃ A c, v = .slice A n c ∧ n ≤ c ∧ (A = none → c = 0) ∧ (0 < n → ∃ g, A = some ⟨g, 0, none⟩ ∧ base ≤ g ∧ g < w.heap.size ∧ (∀ o, w.frozen? ⟨g, o, none⟩ = false) ∧ ∀ j, j < n → ∀ i u, (f (l.getD j default))[i]? = some u → w.cell? ⟨g, 0 + j * k + i, none⟩ = some u) := by
  have hcs := fun g => h.cells (g := g)
  rcases h.2 with ⟨rfl, rfl⟩ | ⟨g, cap, cur, rfl, hg0, hg, hnc, hcm, _, _⟩
  · exact ⟨none, 0, rfl, Nat.le_refl _, fun _ => rfl, fun h0 => by omega⟩
  · refine ⟨_, cap, rfl, hnc, (fun e => by cases e), fun h0 => ⟨g, rfl, hg0, (Array.getElem?_eq_some_iff.1 hg).1, fun o => ?_, fun j hj i u hu => ?_⟩⟩
    · simp [World.frozen?, hg]
    · have hi : i < k := by have := (List.getElem?_eq_some_iff.1 hu).1; rwa [hk] at this
      have := hcs g rfl (j * k + i) u (by rw [flat_get f k hk l j i (by omega) hi]; exact hu)
      rw [add_none] at this
      rw [Nat.add_assoc]; exact this
/-- Rows of unlike types lie in unlike blocks. -/
theorem own_apart {w : World} {B1 B2 : Nat} {e1 e2 : TypeId} {k1 k2 : Nat} {v1 v2 : Value} {n1 n2 : Nat} {x1 x2 : List Value} (h1 : w.ownsRow B1 e1 k1 v1 n1 x1) (h2 : w.ownsRow B2 e2 k2 v2 n2 x2) (hne : e1 ≠ e2) : v1.ownBlock = none ∨ v1.ownBlock ≠ v2.ownBlock := by
  rcases h1.2 with ⟨rfl, _⟩ | ⟨g1, c1, u1, rfl, _, hg1, _⟩
  · exact .inl rfl
  · right
    rcases h2.2 with ⟨rfl, _⟩ | ⟨g2, c2, u2, rfl, _, hg2, _⟩
    · intro h; cases h
    · intro h
      have e : g1 = g2 := by simpa [Value.ownBlock] using h
      subst e
      rw [hg1] at hg2
      injection hg2 with hg2
      injection hg2 with _ h
      exact hne h

end Go.Proofs.YtgfbflnhjpbceaaGreatDoor.Num

namespace Go.Proofs.YtgfbflnhjpbceaaGreatDoor.Span
open Go.RowKit Num Ident Semver Prec

theorem svals_len (s : RSp) : s.vals.length = 12 := rfl
theorem evals_len (e : REdge) : e.vals.length = 7 := rfl

theorem edInfo : (Tryz.prog.info? 111).map (fun i => (i.zero, i.size, i.bytes)) = some (some (.agg #[.int .i64 0, .int .u64 0, .int .u64 0, .int .u64 0, .slice none 0 0, .slice none 0 0, .int .i64 0]), 7, 88) := by kernel_rfl
theorem wpList_append_ed (w : World) {ops : Array Oper} {rest : List Oper} {o : Oper} {a : Act} {Q : Exit → Act → World → Prop} (hgd : o.guard = none) (s x : Operand)
    (ho : o.op = .call { callee := .builtin .append, args := #[s, x], argTypes := #[63, 63] })
    (base : Nat) (v : Value) (n : Nat) (l : List REdge) (hs : a.eval s = v) (hown : w.ownsRow base 111 7 v n (l.flatMap REdge.vals))
    (ad : Addr) (m c : Nat) (r : List REdge) (hx : a.eval x = .slice (some ad) m c) (hr : r.length = m) (hnews : ∀ j u, (r.flatMap REdge.vals)[j]? = some u → w.cell? (ad.add j) = some u) (hb : (n + m) * 88 ≤ 140737488355328) (hbase : base ≤ w.heap.size)
    (h : ∀ v' w', w'.ownsRow base 111 7 v' (n + m) ((l ++ r).flatMap REdge.vals) → Below base w w' → wpList Tryz.prog ops Q rest (a.put o.dst v') w') : wpList Tryz.prog ops Q (o :: rest) a w := by
  obtain ⟨i, hi, hz, hsz, hby⟩ := info_parts edInfo
  refine wpList_append_own w hgd s x 63 ho base 111 i _ 7 88 Tryz.underlying63 hi hz hsz hby rfl (by omega) v n _ hs hown ad m c _ hx (by rw [flat_len _ 7 evals_len, hr]) hnews (flat_one _ evals_one r) (by unfold maxLen; omega) hb hbase (fun v' w' h2 h3 _ => ?_)
  refine h v' w' (by rw [List.flatMap_append]; exact h2) ((Below.refl base w).grown h3 hbase fun k hk => (hown.lt k hk).1)

theorem spInfo : (Tryz.prog.info? 43).map (fun i => (i.zero, i.size, i.bytes)) = some (some (.agg #[.int .i64 0, .int .u64 0, .int .u64 0, .int .u64 0, .slice none 0 0, .slice none 0 0, .int .i64 0, .int .u64 0, .int .u64 0, .int .u64 0, .slice none 0 0, .slice none 0 0]), 12, 160) := by kernel_rfl
theorem wpList_append_sp (w : World) {ops : Array Oper} {rest : List Oper} {o : Oper} {a : Act} {Q : Exit → Act → World → Prop} (hgd : o.guard = none) (s x : Operand)
    (ho : o.op = .call { callee := .builtin .append, args := #[s, x], argTypes := #[31, 31] })
    (base : Nat) (v : Value) (n : Nat) (l : List RSp) (hs : a.eval s = v) (hown : w.ownsRow base 43 12 v n (l.flatMap RSp.vals))
    (ad : Addr) (m c : Nat) (r : List RSp) (hx : a.eval x = .slice (some ad) m c) (hr : r.length = m) (hnews : ∀ j u, (r.flatMap RSp.vals)[j]? = some u → w.cell? (ad.add j) = some u) (hb : (n + m) * 160 ≤ 140737488355328) (hbase : base ≤ w.heap.size)
    (h : ∀ v' w', w'.ownsRow base 43 12 v' (n + m) ((l ++ r).flatMap RSp.vals) → Below base w w' → wpList Tryz.prog ops Q rest (a.put o.dst v') w') : wpList Tryz.prog ops Q (o :: rest) a w := by
  obtain ⟨i, hi, hz, hsz, hby⟩ := info_parts spInfo
  refine wpList_append_own w hgd s x 31 ho base 43 i _ 12 160 Tryz.underlying31 hi hz hsz hby rfl (by omega) v n _ hs hown ad m c _ hx (by rw [flat_len _ 12 svals_len, hr]) hnews (flat_one _ svals_one r) (by unfold maxLen; omega) hb hbase (fun v' w' h2 h3 _ => ?_)
  refine h v' w' (by rw [List.flatMap_append]; exact h2) ((Below.refl base w).grown h3 hbase fun k hk => (hown.lt k hk).1)

theorem run_append_sp (w : World) (ty : TypeId) (base : Nat) (v : Value) (n : Nat) (l : List RSp) (hown : w.ownsRow base 43 12 v n (l.flatMap RSp.vals)) (ad : Addr) (m c : Nat) (r : List RSp) (hr : r.length = m) (hnews : ∀ j u, (r.flatMap RSp.vals)[j]? = some u → w.cell? (ad.add j) = some u) (hb : (n + m) * 160 ≤ 140737488355328) (hbase : base ≤ w.heap.size) :
    ∃ v' w', (Builtin.append_ #[31, 31] ty #[v, .slice (some ad) m c]).run Tryz.prog w = .ok v' w' ∧ w'.ownsRow base 43 12 v' (n + m) ((l ++ r).flatMap RSp.vals) ∧ w.grownBy w' v.ownBlock := by
  obtain ⟨i, hi, hz, hs, hby⟩ := info_parts spInfo
  obtain ⟨v', w', h3, h4, h5, _⟩ := run_append_own (P := Tryz.prog) w base 31 ty 43 i _ 12 160 Tryz.underlying31 hi hz hs hby rfl (by omega) v n _ hown ad m c (r.flatMap RSp.vals)
    (by rw [flat_len _ 12 svals_len, hr]) hnews (flat_one _ svals_one r) (by unfold maxLen; omega) hb hbase
  exact ⟨v', w', h3, by rw [List.flatMap_append]; exact h4, h5⟩
end Go.Proofs.YtgfbflnhjpbceaaGreatDoor.Span

namespace Go.Proofs.YtgfbflnhjpbceaaGreatDoor.Span
open Go.RowKit Num Ident Semver Prec

set_option maxRecDepth 100000 in
set_option maxHeartbeats 3200000 in
theorem sw1_anyD (x y : REdge) (w : World) (h1 : Lies w x.cut) (h2 : Lies w y.cut) :
    Calls Tryz.prog 83 #[.agg #[.int .i64 x.cut.kind, .int .u64 (x.cut.v.a : Int), .int .u64 (x.cut.v.b : Int), .int .u64 (x.cut.v.c : Int), .slice x.cut.A x.cut.v.pre.length x.cut.c, .slice x.cut.B x.cut.v.build.length x.cut.d, .int .i64 x.step], .agg #[.int .i64 y.cut.kind, .int .u64 (y.cut.v.a : Int), .int .u64 (y.cut.v.b : Int), .int .u64 (y.cut.v.c : Int), .slice y.cut.A y.cut.v.pre.length y.cut.c, .slice y.cut.B y.cut.v.build.length y.cut.d, .int .i64 y.step]] w fun e w' => e = .returned (.int .i64 (stand x.cut.cut y.cut.cut)) ∧ BelowD w.heap.size w w' := by
  have HBa : Hid (BelowD w.heap.size w ((w.alloc (.cells #[.int .i64 x.cut.kind, .int .u64 (x.cut.v.a : Int), .int .u64 (x.cut.v.b : Int), .int .u64 (x.cut.v.c : Int), .slice x.cut.A x.cut.v.pre.length x.cut.c, .slice x.cut.B x.cut.v.build.length x.cut.d, .int .i64 x.step] 111)).alloc (.cells #[.int .i64 y.cut.kind, .int .u64 (y.cut.v.a : Int), .int .u64 (y.cut.v.b : Int), .int .u64 (y.cut.v.c : Int), .slice y.cut.A y.cut.v.pre.length y.cut.c, .slice y.cut.B y.cut.v.build.length y.cut.d, .int .i64 y.step] 111))) := ((BelowD.refl _ _).alloc (Nat.le_refl _) _).alloc (by simp) _
  have HL := Lib.hid (h1.kept HBa.out.toBelow)
  have HM := Lib.hid (h2.kept HBa.out.toBelow)
  have K0 : Hid (At7B ((w.alloc (.cells #[.int .i64 x.cut.kind, .int .u64 (x.cut.v.a : Int), .int .u64 (x.cut.v.b : Int), .int .u64 (x.cut.v.c : Int), .slice x.cut.A x.cut.v.pre.length x.cut.c, .slice x.cut.B x.cut.v.build.length x.cut.d, .int .i64 x.step] 111)).alloc (.cells #[.int .i64 y.cut.kind, .int .u64 (y.cut.v.a : Int), .int .u64 (y.cut.v.b : Int), .int .u64 (y.cut.v.c : Int), .slice y.cut.A y.cut.v.pre.length y.cut.c, .slice y.cut.B y.cut.v.build.length y.cut.d, .int .i64 y.step] 111)) w.heap.size (.int .i64 x.cut.kind) (.int .u64 (x.cut.v.a : Int)) (.int .u64 (x.cut.v.b : Int)) (.int .u64 (x.cut.v.c : Int)) (.slice x.cut.A x.cut.v.pre.length x.cut.c) (.slice x.cut.B x.cut.v.build.length x.cut.d) (.int .i64 x.step)) := (At7B.new w _ _ _ _ _ _ _ _).kept ((Below.refl _ _).alloc (Nat.le_refl _) _) (by simp)
  have J0 : Hid (At7B ((w.alloc (.cells #[.int .i64 x.cut.kind, .int .u64 (x.cut.v.a : Int), .int .u64 (x.cut.v.b : Int), .int .u64 (x.cut.v.c : Int), .slice x.cut.A x.cut.v.pre.length x.cut.c, .slice x.cut.B x.cut.v.build.length x.cut.d, .int .i64 x.step] 111)).alloc (.cells #[.int .i64 y.cut.kind, .int .u64 (y.cut.v.a : Int), .int .u64 (y.cut.v.b : Int), .int .u64 (y.cut.v.c : Int), .slice y.cut.A y.cut.v.pre.length y.cut.c, .slice y.cut.B y.cut.v.build.length y.cut.d, .int .i64 y.step] 111)) (w.heap.size + 1) (.int .i64 y.cut.kind) (.int .u64 (y.cut.v.a : Int)) (.int .u64 (y.cut.v.b : Int)) (.int .u64 (y.cut.v.c : Int)) (.slice y.cut.A y.cut.v.pre.length y.cut.c) (.slice y.cut.B y.cut.v.build.length y.cut.d) (.int .i64 y.step)) := by
    have := At7B.new (w.alloc (.cells #[.int .i64 x.cut.kind, .int .u64 (x.cut.v.a : Int), .int .u64 (x.cut.v.b : Int), .int .u64 (x.cut.v.c : Int), .slice x.cut.A x.cut.v.pre.length x.cut.c, .slice x.cut.B x.cut.v.build.length x.cut.d, .int .i64 x.step] 111)) 111 (.int .i64 y.cut.kind) (.int .u64 (y.cut.v.a : Int)) (.int .u64 (y.cut.v.b : Int)) (.int .u64 (y.cut.v.c : Int)) (.slice y.cut.A y.cut.v.pre.length y.cut.c) (.slice y.cut.B y.cut.v.build.length y.cut.d) (.int .i64 y.step)
    rw [size_alloc] at this; exact this
  clear h1 h2
  go_enter Tryz.func83, Tryz.ntmps83
  go_upto_region 1 with (fail)
  generalize ((w.alloc (.cells #[.int .i64 x.cut.kind, .int .u64 (x.cut.v.a : Int), .int .u64 (x.cut.v.b : Int), .int .u64 (x.cut.v.c : Int), .slice x.cut.A x.cut.v.pre.length x.cut.c, .slice x.cut.B x.cut.v.build.length x.cut.d, .int .i64 x.step] 111)).alloc (.cells #[.int .i64 y.cut.kind, .int .u64 (y.cut.v.a : Int), .int .u64 (y.cut.v.b : Int), .int .u64 (y.cut.v.c : Int), .slice y.cut.A y.cut.v.pre.length y.cut.c, .slice y.cut.B y.cut.v.build.length y.cut.d, .int .i64 y.step] 111)) = W at HBa HL HM K0 J0 ⊢
  obtain ⟨hz, _, x0, x1, x2, x3, x4, x5, x6⟩ := K0.out
  obtain ⟨hy, _, y0, y1, y2, y3, y4, y5, y6⟩ := J0.out
  go_wp2_with fail
  refine (stand_anyD x.cut y.cut _ HL.out HM.out).mono ?_
  rintro e w1 ⟨rfl, hb1⟩
  have B1 := Lib.hid (HBa.out.trans (hb1.mono HBa.out.size))
  clear hb1 x0 x1 x2 x3 x4 x5 x6 y0 y1 y2 y3 y4 y5 y6
  go_wp2
  go_ret
  exact ⟨rfl, B1.out⟩

theorem grow_of {w w' : World} (h : BelowD w.heap.size w w') : ∃ q os', w' = Go.Sort.grow (w.drewN q) os' := by
  obtain ⟨p, hp⟩ := regrown_of_below h.toBelow
  have hd : w'.drawn = p.d := by rw [hp]; rfl
  have hle := h.drawn
  refine ⟨p.d - w.drawn, p.os, ?_⟩
  rw [hp]
  unfold Go.Sort.grow redrawn World.drewN
  simp only [World.mk.injEq, true_and, and_true]
  omega
/-- An edge whose version lies in a world. -/
structure Laid (w : World) where
  e : REdge
  h : Lies w e.cut
instance (w : World) : Inhabited (Laid w) := ⟨⟨⟨rlow, 0⟩, Lies.low w⟩⟩
def encE (w : World) (x : Laid w) : List Value := x.e.vals
def cfE (w : World) (x y : Laid w) : Int := stand x.e.cut.cut y.e.cut.cut
theorem swoE (w : World) : Go.Sort.SWO (ltOf (cfE w)) := by
  refine ⟨fun x => ?_, fun x y z h1 h2 => ?_, fun x y z h1 h2 => ?_⟩
  · unfold ltOf cfE; rw [stand_self]; rfl
  · unfold ltOf cfE at *; rw [decide_eq_true_eq] at *; exact lt_lt h1 h2
  · unfold ltOf cfE at *
    rw [decide_eq_false_iff_not] at *
    have a := not_lt h1
    have b := not_lt h2
    exact le_not (le_le b a)
/-- What a sort leaves of older memory. -/
theorem below_sort {α : Type} [Inhabited α] (enc : α → List Value) (k : Nat) (w : World) (blk off m : Nat) (d : Array α) (os : Array Obj) (B : Nat) (hB : B ≤ blk) (hw : B ≤ w.heap.size) : Below B w (sortWorldK enc k w blk off m d os) := by
  unfold sortWorldK Go.Sort.putRowK Go.Sort.putRow Go.Sort.mapBlock Go.Sort.grow Go.Sort.ahead
  refine ⟨rfl, rfl, rfl, by simp, fun i hi => ?_⟩
  rw [Array.getElem?_append_left (by simp; omega), Array.getElem?_modify, if_neg (by omega)]
theorem grown_sort {α : Type} [Inhabited α] (enc : α → List Value) (k : Nat) (w : World) (blk off m : Nat) (d : Array α) (os : Array Obj) : w.grownBy (sortWorldK enc k w blk off m d os) (some blk) := by
  unfold sortWorldK Go.Sort.putRowK Go.Sort.putRow Go.Sort.mapBlock Go.Sort.grow Go.Sort.ahead
  refine ⟨rfl, rfl, rfl, by simp, fun i hi hne => ?_⟩
  rw [Array.getElem?_append_left (by simpa using hi), Array.getElem?_modify, if_neg (fun e => hne (by rw [e]))]
theorem flatK_list {α : Type} [Inhabited α] (enc : α → List Value) (k : Nat) (hk : ∀ x, (enc x).length = k) (h0 : 0 < k) (d : Array α) : (Go.Sort.flatK enc k d).toList = d.toList.flatMap enc := by
  apply List.ext_getElem?
  intro t
  by_cases ht : t < d.size * k
  · have hq : t / k < d.size := Nat.div_lt_of_lt_mul (by rw [Nat.mul_comm]; exact ht)
    have hm : t % k < k := Nat.mod_lt _ h0
    have e1 : t = t / k * k + t % k := by rw [Nat.mul_comm]; exact (Nat.div_add_mod t k).symm
    have e2 := flat_get enc k hk d.toList (t / k) (t % k) (by simpa using hq) hm
    rw [← e1] at e2
    rw [e2, Array.getElem?_toList, Array.getElem?_eq_getElem (by rw [Go.Sort.size_flatK]; exact ht)]
    have e3 := Go.Sort.get_flatK enc k d t ht
    rw [getElem!_pos _ t (by rw [Go.Sort.size_flatK]; exact ht)] at e3
    rw [e3]
    have e4 : d.toList.getD (t / k) default = d[t / k]! := by
      rw [getElem!_pos d _ hq]; simp [List.getD, hq]
    rw [e4, getElem!_pos _ (t % k) (by rw [hk]; exact hm), List.getElem?_eq_getElem]
  · rw [List.getElem?_eq_none (by simp [Go.Sort.size_flatK]; omega), List.getElem?_eq_none (by rw [flat_len _ k hk]; simp; omega)]

set_option maxRecDepth 100000 in
set_option maxHeartbeats 1600000 in
theorem cmpLays (w1 w : World) (blk n : Nat) (hb : Below w1.heap.size w1 w) (hblk : w1.heap.size ≤ blk) : CmpLays Tryz.prog 83 #[] (encE w1) 7 (cfE w1) blk 0 n w := by
  intro m os dk _ x y
  have hB : Below w1.heap.size w1 (sortWorldK (encE w1) 7 w blk 0 m dk os) := hb.trans (below_sort _ _ _ _ _ _ _ _ _ hblk hb.size)
  generalize sortWorldK (encE w1) 7 w blk 0 m dk os = W at hB ⊢
  have h := sw1_anyD x.e y.e W (x.h.kept hB) (y.h.kept hB)
  rw [Array.append_empty]
  exact h.mono fun e w' ⟨he, hw⟩ => ⟨he, grow_of hw⟩
/-- What the sort leaves. -/
def SortPost (w : World) (base : Nat) (v : Value) (re : List REdge) (e : Ending) (w' : World) : Prop :=
  e = .returned (.tuple #[]) ∧ ∃ re' : List REdge, re'.Perm re ∧ (re'.Pairwise fun x y => stand x.cut.cut y.cut.cut ≤ 0) ∧ w'.ownsRow base 111 7 v re'.length (re'.flatMap REdge.vals) ∧ w.grownBy w' v.ownBlock

set_option maxRecDepth 100000 in
set_option maxHeartbeats 1600000 in
theorem sort_any (w1 w : World) (base : Nat) (v : Value) (re : List REdge) (hown : w.ownsRow base 111 7 v re.length (re.flatMap REdge.vals)) (hl : ∀ e ∈ re, Lies w1 e.cut) (hb : Below w1.heap.size w1 w) (hbase : w1.heap.size ≤ base) (hsz : re.length < 4611686018427387904) :
    Calls Tryz.prog 82 #[v, .func (.func 83) #[] #[]] w (SortPost w base v re) := by
  have hown0 := hown
  obtain ⟨hlen, h2⟩ := hown
  rcases h2 with ⟨rfl, h0⟩ | ⟨g, cap, cur, rfl, hg0, hg, hnc, hcm, hcs, htk⟩
  · have hre : re = [] := List.eq_nil_of_length_eq_zero h0
    subst hre
    exact (AnyF.slices_SortFunc_none Tryz.sortL none 0 (.func (.func 83) #[] #[]) w).mono fun e w' ⟨he, hw⟩ => by
      subst hw
      exact ⟨he, [], List.Perm.refl _, List.Pairwise.nil, hown0, World.grownBy.refl _ _⟩
  · obtain ⟨d, hd⟩ : ∃ d : Array (Laid w1), d.toList.map Laid.e = re := ⟨(re.pmap (fun e h => (⟨e, h⟩ : Laid w1)) hl).toArray, by simp [List.map_pmap]⟩
    have hdn : d.size = re.length := by rw [← hd]; simp
    have hk : ∀ x : Laid w1, (encE w1 x).length = 7 := fun _ => rfl
    have hF : (Go.Sort.flatK (encE w1) 7 d).toList = re.flatMap REdge.vals := by
      rw [flatK_list _ 7 hk (by omega), ← hd, List.flatMap_map]; rfl
    have hgl : g < w.heap.size := (Array.getElem?_eq_some_iff.1 hg).1
    have hH : Go.Sort.HoldsK (encE w1) 7 w g 0 d := by
      intro j hj
      rw [Go.Sort.size_flatK, hdn] at hj
      have hj2 : j < (Go.Sort.flatK (encE w1) 7 d).size := by rw [Go.Sort.size_flatK, hdn]; exact hj
      refine ⟨?_, by simp [World.frozen?, hg]⟩
      have e1 := hown0.cells (g := g) rfl j _ (by rw [← hF, Array.getElem?_toList]; exact Array.getElem?_eq_getElem hj2)
      rw [add_none] at e1
      rw [e1, getElem!_pos _ j hj2]; rfl
    have hcon := AnyQ.slices_SortFunc Tryz.sortL 7 Tryz.isAgg111 Tryz.sizeOf111 (encE w1) hk (fun x u hu => evals_one x.e u hu) (cfE w1) (swoE w1) 83 #[] g 0 cap d w (enters_of Tryz.func83 (by kernel_rfl) rfl) (cmpLays w1 w g d.size hb (Nat.le_trans hbase hg0)) hH hgl (by rw [hdn]; exact hsz)
    rw [hdn] at hcon
    refine hcon.mono fun e w' ⟨he, d', m, os, hp, hs, hw⟩ => ⟨he, d'.toList.map Laid.e, ?_, ?_, ?_, ?_⟩
    · have h1 := hp.2.2
      rw [← hdn, Array.extract_size] at h1
      have h3 : (d'.extract 0 d.size) = d' := by rw [← hp.1, Array.extract_size]
      rw [h3] at h1
      rw [← hd]; exact h1.map _
    · rw [List.pairwise_map, List.pairwise_iff_getElem]
      intro i j hi hj hij
      have hi' : i < d'.size := by simpa using hi
      have hj' : j < d'.size := by simpa using hj
      have h1 := hs i j (Nat.zero_le _) hij (by rw [← hdn, ← hp.1]; exact hj')
      unfold ltOf cfE at h1
      rw [decide_eq_false_iff_not, getElem!_pos d' i hi', getElem!_pos d' j hj'] at h1
      simpa using not_lt h1
    · have hsz' : (Go.Sort.flatK (encE w1) 7 d').size = re.length * 7 := by rw [Go.Sort.size_flatK, hp.1, hdn]
      have hF' : (Go.Sort.flatK (encE w1) 7 d').toList = (d'.toList.map Laid.e).flatMap REdge.vals := by
        rw [flatK_list _ 7 hk (by omega), List.flatMap_map]; rfl
      have hl' : (d'.toList.map Laid.e).length = re.length := by rw [List.length_map, Array.length_toList, hp.1, hdn]
      rw [hl', ← hF']
      refine ⟨by rw [Array.length_toList]; exact hsz', .inr ⟨g, cap, Go.Sort.putCells id 0 (Go.Sort.flatK (encE w1) 7 d') cur, rfl, hg0, ?_, hnc, hcm, by unfold Go.Sort.putCells; rw [Array.size_mapIdx]; exact hcs, ?_⟩⟩
      · rw [hw]
        unfold sortWorldK Go.Sort.putRowK Go.Sort.putRow Go.Sort.mapBlock Go.Sort.grow Go.Sort.ahead
        show ((w.heap.modify g _) ++ os)[g]? = _
        rw [Array.getElem?_append_left (by simpa using hgl), Array.getElem?_modify, if_pos rfl, hg]; rfl
      · apply List.ext_getElem?
        intro t
        have hcs' : re.length * 7 ≤ cur.size := by rw [hcs]; exact Nat.mul_le_mul_right 7 hnc
        by_cases ht : t < re.length * 7
        · rw [List.getElem?_take_of_lt ht, Array.getElem?_toList, Array.getElem?_toList]
          unfold Go.Sort.putCells
          rw [Array.getElem?_mapIdx, Array.getElem?_eq_getElem (show t < cur.size by omega), Array.getElem?_eq_getElem (show t < (Go.Sort.flatK (encE w1) 7 d').size by omega)]
          simp only [Option.map_some]
          rw [if_pos ⟨Nat.zero_le _, by omega⟩, Nat.sub_zero, getElem!_pos _ t (by omega)]; rfl
        · rw [List.getElem?_eq_none (by rw [List.length_take]; omega), List.getElem?_eq_none (by rw [Array.length_toList, hsz']; omega)]
    · rw [hw]; exact grown_sort _ _ _ _ _ _ _ _
end Go.Proofs.YtgfbflnhjpbceaaGreatDoor.Span

namespace Go.Proofs.YtgfbflnhjpbceaaGreatDoor.Span
open Go.RowKit Num Ident Semver Prec

def EdgesJ (w : World) (n : Nat) (l : List RSp) (step : Int) (v iv : Value) (W : World) : Prop :=
  ∃ (k : Nat) (re : List REdge), k ≤ n ∧ iv = .int .i64 k ∧ W.ownsRow w.heap.size 111 7 v re.length (re.flatMap REdge.vals) ∧ re.map REdge.edge = edgesOf ((l.take k).map RSp.sp) step ∧ (∀ e ∈ re, Lies w e.cut) ∧ re.length ≤ 2 * k ∧ Below w.heap.size w W
/-- What edges leaves. -/
def EdgesPost (w : World) (l : List RSp) (step : Int) (e : Ending) (w' : World) : Prop :=
  ∃ (v : Value) (re : List REdge), e = .returned v ∧ w'.ownsRow w.heap.size 111 7 v re.length (re.flatMap REdge.vals) ∧ re.map REdge.edge = edgesOf (l.map RSp.sp) step ∧ (∀ e ∈ re, Lies w e.cut) ∧ re.length ≤ 2 * l.length ∧ Below w.heap.size w w'
theorem take_sp (l : List RSp) (k : Nat) (h : k < l.length) : (l.take (k + 1)).map RSp.sp = (l.take k).map RSp.sp ++ [(l.getD k default).sp] := by
  rw [List.take_succ_eq_append_getElem h, List.map_append]; simp [List.getD, List.getElem?_eq_getElem h]

set_option maxRecDepth 100000 in
set_option maxHeartbeats 3200000 in
theorem edges_any (A : Option Addr) (n c : Nat) (l : List RSp) (step : Int) (w : World) (hr : SpRow w A n l) (hn : n ≤ 100000) (h1 : -10 ≤ step) (h2 : step ≤ 10) :
    Calls Tryz.prog 47 #[.slice A n c, .int .i64 step] w (EdgesPost w l step) := by
  have HR := Lib.hid hr
  have HL := Lib.hid hr.1
  clear hr
  go_enter Tryz.func47, Tryz.ntmps47
  go_wp2
  go_loopw [5, 10] (fun v i W => EdgesJ w n l step v i W) (fun _ i _ => n - (intOf i).toNat)
  case atStart => exact ⟨0, [], Nat.zero_le _, rfl, World.ownsRow_nil _ _ _ _, by simp [edgesOf], (fun e he => by cases he), Nat.zero_le _, Below.refl _ _⟩
  case round =>
    obtain ⟨k, re, hk, rfl, hown, hmap, hlie, hlen, hbel⟩ := hrel
    have HO := Lib.hid hown
    have HM := Lib.hid hmap
    have HI := Lib.hid hlie
    have HB := Lib.hid hbel
    have hsz := hbel.size
    clear hown hmap hlie hbel
    by_cases hlt : k < n
    · obtain ⟨b, o, rfl, hb, hc⟩ := (HR.out.kept HB.out).2.2 (by omega)
      obtain ⟨x0, x1, x2, x3, x4, x5, x6, x7, x8, x9, x10, x11⟩ := SpRow.cells hc hlt
      have HS0 := Lib.hid (HR.out.lies hlt)
      have HS := Lib.hid (HS0.out.kept HB.out)
      have HT := Lib.hid (take_sp l k (by rw [HL.out]; exact hlt))
      clear hc
      generalize l.getD k default = s at x0 x1 x2 x3 x4 x5 x6 x7 x8 x9 x10 x11 HS HS0 HT
      have HW : Hid (Below w.heap.size w (wr.alloc (.cells #[.int .i64 s.lo.kind, .int .u64 (s.lo.v.a : Int), .int .u64 (s.lo.v.b : Int), .int .u64 (s.lo.v.c : Int), .slice s.lo.A s.lo.v.pre.length s.lo.c, .slice s.lo.B s.lo.v.build.length s.lo.d, .int .i64 s.hi.kind, .int .u64 (s.hi.v.a : Int), .int .u64 (s.hi.v.b : Int), .int .u64 (s.hi.v.c : Int), .slice s.hi.A s.hi.v.pre.length s.hi.c, .slice s.hi.B s.hi.v.build.length s.hi.d] 43))) := HB.out.alloc hsz _
      have HS1 := Lib.hid (HS.out.kept ((Below.refl wr.heap.size wr).alloc (Nat.le_refl _) (.cells #[.int .i64 s.lo.kind, .int .u64 (s.lo.v.a : Int), .int .u64 (s.lo.v.b : Int), .int .u64 (s.lo.v.c : Int), .slice s.lo.A s.lo.v.pre.length s.lo.c, .slice s.lo.B s.lo.v.build.length s.lo.d, .int .i64 s.hi.kind, .int .u64 (s.hi.v.a : Int), .int .u64 (s.hi.v.b : Int), .int .u64 (s.hi.v.c : Int), .slice s.hi.A s.hi.v.pre.length s.hi.c, .slice s.hi.B s.hi.v.build.length s.hi.d] 43)))
      have HO1 := Lib.hid (HO.out.alloc (.cells #[.int .i64 s.lo.kind, .int .u64 (s.lo.v.a : Int), .int .u64 (s.lo.v.b : Int), .int .u64 (s.lo.v.c : Int), .slice s.lo.A s.lo.v.pre.length s.lo.c, .slice s.lo.B s.lo.v.build.length s.lo.d, .int .i64 s.hi.kind, .int .u64 (s.hi.v.a : Int), .int .u64 (s.hi.v.b : Int), .int .u64 (s.hi.v.c : Int), .slice s.hi.A s.hi.v.pre.length s.hi.c, .slice s.hi.B s.hi.v.build.length s.hi.d] 43))
      have K1 : Hid (At12B (wr.alloc (.cells #[.int .i64 s.lo.kind, .int .u64 (s.lo.v.a : Int), .int .u64 (s.lo.v.b : Int), .int .u64 (s.lo.v.c : Int), .slice s.lo.A s.lo.v.pre.length s.lo.c, .slice s.lo.B s.lo.v.build.length s.lo.d, .int .i64 s.hi.kind, .int .u64 (s.hi.v.a : Int), .int .u64 (s.hi.v.b : Int), .int .u64 (s.hi.v.c : Int), .slice s.hi.A s.hi.v.pre.length s.hi.c, .slice s.hi.B s.hi.v.build.length s.hi.d] 43)) wr.heap.size (.int .i64 s.lo.kind) (.int .u64 (s.lo.v.a : Int)) (.int .u64 (s.lo.v.b : Int)) (.int .u64 (s.lo.v.c : Int)) (.slice s.lo.A s.lo.v.pre.length s.lo.c) (.slice s.lo.B s.lo.v.build.length s.lo.d) (.int .i64 s.hi.kind) (.int .u64 (s.hi.v.a : Int)) (.int .u64 (s.hi.v.b : Int)) (.int .u64 (s.hi.v.c : Int)) (.slice s.hi.A s.hi.v.pre.length s.hi.c) (.slice s.hi.B s.hi.v.build.length s.hi.d)) := At12B.new wr _ _ _ _ _ _ _ _ _ _ _ _ _
      go_upto_region 5 with (fail)
      generalize wr.alloc (.cells #[.int .i64 s.lo.kind, .int .u64 (s.lo.v.a : Int), .int .u64 (s.lo.v.b : Int), .int .u64 (s.lo.v.c : Int), .slice s.lo.A s.lo.v.pre.length s.lo.c, .slice s.lo.B s.lo.v.build.length s.lo.d, .int .i64 s.hi.kind, .int .u64 (s.hi.v.a : Int), .int .u64 (s.hi.v.b : Int), .int .u64 (s.hi.v.c : Int), .slice s.hi.A s.hi.v.pre.length s.hi.c, .slice s.hi.B s.hi.v.build.length s.hi.d] 43) = W1 at HW HS1 HO1 K1 ⊢
      clear x0 x1 x2 x3 x4 x5 x6 x7 x8 x9 x10 x11
      obtain ⟨hz1, _, x0, x1, x2, x3, x4, x5, x6, x7, x8, x9, x10, x11⟩ := K1.out
      go_wp2_with fail
      refine (counts_any s _ HS1.out).mono ?_
      rintro e w2 ⟨rfl, hb2⟩
      have HW2 := Lib.hid (HW.out.trans (hb2.mono HW.out.size))
      have HO2 := Lib.hid (own_below HO1.out hb2)
      have K2 := Lib.hid (K1.out.kept hb2 hz1)
      clear hb2 hz1 x0 x1 x2 x3 x4 x5 x6 x7 x8 x9 x10 x11 HS1 HW HO1 K1
      obtain ⟨hz2, _, x0, x1, x2, x3, x4, x5, x6, x7, x8, x9, x10, x11⟩ := K2.out
      cases hcn : cnt s.sp
      · have HN : Hid (re.map REdge.edge = edgesOf ((l.take (k + 1)).map RSp.sp) step) := by unfold Hid; rw [HT.out, edgesOf_snoc_no _ _ hcn]; exact HM.out
        clear hcn
        go_wp2
        exact ⟨⟨k + 1, re, by omega, by go_num, HO2.out, HN.out, HI.out, by omega, HW2.out⟩, by simp [intOf]; omega⟩
      · have HN : Hid ((re ++ [REdge.mk s.lo step, REdge.mk s.hi (-step)]).map REdge.edge = edgesOf ((l.take (k + 1)).map RSp.sp) step) := by
          unfold Hid; rw [HT.out, edgesOf_snoc_yes _ _ hcn, List.map_append, HM.out, Int.zero_sub]; rfl
        have HI2 : Hid (∀ e ∈ re ++ [REdge.mk s.lo step, REdge.mk s.hi (-step)], Lies w e.cut) := fun e he => by
          rcases List.mem_append.1 he with he | he
          · exact HI.out e he
          · rcases List.mem_cons.1 he with rfl | he
            · exact HS0.out.lo
            · rw [List.mem_singleton] at he; subst he; exact HS0.out.hi
        have HO3 := Lib.hid (HO2.out.alloc (.cells #[.int .i64 s.lo.kind, .int .u64 (s.lo.v.a : Int), .int .u64 (s.lo.v.b : Int), .int .u64 (s.lo.v.c : Int), .slice s.lo.A s.lo.v.pre.length s.lo.c, .slice s.lo.B s.lo.v.build.length s.lo.d, .int .i64 step, .int .i64 s.hi.kind, .int .u64 (s.hi.v.a : Int), .int .u64 (s.hi.v.b : Int), .int .u64 (s.hi.v.c : Int), .slice s.hi.A s.hi.v.pre.length s.hi.c, .slice s.hi.B s.hi.v.build.length s.hi.d, .int .i64 (-step)] 111))
        have HW3 := Lib.hid (HW2.out.alloc HW2.out.size (.cells #[.int .i64 s.lo.kind, .int .u64 (s.lo.v.a : Int), .int .u64 (s.lo.v.b : Int), .int .u64 (s.lo.v.c : Int), .slice s.lo.A s.lo.v.pre.length s.lo.c, .slice s.lo.B s.lo.v.build.length s.lo.d, .int .i64 step, .int .i64 s.hi.kind, .int .u64 (s.hi.v.a : Int), .int .u64 (s.hi.v.b : Int), .int .u64 (s.hi.v.c : Int), .slice s.hi.A s.hi.v.pre.length s.hi.c, .slice s.hi.B s.hi.v.build.length s.hi.d, .int .i64 (-step)] 111))
        have hz3 := HW2.out.size
        clear hcn
        go_wp2_with (first
          | (at_builtin; refine wpList_append_ed _ rfl _ _ rfl w.heap.size _ re.length re rfl HO3.out ⟨w2.heap.size, 0, none⟩ 2 2 [REdge.mk s.lo step, REdge.mk s.hi (-step)] rfl rfl (news_new w2 _ _) (by omega) (by simp; omega) ?_; intro v4 w4 ho4 hb4; have HB4 := Lib.hid (HW3.out.trans hb4); have HO4 := Lib.hid ho4; clear ho4 hb4)
          | fail)
        refine ⟨⟨k + 1, re ++ [REdge.mk s.lo step, REdge.mk s.hi (-step)], by omega, by go_num, ?_, HN.out, HI2.out, by rw [List.length_append]; simp; omega, HB4.out⟩, by simp [intOf]; omega⟩
        rw [List.length_append]; exact HO4.out
    · obtain rfl : k = n := by omega
      have HN : Hid (re.map REdge.edge = edgesOf (l.map RSp.sp) step) := by have := HM.out; rwa [List.take_of_length_le (by rw [HL.out]; exact Nat.le_refl _)] at this
      go_wp2
      refine bodyPost_ret (v := u5) (by simp [results, Tryz.results47, go_sem]) rfl ⟨u5, re, rfl, HO.out, HN.out, HI.out, by rw [HL.out]; exact hlen, HB.out⟩

set_option maxRecDepth 100000 in
set_option maxHeartbeats 800000 in
theorem atLeast_any (m : Int) (w : World) :
    Calls Tryz.prog 48 #[.int .i64 m] w fun e w' => e = .returned (.func (.func 86) #[] #[.pointer (some ⟨w.heap.size, 0, none⟩)]) ∧ w' = w.alloc (.cells #[.int .i64 m] 3) := by
  go_enter Tryz.func48, Tryz.ntmps48
  go_wp2
  go_ret
  exact ⟨rfl, rfl⟩
set_option maxRecDepth 100000 in
set_option maxHeartbeats 800000 in
theorem in_any (t m : Int) (b : Nat) (w : World) (h : w.cell? ⟨b, 0, none⟩ = some (.int .i64 m)) :
    Calls Tryz.prog 86 #[.int .i64 t, .pointer (some ⟨b, 0, none⟩)] w fun e w' => e = .returned (.bool (decide (m ≤ t))) ∧ w = w' := by
  by_cases hm : m ≤ t
  · have HF := Lib.hid (decide_eq_true hm)
    go_enter Tryz.func86, Tryz.ntmps86
    go_wp2
    go_ret
    exact ⟨by rw [HF.out]; rfl, rfl⟩
  · have HF := Lib.hid (decide_eq_false hm)
    have hd : decide (m ≤ t) = false := HF.out
    go_enter Tryz.func86, Tryz.ntmps86
    go_wp2
    go_ret
    exact ⟨rfl, rfl⟩

end Go.Proofs.YtgfbflnhjpbceaaGreatDoor.Span

namespace Go.Proofs.YtgfbflnhjpbceaaGreatDoor.Span
open Go.RowKit Num Ident Semver Prec

theorem At6B.set4 {W : World} {b : Nat} {u0 u1 u2 u3 u4 u5 : Value} (h : At6B W b u0 u1 u2 u3 u4 u5) (v : Value) : At6B (W.setCell ⟨b, 4, none⟩ v) b u0 u1 u2 u3 v u5 := by
  obtain ⟨h1, h2, c0, c1, c2, c3, c4, c5⟩ := h
  refine ⟨by simpa using h1, fun o => by simp [go_sem, h2], ?_, ?_, ?_, ?_, ?_, ?_⟩ <;> simp [go_sem, c0, c1, c2, c3, c4, c5]
theorem At6B.set5 {W : World} {b : Nat} {u0 u1 u2 u3 u4 u5 : Value} (h : At6B W b u0 u1 u2 u3 u4 u5) (v : Value) : At6B (W.setCell ⟨b, 5, none⟩ v) b u0 u1 u2 u3 u4 v := by
  obtain ⟨h1, h2, c0, c1, c2, c3, c4, c5⟩ := h
  refine ⟨by simpa using h1, fun o => by simp [go_sem, h2], ?_, ?_, ?_, ?_, ?_, ?_⟩ <;> simp [go_sem, c0, c1, c2, c3, c4, c5]
theorem At6B.beside {W : World} {b b' o : Nat} {u0 u1 u2 u3 u4 u5 : Value} (h : At6B W b u0 u1 u2 u3 u4 u5) (hb : b ≠ b') (v : Value) : At6B (W.setCell ⟨b', o, none⟩ v) b u0 u1 u2 u3 u4 u5 := by
  obtain ⟨h1, h2, c0, c1, c2, c3, c4, c5⟩ := h
  have k : ∀ j, (W.setCell ⟨b', o, none⟩ v).cell? ⟨b, j, none⟩ = W.cell? ⟨b, j, none⟩ := fun j => World.cell?_setCell_other _ _ _ _ (by intro e; injection e with e; exact hb e.symm)
  exact ⟨by simpa using h1, fun o => by simp [go_sem, h2], (k 0).trans c0, (k 1).trans c1, (k 2).trans c2, (k 3).trans c3, (k 4).trans c4, (k 5).trans c5⟩
/-- Six stores, one behind the other. -/
def set6 (w : World) (b : Nat) (v0 v1 v2 v3 v4 v5 : Value) : World := (((((w.setCell ⟨b, 0, none⟩ v0).setCell ⟨b, 1, none⟩ v1).setCell ⟨b, 2, none⟩ v2).setCell ⟨b, 3, none⟩ v3).setCell ⟨b, 4, none⟩ v4).setCell ⟨b, 5, none⟩ v5
theorem At6B.set6 {W : World} {b : Nat} {u0 u1 u2 u3 u4 u5 : Value} (h : At6B W b u0 u1 u2 u3 u4 u5) (v0 v1 v2 v3 v4 v5 : Value) : At6B (Span.set6 W b v0 v1 v2 v3 v4 v5) b v0 v1 v2 v3 v4 v5 := by
  obtain ⟨h1, h2, c0, c1, c2, c3, c4, c5⟩ := h
  unfold Span.set6
  refine ⟨by simpa using h1, fun o => by simp [go_sem, h2], ?_, ?_, ?_, ?_, ?_, ?_⟩ <;> simp [go_sem, c0, c1, c2, c3, c4, c5]
theorem below_set6 {B : Nat} {a w : World} (h : Below B a w) {b : Nat} (hb : B ≤ b) (v0 v1 v2 v3 v4 v5 : Value) : Below B a (Span.set6 w b v0 v1 v2 v3 v4 v5) :=
  (((((h.setCell (p := ⟨b, 0, none⟩) hb v0).setCell (p := ⟨b, 1, none⟩) hb v1).setCell (p := ⟨b, 2, none⟩) hb v2).setCell (p := ⟨b, 3, none⟩) hb v3).setCell (p := ⟨b, 4, none⟩) hb v4).setCell (p := ⟨b, 5, none⟩) hb v5
/-- A cut whose row the call itself made. -/
structure OwnC (w : World) (B : Nat) (r : RCut) : Prop where
  own : w.ownsRow B 9 1 (.slice r.A r.v.pre.length r.c) r.v.pre.length (strs r.v.pre)
  rb : r.B = none
  rd : r.d = 0
  build : r.v.build = []
  fit : Fit r.v.pre
theorem OwnC.lies {w : World} {B : Nat} {r : RCut} (h : OwnC w B r) : Lies w r := by
  obtain ⟨A, c, e, _, hr⟩ := SRow.of_own h.own
  injection e with e1 e2 e3
  subst e1
  exact ⟨hr, by rw [h.build]; exact SRow.none_ _ _, h.fit, by rw [h.build]; exact Fit.nil⟩
theorem own_mono {w : World} {B B' : Nat} {e : TypeId} {size : Nat} {v : Value} {n : Nat} {xs : List Value} (h : w.ownsRow B e size v n xs) (hB : B' ≤ B) : w.ownsRow B' e size v n xs := by
  refine ⟨h.1, ?_⟩
  rcases h.2 with h2 | ⟨g, cap, cur, hv, hg, r⟩
  · exact .inl h2
  · exact .inr ⟨g, cap, cur, hv, Nat.le_trans hB hg, r⟩
theorem OwnC.mono {w : World} {B B' : Nat} {r : RCut} (h : OwnC w B r) (hB : B' ≤ B) : OwnC w B' r := ⟨own_mono h.own hB, h.rb, h.rd, h.build, h.fit⟩
theorem OwnC.kept {w w' : World} {B : Nat} {r : RCut} (h : OwnC w B r) (hb : Below w.heap.size w w') : OwnC w' B r := ⟨own_below h.own hb, h.rb, h.rd, h.build, h.fit⟩
theorem OwnC.set {w : World} {B : Nat} {r : RCut} (h : OwnC w B r) {b o : Nat} (hb : b < B) (v : Value) : OwnC (w.setCell ⟨b, o, none⟩ v) B r := ⟨ownsRow_setCell_below h.own hb v, h.rb, h.rd, h.build, h.fit⟩
theorem OwnC.set6 {w : World} {B : Nat} {r : RCut} (h : OwnC w B r) {b : Nat} (hb : b < B) (v0 v1 v2 v3 v4 v5 : Value) : OwnC (Span.set6 w b v0 v1 v2 v3 v4 v5) B r := (((((h.set hb v0).set hb v1).set hb v2).set hb v3).set hb v4).set hb v5
theorem OwnC.grown {w w' : World} {B B2 : Nat} {r : RCut} {set : Value} {n : Nat} {xs : List Value} (h : OwnC w B r) (hs : w.ownsRow B2 43 12 set n xs) (hg : w.grownBy w' set.ownBlock) : OwnC w' B r :=
  ⟨h.own.kept hg (own_apart h.own hs (by decide)), h.rb, h.rd, h.build, h.fit⟩
/-- append of a row of texts that may be a nil slice of whatever room. -/
theorem wpList_append_row (w : World) {ops : Array Oper} {rest : List Oper} {o : Oper} {a : Act} {Q : Exit → Act → World → Prop} (hgd : o.guard = none) (s x : Operand)
    (ho : o.op = .call { callee := .builtin .append, args := #[s, x], argTypes := #[23, 23] })
    (base : Nat) (v : Value) (n : Nat) (xs : List (List UInt8)) (hs : a.eval s = v) (hown : w.ownsRow base 9 1 v n (strs xs))
    (A : Option Addr) (m c : Nat) (ys : List (List UInt8)) (hx : a.eval x = .slice A m c) (hr : SRow w A m ys) (hb : (n + m) * 16 ≤ 140737488355328) (hbase : base ≤ w.heap.size)
    (h : ∀ v' w', w'.ownsRow base 9 1 v' (n + m) (strs (xs ++ ys)) → Below base w w' → wpList Tryz.prog ops Q rest (a.put o.dst v') w') : wpList Tryz.prog ops Q (o :: rest) a w := by
  cases A with
  | some ad => exact wpList_append_strs w hgd s x ho base v n xs hs hown (some ad) m c ys hx hr (fun e => by cases e) hb hbase h
  | none =>
    obtain ⟨rfl, rfl⟩ := hr.nil
    obtain ⟨i, hi, _⟩ := info_parts strInfo
    have hrun : (Builtin.append_ #[23, 23] o.type #[v, .slice none 0 c]).run Tryz.prog w = .ok v w := by
      rcases hown.2 with ⟨rfl, rfl⟩ | ⟨g, cap, cur, rfl, _, _, hnc, _⟩
      · simp [Builtin.append_, run_underlying Tryz.underlying23, sizeOf, typeInfo, hi, Builtin.lenOf, Builtin.firstCells]
      · simp [Builtin.append_, run_underlying Tryz.underlying23, sizeOf, typeInfo, hi, Builtin.lenOf, Builtin.firstCells, hnc, storeCells]
    refine wpList_plain hgd fun K hK => ?_
    unfold Oper.wp execOp
    simp only [ho, resolve, invoke, builtin, Sem.run_bind, Sem.run_pure, Result.andThen_ok, List.map_toArray, List.map_cons, List.map_nil, hs, hx, hrun]
    exact hK _ _ (h v w (by simpa using hown) (Below.refl _ _))
/-- What copied leaves. -/
def CopiedPost (w : World) (r : RCut) (e : Ending) (w' : World) : Prop :=
  ∃ r' : RCut, e = .returned (.agg #[.int .i64 r'.kind, .int .u64 (r'.v.a : Int), .int .u64 (r'.v.b : Int), .int .u64 (r'.v.c : Int), .slice r'.A r'.v.pre.length r'.c, .slice r'.B r'.v.build.length r'.d]) ∧ r'.cut = ⟨r.kind, bare r.v⟩ ∧ OwnC w' w.heap.size r' ∧ Below w.heap.size w w'

set_option maxRecDepth 100000 in
set_option maxHeartbeats 3200000 in
theorem copied_any (r : RCut) (w : World) (h : Lies w r) (hn : r.v.pre.length ≤ 1000) :
    Calls Tryz.prog 84 #[.agg #[.int .i64 r.kind, .int .u64 (r.v.a : Int), .int .u64 (r.v.b : Int), .int .u64 (r.v.c : Int), .slice r.A r.v.pre.length r.c, .slice r.B r.v.build.length r.d]] w (CopiedPost w r) := by
  have HBa : Hid (Below w.heap.size w ((w.alloc (.cells #[.int .i64 r.kind, .int .u64 (r.v.a : Int), .int .u64 (r.v.b : Int), .int .u64 (r.v.c : Int), .slice r.A r.v.pre.length r.c, .slice r.B r.v.build.length r.d] 41)).alloc (.cells #[.int .i64 0, .int .u64 0, .int .u64 0, .int .u64 0, .slice none 0 0, .slice none 0 0] 41))) := ((Below.refl _ _).alloc (Nat.le_refl _) _).alloc (by simp) _
  have HL := Lib.hid (h.kept HBa.out)
  have K0 : Hid (At6B ((w.alloc (.cells #[.int .i64 r.kind, .int .u64 (r.v.a : Int), .int .u64 (r.v.b : Int), .int .u64 (r.v.c : Int), .slice r.A r.v.pre.length r.c, .slice r.B r.v.build.length r.d] 41)).alloc (.cells #[.int .i64 0, .int .u64 0, .int .u64 0, .int .u64 0, .slice none 0 0, .slice none 0 0] 41)) w.heap.size (.int .i64 r.kind) (.int .u64 (r.v.a : Int)) (.int .u64 (r.v.b : Int)) (.int .u64 (r.v.c : Int)) (.slice r.A r.v.pre.length r.c) (.slice r.B r.v.build.length r.d)) := (At6B.new w _ _ _ _ _ _ _).kept ((Below.refl _ _).alloc (Nat.le_refl _) _) (by simp)
  have J0 : Hid (At6B ((w.alloc (.cells #[.int .i64 r.kind, .int .u64 (r.v.a : Int), .int .u64 (r.v.b : Int), .int .u64 (r.v.c : Int), .slice r.A r.v.pre.length r.c, .slice r.B r.v.build.length r.d] 41)).alloc (.cells #[.int .i64 0, .int .u64 0, .int .u64 0, .int .u64 0, .slice none 0 0, .slice none 0 0] 41)) (w.heap.size + 1) (.int .i64 0) (.int .u64 0) (.int .u64 0) (.int .u64 0) (.slice none 0 0) (.slice none 0 0)) := by
    have := At6B.new (w.alloc (.cells #[.int .i64 r.kind, .int .u64 (r.v.a : Int), .int .u64 (r.v.b : Int), .int .u64 (r.v.c : Int), .slice r.A r.v.pre.length r.c, .slice r.B r.v.build.length r.d] 41)) 41 (.int .i64 0) (.int .u64 0) (.int .u64 0) (.int .u64 0) (.slice none 0 0) (.slice none 0 0)
    rw [size_alloc] at this; exact this
  clear h
  go_enter Tryz.func84, Tryz.ntmps84
  go_upto_region 1 with (fail)
  generalize ((w.alloc (.cells #[.int .i64 r.kind, .int .u64 (r.v.a : Int), .int .u64 (r.v.b : Int), .int .u64 (r.v.c : Int), .slice r.A r.v.pre.length r.c, .slice r.B r.v.build.length r.d] 41)).alloc (.cells #[.int .i64 0, .int .u64 0, .int .u64 0, .int .u64 0, .slice none 0 0, .slice none 0 0] 41)) = W at HBa HL K0 J0 ⊢
  obtain ⟨hz, _, x0, x1, x2, x3, x4, x5⟩ := K0.out
  have hy := J0.out.1
  go_upto_region 3 with (first
    | (at_builtin; refine wpList_append_row _ rfl _ _ rfl W.heap.size _ 0 [] rfl (World.ownsRow_nil _ _ _ _) r.A r.v.pre.length r.c r.v.pre rfl HL.out.pre (by omega) (Nat.le_refl _) ?_; intro v3 w3 ho hb3; rw [Nat.zero_add, List.nil_append] at ho; obtain ⟨A3, c3, rfl, hc3, hr3⟩ := SRow.of_own ho; have R3 : Hid (OwnC w3 W.heap.size ⟨r.kind, bare r.v, A3, c3, none, 0⟩) := ⟨ho, rfl, rfl, rfl, HL.out.fpre⟩; have K1 := Lib.hid (K0.out.kept hb3 hz); have J1 := Lib.hid (J0.out.kept hb3 hy); have B1 := Lib.hid (HBa.out.trans (hb3.mono HBa.out.size)); have hz3 := hb3.size; clear ho hr3 hb3 x0 x1 x2 x3 x4 x5; obtain ⟨_, hf, x0, x1, x2, x3, x4, x5⟩ := K1.out)
    | fail)
  have K2 := Lib.hid ((K1.out.set4 (.slice A3 r.v.pre.length c3)).set5 (.slice none 0 0))
  have J2 := Lib.hid ((J1.out.beside (b' := w.heap.size) (o := 4) (by omega) (.slice A3 r.v.pre.length c3)).beside (b' := w.heap.size) (o := 5) (by omega) (.slice none 0 0))
  have R4 := Lib.hid ((R3.out.set (b := w.heap.size) (o := 4) hz (.slice A3 r.v.pre.length c3)).set (b := w.heap.size) (o := 5) hz (.slice none 0 0))
  have B2 := Lib.hid ((B1.out.setCell (p := ⟨w.heap.size, 4, none⟩) (Nat.le_refl _) (.slice A3 r.v.pre.length c3)).setCell (p := ⟨w.heap.size, 5, none⟩) (Nat.le_refl _) (.slice none 0 0))
  clear x0 x1 x2 x3 x4 x5 R3 K1 J1 B1 hf
  generalize (w3.setCell ⟨w.heap.size, 4, none⟩ (.slice A3 r.v.pre.length c3)).setCell ⟨w.heap.size, 5, none⟩ (.slice none 0 0) = W4 at K2 J2 R4 B2 ⊢
  obtain ⟨_, _, x0, x1, x2, x3, x4, x5⟩ := K2.out
  obtain ⟨_, hg, y0, y1, y2, y3, y4, y5⟩ := J2.out
  have K3 := Lib.hid (J2.out.set6 (.int .i64 r.kind) (.int .u64 (r.v.a : Int)) (.int .u64 (r.v.b : Int)) (.int .u64 (r.v.c : Int)) (.slice A3 r.v.pre.length c3) (.slice none 0 0))
  have B3 := Lib.hid (below_set6 B2.out (b := w.heap.size + 1) (by omega) (.int .i64 r.kind) (.int .u64 (r.v.a : Int)) (.int .u64 (r.v.b : Int)) (.int .u64 (r.v.c : Int)) (.slice A3 r.v.pre.length c3) (.slice none 0 0))
  have R5 : Hid (OwnC (Span.set6 W4 (w.heap.size + 1) (.int .i64 r.kind) (.int .u64 (r.v.a : Int)) (.int .u64 (r.v.b : Int)) (.int .u64 (r.v.c : Int)) (.slice A3 r.v.pre.length c3) (.slice none 0 0)) W.heap.size ⟨r.kind, bare r.v, A3, c3, none, 0⟩) := R4.out.set6 hy _ _ _ _ _ _
  go_wp2
  change bodyPost _ _ _ _ _ (Span.set6 W4 (w.heap.size + 1) (.int .i64 r.kind) (.int .u64 (r.v.a : Int)) (.int .u64 (r.v.b : Int)) (.int .u64 (r.v.c : Int)) (.slice A3 r.v.pre.length c3) (.slice none 0 0))
  generalize Span.set6 W4 (w.heap.size + 1) (.int .i64 r.kind) (.int .u64 (r.v.a : Int)) (.int .u64 (r.v.b : Int)) (.int .u64 (r.v.c : Int)) (.slice A3 r.v.pre.length c3) (.slice none 0 0) = W5 at K3 B3 R5 ⊢
  obtain ⟨_, _, z0, z1, z2, z3, z4, z5⟩ := K3.out
  exact bodyPost_ret (v := .agg #[.int .i64 r.kind, .int .u64 (r.v.a : Int), .int .u64 (r.v.b : Int), .int .u64 (r.v.c : Int), .slice A3 r.v.pre.length c3, .slice none 0 0]) (by simp [results, Tryz.results84, go_sem, z0, z1, z2, z3, z4, z5]) rfl ⟨⟨r.kind, bare r.v, A3, c3, none, 0⟩, rfl, rfl, R5.out.mono HBa.out.size, B3.out⟩
end Go.Proofs.YtgfbflnhjpbceaaGreatDoor.Span

namespace Go.Proofs.YtgfbflnhjpbceaaGreatDoor.Span
open Go.RowKit

/-- As Q; by a goto: J of the label. -/
def jumps (J : Nat → Act → World → Prop) (Q : Exit → Act → World → Prop) : Exit → Act → World → Prop
  | .goto l, a, w => J l a w
  | e, a, w => Q e a w
/-- What holds at a jump: at either label what holds there, and the measure is less. -/
def Less (J0 J1 : Act → World → Prop) (m0 m1 : Act → World → Nat) (m : Nat) (l : Nat) (a : Act) (w : World) : Prop := (l = 0 ∧ J0 a w ∧ m0 a w < m) ∨ (l = 1 ∧ J1 a w ∧ m1 a w < m)
theorem wp_two {P : Program} {a : Act} {w : World} {Q : Exit → Act → World → Prop} {c rest0 rest1 : Code} (J0 J1 : Act → World → Prop) (m0 m1 : Act → World → Nat) (hf0 : findLabel c 0 = some (Code.skip.seq rest0)) (hf1 : findLabel c 1 = some (Code.skip.seq rest1))
    (pass1 : ∀ m a w, J1 a w → m1 a w = m → rest1.wp P (jumps (Less J0 J1 m0 m1 m) Q) a w)
    (pass0 : Hid (∀ m a w, J1 a w → m1 a w ≤ m → rest1.wp P (jumps (Less J0 J1 m0 m1 m) Q) a w) → ∀ m a w, J0 a w → m0 a w = m → rest0.wp P (jumps (Less J0 J1 m0 m1 m) Q) a w)
    (first : Hid (∀ a w, J0 a w → rest0.wp P (jumps (fun l a w => (l = 0 ∧ J0 a w) ∨ (l = 1 ∧ J1 a w)) Q) a w) → c.wp P (jumps (fun l a w => (l = 0 ∧ J0 a w) ∨ (l = 1 ∧ J1 a w)) Q) a w) : (Code.scope c).wp P Q a w := by
  have mono1 : ∀ m a w, J1 a w → m1 a w ≤ m → rest1.wp P (jumps (Less J0 J1 m0 m1 m) Q) a w := fun m a w h hm =>
    wp_mono (pass1 _ a w h rfl) (fun e _ _ hq => by
      cases e <;> first | exact hq | (rcases hq with ⟨h1, h2, h3⟩ | ⟨h1, h2, h3⟩; exact .inl ⟨h1, h2, Nat.lt_of_lt_of_le h3 hm⟩; exact .inr ⟨h1, h2, Nat.lt_of_lt_of_le h3 hm⟩))
  have p0 := pass0 mono1
  have first := first fun a w h => wp_mono (p0 _ a w h rfl) (fun e _ _ hq => by
      cases e <;> first | exact hq | (rcases hq with ⟨h1, h2, h3⟩ | ⟨h1, h2, h3⟩; exact .inl ⟨h1, h2⟩; exact .inr ⟨h1, h2⟩))
  intro b k cs
  have hg0 : gotoIn 0 (.inScope c :: k) = some (.code (Code.skip.seq rest0) :: .inScope c :: k) := by simp [gotoIn, hf0]
  have hg1 : gotoIn 1 (.inScope c :: k) = some (.code (Code.skip.seq rest1) :: .inScope c :: k) := by simp [gotoIn, hf1]
  have key : ∀ n, (∀ a w, m0 a w ≤ n → J0 a w → ∃ e a' w', Q e a' w' ∧ Arrives P (lone (b.at a (.code (Code.skip.seq rest0) :: .inScope c :: k)) cs w) b k cs e a' w') ∧ (∀ a w, m1 a w ≤ n → J1 a w → ∃ e a' w', Q e a' w' ∧ Arrives P (lone (b.at a (.code (Code.skip.seq rest1) :: .inScope c :: k)) cs w) b k cs e a' w') := by
    intro n
    induction n using Nat.strongRecOn with
    | _ n ih =>
      have go : ∀ (rest : Code) (m : Nat) (a : Act) (w : World), m ≤ n → rest.wp P (jumps (Less J0 J1 m0 m1 m) Q) a w → ∃ e a' w', Q e a' w' ∧ Arrives P (lone (b.at a (.code (Code.skip.seq rest) :: .inScope c :: k)) cs w) b k cs e a' w' := by
        intro rest m a w hm hw
        obtain ⟨e, a₁, w₁, hq, harr⟩ := (wp_seq (wp_skip hw) : (Code.skip.seq rest).wp P _ a w) b (.inScope c :: k) cs
        cases e with
        | normal => exact ⟨.normal, a₁, w₁, hq, Steps.trans harr (.one step_inScope)⟩
        | exit id => exact ⟨.exit id, a₁, w₁, hq, fun k' hk => harr k' (by simp [exitTo, hk])⟩
        | goto l' =>
          rcases hq with ⟨rfl, hJ', hlt⟩ | ⟨rfl, hJ', hlt⟩
          · obtain ⟨e₂, a₂, w₂, hq₂, harr₂⟩ := (ih _ (Nat.lt_of_lt_of_le hlt hm)).1 a₁ w₁ (Nat.le_refl _) hJ'
            exact ⟨e₂, a₂, w₂, hq₂, .of_steps (harr _ hg0) harr₂⟩
          · obtain ⟨e₂, a₂, w₂, hq₂, harr₂⟩ := (ih _ (Nat.lt_of_lt_of_le hlt hm)).2 a₁ w₁ (Nat.le_refl _) hJ'
            exact ⟨e₂, a₂, w₂, hq₂, .of_steps (harr _ hg1) harr₂⟩
        | ret => exact ⟨_, a₁, w₁, hq, harr⟩
        | panic ch => exact ⟨_, a₁, w₁, hq, harr⟩
        | outgrown => exact ⟨_, a₁, w₁, hq, harr⟩
      exact ⟨fun a w hm hJ => go rest0 _ a w hm (p0 _ a w hJ rfl), fun a w hm hJ => go rest1 _ a w hm (pass1 _ a w hJ rfl)⟩
  obtain ⟨e, a₁, w₁, hq, harr⟩ := first b (.inScope c :: k) cs
  cases e with
  | normal => exact ⟨.normal, a₁, w₁, hq, .head step_scope (Steps.trans harr (.one step_inScope))⟩
  | exit id => exact ⟨.exit id, a₁, w₁, hq, fun k' hk => .head step_scope (harr k' (by simp [exitTo, hk]))⟩
  | goto l' =>
    rcases hq with ⟨rfl, hJ'⟩ | ⟨rfl, hJ'⟩
    · obtain ⟨e₂, a₂, w₂, hq₂, harr₂⟩ := (key _).1 a₁ w₁ (Nat.le_refl _) hJ'
      exact ⟨e₂, a₂, w₂, hq₂, .of_steps (.head step_scope (harr _ hg0)) harr₂⟩
    · obtain ⟨e₂, a₂, w₂, hq₂, harr₂⟩ := (key _).2 a₁ w₁ (Nat.le_refl _) hJ'
      exact ⟨e₂, a₂, w₂, hq₂, .of_steps (.head step_scope (harr _ hg1)) harr₂⟩
  | ret => exact ⟨_, a₁, w₁, hq, .of_steps (.one step_scope) harr⟩
  | panic ch => exact ⟨_, a₁, w₁, hq, .of_steps (.one step_scope) harr⟩
  | outgrown => exact ⟨_, a₁, w₁, hq, .of_steps (.one step_scope) harr⟩
end Go.Proofs.YtgfbflnhjpbceaaGreatDoor.Span
