/-
  The law NormParts answers true for any two ranges and any version, and writes nothing that was there. Conditions: what came in reads as two ranges and a version; the two tables read as they are written. (Made by wip/gen_nmparts.py.)
  What came in, as the walks ask it: a slice of bytes reads as a list of bytes, a slice of texts as a list of texts. No condition beyond the form's own.
  The table of ops as a row lists it: an array of strings that reads as the datum holds the datum's texts, cell for cell; so where the row's condition is met, the table of ops reads as it is written.
  A version that came in: its numbers fit, its rows read as lists of texts. No condition beyond the form's own.
  Spans that came in: a slice of spans reads as a list of spans whose versions' rows lie where they say. No condition beyond the form's own.
  A range that came in: it reads as a range whose rows lie where they say; no row is longer than a length can say. No condition beyond the form's own.
-/
import Derived.Test.YtgfbflnhjpbceaaGreatDoorPartsB10
import Derived.Deep.QuietTactic
import Derived.BigQuiet
import Derived.ProofKit
import Derived.OpenShut
import Derived.SliceStrings
import Derived.Lib.LaidTab
import Derived.Deep.Fields
import Derived.Deep.Slices
import Derived.ChangeSame
namespace Go.Proofs.YtgfbflnhjpbceaaGreatDoor.Nrm
open Go.RowKit Num Ident Semver Prec Span
open Range (Rng noRng goodR goodL fits wt wtL RV RAt OpsTab Keep KeepS LtB zeroRV LenOk)
theorem Tells.small {r : Rng} {most z : Int} (h : Tells r most z) (hm : 0 ≤ most ∧ most ≤ 1000) (hz : ¬ most < z) : (∃ d, goodR r d = true) → (tot r : Int) ≤ most := fun hg => by
  have := (h hg hm.1 hm.2).2.2 (by omega)
  omega
mutual
theorem wt_tot : ∀ r : Rng, wt r ≤ tot r
  | .mk k v l => by
    show 1 + wtL l ≤ 1 + v.pre.length + v.build.length + totL l
    have := wt_totL l
    omega
theorem wt_totL : ∀ l : List Rng, wtL l ≤ totL l
  | [] => Nat.le_refl _
  | r :: rs => by
    show wt r + wtL rs ≤ tot r + totL rs
    have := wt_tot r
    have := wt_totL rs
    omega
end
theorem good_at : ∀ (m : Nat) (r : Rng) (d d' : Nat), wt r ≤ m → goodR r d = true → d' + 2 * m ≤ 66 → goodR r d' = true
  | 0, r, d, d', h, _, _ => by rw [Range.wt_eq] at h; omega
  | m + 1, r, d, d', h, hg, hd => by
    obtain ⟨k, v, l⟩ := r
    rw [Range.goodR_eq, Bool.and_eq_true, Bool.and_eq_true] at hg ⊢
    have hwl : wtL l ≤ m := by rw [Range.wt_eq] at h; have : wtL (Rng.mk k v l).subs = wtL l := rfl; omega
    refine ⟨⟨decide_eq_true (by omega), hg.1.2⟩, Range.goodL_at.2 fun j hj => ?_⟩
    have h1 := Range.goodL_at.1 hg.2 j hj
    have hmem : l.getD j noRng ∈ l := by rw [List.getD_eq_getElem?_getD, List.getElem?_eq_getElem hj]; exact List.getElem_mem _
    have := Range.opens_two k (l.getD j noRng).kind
    exact good_at m _ _ _ (Nat.le_trans (Range.wt_mem hmem) hwl) h1 (by omega)
theorem hasR_good {r : Rng} {v : Ver} (hg : goodR r 0 = true) (hv : goodV v = true) : hasR r v = inV r v := by unfold hasR; rw [hg, hv]; rfl
theorem good_not {a : Rng} (ha : goodR a 0 = true) (hw : wt a ≤ 15) : goodR (.mk 11 noVer [a]) 0 = true := by
  rw [Range.goodR_eq, Bool.and_eq_true, Bool.and_eq_true]
  refine ⟨⟨by decide, (by decide : fits 11 noVer 1 = true)⟩, Range.goodL_at.2 fun j hj => ?_⟩
  obtain rfl : j = 0 := by simpa using hj
  have := Range.opens_two 11 a.kind
  exact good_at 15 a 0 _ hw ha (by show 0 + Range.opens 11 a.kind + 2 * 15 ≤ 66; omega)
theorem good_two {k : Int} {a b : Rng} (hk : k = 9 ∨ k = 10) (ha : goodR a 0 = true) (hw : wt a ≤ 15) (hb : goodR b 0 = true) (hwb : wt b ≤ 15) : goodR (.mk k noVer [a, b]) 0 = true := by
  rw [Range.goodR_eq, Bool.and_eq_true, Bool.and_eq_true]
  refine ⟨⟨by decide, by rcases hk with rfl | rfl; exact (by decide : fits 9 noVer 2 = true); exact (by decide : fits 10 noVer 2 = true)⟩, Range.goodL_at.2 fun j hj => ?_⟩
  match j, hj with
  | 0, _ =>
    have := Range.opens_two k a.kind
    exact good_at 15 a 0 _ hw ha (by show 0 + Range.opens k a.kind + 2 * 15 ≤ 66; omega)
  | 1, _ =>
    have := Range.opens_two k b.kind
    exact good_at 15 b 0 _ hwb hb (by show 0 + Range.opens k b.kind + 2 * 15 ≤ 66; omega)
theorem has_not {a : Rng} {v : Ver} (ha : goodR a 0 = true) (hw : wt a ≤ 15) (hv : goodV v = true) : hasR (.mk 11 noVer [a]) v = !inV a v := by
  rw [hasR_good (good_not ha hw) hv]; rfl
theorem has_all {a b : Rng} {v : Ver} (ha : goodR a 0 = true) (hw : wt a ≤ 15) (hb : goodR b 0 = true) (hwb : wt b ≤ 15) (hv : goodV v = true) : hasR (.mk 9 noVer [a, b]) v = (inV a v && inV b v) := by
  rw [hasR_good (good_two (.inl rfl) ha hw hb hwb) hv]
  show (inV a v && (inV b v && true)) = _
  rw [Bool.and_true]
theorem has_one {a b : Rng} {v : Ver} (ha : goodR a 0 = true) (hw : wt a ≤ 15) (hb : goodR b 0 = true) (hwb : wt b ≤ 15) (hv : goodV v = true) : hasR (.mk 10 noVer [a, b]) v = (inV a v || inV b v) := by
  rw [hasR_good (good_two (.inr rfl) ha hw hb hwb) hv]
  show (inV a v || (inV b v || false)) = _
  rw [Bool.or_false]
theorem lenOk_one (k : Int) {a : Rng} (ha : LenOk a) : LenOk (.mk k noVer [a]) := .mk k noVer [a] (by simp) fun y hy => by obtain rfl := List.mem_singleton.1 hy; exact ha
theorem lenOk_two (k : Int) {a b : Rng} (ha : LenOk a) (hb : LenOk b) : LenOk (.mk k noVer [a, b]) := .mk k noVer [a, b] (by simp) fun y hy => by
  rcases List.mem_cons.1 hy with rfl | h
  · exact ha
  · obtain rfl := List.mem_singleton.1 h; exact hb
theorem cells_new (W : World) (t : TypeId) (p l s : List Value) (x : RV) (hl : l = p ++ x.vals ++ s) : Range.CellsAt (W.alloc (.cells ⟨l⟩ t)) W.heap.size p.length x := by
  intro i u hu
  have hi : i < 7 := (List.getElem?_eq_some_iff.1 hu).1
  subst hl
  have : (p ++ x.vals ++ s)[p.length + i]? = some u := by
    rw [List.append_assoc, List.getElem?_append_right (by omega), Nat.add_sub_cancel_left, List.getElem?_append_left (by rw [Range.rv_len]; exact hi)]; exact hu
  simpa [go_sem] using this
theorem lies_one (W : World) (k : Int) {B : Nat} {ra : Rng} {xa : RV} (ha : Range.Lies W (LtB B) ra xa) (hB : B ≤ W.heap.size) :
    Range.Lies (W.alloc (.cells #[.int .i64 xa.kind, .int .u64 (xa.v.a : Int), .int .u64 (xa.v.b : Int), .int .u64 (xa.v.c : Int), .slice xa.A xa.v.pre.length xa.c, .slice xa.B xa.v.build.length xa.d, .slice xa.L xa.n xa.e] 28)) (LtB (W.alloc (.cells #[.int .i64 xa.kind, .int .u64 (xa.v.a : Int), .int .u64 (xa.v.b : Int), .int .u64 (xa.v.c : Int), .slice xa.A xa.v.pre.length xa.c, .slice xa.B xa.v.build.length xa.d, .slice xa.L xa.n xa.e] 28)).heap.size) (.mk k noVer [ra]) ⟨k, noVer, none, 0, none, 0, some ⟨W.heap.size, 0, none⟩, 1, 1⟩ := by
  have hz : (W.alloc (.cells #[.int .i64 xa.kind, .int .u64 (xa.v.a : Int), .int .u64 (xa.v.b : Int), .int .u64 (xa.v.c : Int), .slice xa.A xa.v.pre.length xa.c, .slice xa.B xa.v.build.length xa.d, .slice xa.L xa.n xa.e] 28)).heap.size = W.heap.size + 1 := size_alloc _ _
  have hb : Below W.heap.size W (W.alloc (.cells #[.int .i64 xa.kind, .int .u64 (xa.v.a : Int), .int .u64 (xa.v.b : Int), .int .u64 (xa.v.c : Int), .slice xa.A xa.v.pre.length xa.c, .slice xa.B xa.v.build.length xa.d, .slice xa.L xa.n xa.e] 28)) := (Below.refl _ _).alloc (Nat.le_refl _) _
  refine Range.Lies.many k (l := [ra]) ⟨fun _ => xa, rfl, fun _ => ⟨W.heap.size, 0, rfl, by unfold LtB; omega, fun j hj => ?_⟩, fun j hj => ?_⟩ (Nat.le_refl _) (fun e => by cases e)
  · obtain rfl : j = 0 := by omega
    exact cells_new W _ [] _ [] xa (by simp [RV.vals])
  · obtain rfl : j = 0 := by omega
    exact ((ha.mono (S' := LtB W.heap.size) fun g hg _ => Nat.lt_of_lt_of_le hg hB).keep (KeepS.of_below (S := LtB W.heap.size) hb)).mono fun g hg _ => by unfold LtB at *; omega
theorem lies_two (W : World) (k : Int) {B : Nat} {ra rb : Rng} {xa xb : RV} (ha : Range.Lies W (LtB B) ra xa) (hb0 : Range.Lies W (LtB B) rb xb) (hB : B ≤ W.heap.size) :
    Range.Lies (W.alloc (.cells #[.int .i64 xa.kind, .int .u64 (xa.v.a : Int), .int .u64 (xa.v.b : Int), .int .u64 (xa.v.c : Int), .slice xa.A xa.v.pre.length xa.c, .slice xa.B xa.v.build.length xa.d, .slice xa.L xa.n xa.e, .int .i64 xb.kind, .int .u64 (xb.v.a : Int), .int .u64 (xb.v.b : Int), .int .u64 (xb.v.c : Int), .slice xb.A xb.v.pre.length xb.c, .slice xb.B xb.v.build.length xb.d, .slice xb.L xb.n xb.e] 28)) (LtB (W.alloc (.cells #[.int .i64 xa.kind, .int .u64 (xa.v.a : Int), .int .u64 (xa.v.b : Int), .int .u64 (xa.v.c : Int), .slice xa.A xa.v.pre.length xa.c, .slice xa.B xa.v.build.length xa.d, .slice xa.L xa.n xa.e, .int .i64 xb.kind, .int .u64 (xb.v.a : Int), .int .u64 (xb.v.b : Int), .int .u64 (xb.v.c : Int), .slice xb.A xb.v.pre.length xb.c, .slice xb.B xb.v.build.length xb.d, .slice xb.L xb.n xb.e] 28)).heap.size) (.mk k noVer [ra, rb]) ⟨k, noVer, none, 0, none, 0, some ⟨W.heap.size, 0, none⟩, 2, 2⟩ := by
  have hz : (W.alloc (.cells #[.int .i64 xa.kind, .int .u64 (xa.v.a : Int), .int .u64 (xa.v.b : Int), .int .u64 (xa.v.c : Int), .slice xa.A xa.v.pre.length xa.c, .slice xa.B xa.v.build.length xa.d, .slice xa.L xa.n xa.e, .int .i64 xb.kind, .int .u64 (xb.v.a : Int), .int .u64 (xb.v.b : Int), .int .u64 (xb.v.c : Int), .slice xb.A xb.v.pre.length xb.c, .slice xb.B xb.v.build.length xb.d, .slice xb.L xb.n xb.e] 28)).heap.size = W.heap.size + 1 := size_alloc _ _
  have hb : Below W.heap.size W (W.alloc (.cells #[.int .i64 xa.kind, .int .u64 (xa.v.a : Int), .int .u64 (xa.v.b : Int), .int .u64 (xa.v.c : Int), .slice xa.A xa.v.pre.length xa.c, .slice xa.B xa.v.build.length xa.d, .slice xa.L xa.n xa.e, .int .i64 xb.kind, .int .u64 (xb.v.a : Int), .int .u64 (xb.v.b : Int), .int .u64 (xb.v.c : Int), .slice xb.A xb.v.pre.length xb.c, .slice xb.B xb.v.build.length xb.d, .slice xb.L xb.n xb.e] 28)) := (Below.refl _ _).alloc (Nat.le_refl _) _
  have up : ∀ {r : Rng} {x : RV}, Range.Lies W (LtB B) r x → Range.Lies (W.alloc (.cells #[.int .i64 xa.kind, .int .u64 (xa.v.a : Int), .int .u64 (xa.v.b : Int), .int .u64 (xa.v.c : Int), .slice xa.A xa.v.pre.length xa.c, .slice xa.B xa.v.build.length xa.d, .slice xa.L xa.n xa.e, .int .i64 xb.kind, .int .u64 (xb.v.a : Int), .int .u64 (xb.v.b : Int), .int .u64 (xb.v.c : Int), .slice xb.A xb.v.pre.length xb.c, .slice xb.B xb.v.build.length xb.d, .slice xb.L xb.n xb.e] 28)) (LtB (W.alloc (.cells #[.int .i64 xa.kind, .int .u64 (xa.v.a : Int), .int .u64 (xa.v.b : Int), .int .u64 (xa.v.c : Int), .slice xa.A xa.v.pre.length xa.c, .slice xa.B xa.v.build.length xa.d, .slice xa.L xa.n xa.e, .int .i64 xb.kind, .int .u64 (xb.v.a : Int), .int .u64 (xb.v.b : Int), .int .u64 (xb.v.c : Int), .slice xb.A xb.v.pre.length xb.c, .slice xb.B xb.v.build.length xb.d, .slice xb.L xb.n xb.e] 28)).heap.size) r x := fun h => ((h.mono (S' := LtB W.heap.size) fun g hg _ => Nat.lt_of_lt_of_le hg hB).keep (KeepS.of_below (S := LtB W.heap.size) hb)).mono fun g hg _ => by unfold LtB at *; omega
  refine Range.Lies.many k (l := [ra, rb]) ⟨fun j => if j = 0 then xa else xb, rfl, fun _ => ⟨W.heap.size, 0, rfl, by unfold LtB; omega, fun j hj => ?_⟩, fun j hj => ?_⟩ (Nat.le_refl _) (fun e => by cases e)
  · match j, hj with
    | 0, _ => exact cells_new W _ [] _ xb.vals xa (by simp [RV.vals])
    | 1, _ => exact cells_new W _ xa.vals _ [] xb (by simp [RV.vals])
  · match j, hj with
    | 0, _ => exact up ha
    | 1, _ => exact up hb0
set_option maxRecDepth 100000 in
set_option maxHeartbeats 6400000 in
theorem normParts_any (ra rb : Rng) (xa xb : RV) (v : Ver) (A : Option Addr) (c : Nat) (B : Option Addr) (d : Nat) (w : World) (ha : Range.Lies w (LtB w.heap.size) ra xa) (la : LenOk ra) (hb0 : Range.Lies w (LtB w.heap.size) rb xb) (lb : LenOk rb)
    (hr1 : SRow w A v.pre.length v.pre) (hr2 : SRow w B v.build.length v.build) (hf : v.pre.length ≤ maxLen ∧ v.build.length ≤ maxLen ∧ (∀ x ∈ v.pre, x.length ≤ maxLen) ∧ (∀ x ∈ v.build, x.length ≤ maxLen)) (htab : Tab w) (ht : OpsTab w) :
    Calls Tryz.prog 7 #[xa.agg, xb.agg, .agg #[.int .u64 (v.a : Int), .int .u64 (v.b : Int), .int .u64 (v.c : Int), .slice A v.pre.length c, .slice B v.build.length d]] w fun e w' => e = .returned (.bool true) ∧ Below w.heap.size w w' := by
  have HB0 : Hid (Below w.heap.size w (((w.alloc (.cells #[.int .i64 xa.kind, .int .u64 (xa.v.a : Int), .int .u64 (xa.v.b : Int), .int .u64 (xa.v.c : Int), .slice xa.A xa.v.pre.length xa.c, .slice xa.B xa.v.build.length xa.d, .slice xa.L xa.n xa.e] 28)).alloc (.cells #[.int .i64 xb.kind, .int .u64 (xb.v.a : Int), .int .u64 (xb.v.b : Int), .int .u64 (xb.v.c : Int), .slice xb.A xb.v.pre.length xb.c, .slice xb.B xb.v.build.length xb.d, .slice xb.L xb.n xb.e] 28)).alloc (.cells #[.int .u64 (v.a : Int), .int .u64 (v.b : Int), .int .u64 (v.c : Int), .slice A v.pre.length c, .slice B v.build.length d] 25))) := (((Below.refl _ _).alloc (Nat.le_refl _) _).alloc (by simp) _).alloc (by simp; omega) _
  have HA0 : Hid (RAt (((w.alloc (.cells #[.int .i64 xa.kind, .int .u64 (xa.v.a : Int), .int .u64 (xa.v.b : Int), .int .u64 (xa.v.c : Int), .slice xa.A xa.v.pre.length xa.c, .slice xa.B xa.v.build.length xa.d, .slice xa.L xa.n xa.e] 28)).alloc (.cells #[.int .i64 xb.kind, .int .u64 (xb.v.a : Int), .int .u64 (xb.v.b : Int), .int .u64 (xb.v.c : Int), .slice xb.A xb.v.pre.length xb.c, .slice xb.B xb.v.build.length xb.d, .slice xb.L xb.n xb.e] 28)).alloc (.cells #[.int .u64 (v.a : Int), .int .u64 (v.b : Int), .int .u64 (v.c : Int), .slice A v.pre.length c, .slice B v.build.length d] 25)) w.heap.size xa) := (RAt.new w 28 xa).kept (((Below.refl _ _).alloc (Nat.le_refl _) _).alloc (by simp) _) (by simp)
  have HX0 : Hid (RAt (((w.alloc (.cells #[.int .i64 xa.kind, .int .u64 (xa.v.a : Int), .int .u64 (xa.v.b : Int), .int .u64 (xa.v.c : Int), .slice xa.A xa.v.pre.length xa.c, .slice xa.B xa.v.build.length xa.d, .slice xa.L xa.n xa.e] 28)).alloc (.cells #[.int .i64 xb.kind, .int .u64 (xb.v.a : Int), .int .u64 (xb.v.b : Int), .int .u64 (xb.v.c : Int), .slice xb.A xb.v.pre.length xb.c, .slice xb.B xb.v.build.length xb.d, .slice xb.L xb.n xb.e] 28)).alloc (.cells #[.int .u64 (v.a : Int), .int .u64 (v.b : Int), .int .u64 (v.c : Int), .slice A v.pre.length c, .slice B v.build.length d] 25)) (w.heap.size + 1) xb) := by
    have h := (RAt.new (w.alloc (.cells #[.int .i64 xa.kind, .int .u64 (xa.v.a : Int), .int .u64 (xa.v.b : Int), .int .u64 (xa.v.c : Int), .slice xa.A xa.v.pre.length xa.c, .slice xa.B xa.v.build.length xa.d, .slice xa.L xa.n xa.e] 28)) 28 xb).kept ((Below.refl _ _).alloc (Nat.le_refl _) (.cells #[.int .u64 (v.a : Int), .int .u64 (v.b : Int), .int .u64 (v.c : Int), .slice A v.pre.length c, .slice B v.build.length d] 25)) (by simp)
    rw [size_alloc] at h; exact h
  have HV0 : Hid (At5 (((w.alloc (.cells #[.int .i64 xa.kind, .int .u64 (xa.v.a : Int), .int .u64 (xa.v.b : Int), .int .u64 (xa.v.c : Int), .slice xa.A xa.v.pre.length xa.c, .slice xa.B xa.v.build.length xa.d, .slice xa.L xa.n xa.e] 28)).alloc (.cells #[.int .i64 xb.kind, .int .u64 (xb.v.a : Int), .int .u64 (xb.v.b : Int), .int .u64 (xb.v.c : Int), .slice xb.A xb.v.pre.length xb.c, .slice xb.B xb.v.build.length xb.d, .slice xb.L xb.n xb.e] 28)).alloc (.cells #[.int .u64 (v.a : Int), .int .u64 (v.b : Int), .int .u64 (v.c : Int), .slice A v.pre.length c, .slice B v.build.length d] 25)) (w.heap.size + 2) (.int .u64 (v.a : Int)) (.int .u64 (v.b : Int)) (.int .u64 (v.c : Int)) (.slice A v.pre.length c) (.slice B v.build.length d)) := by
    have h := At5.new ((w.alloc (.cells #[.int .i64 xa.kind, .int .u64 (xa.v.a : Int), .int .u64 (xa.v.b : Int), .int .u64 (xa.v.c : Int), .slice xa.A xa.v.pre.length xa.c, .slice xa.B xa.v.build.length xa.d, .slice xa.L xa.n xa.e] 28)).alloc (.cells #[.int .i64 xb.kind, .int .u64 (xb.v.a : Int), .int .u64 (xb.v.b : Int), .int .u64 (xb.v.c : Int), .slice xb.A xb.v.pre.length xb.c, .slice xb.B xb.v.build.length xb.d, .slice xb.L xb.n xb.e] 28)) 25 (.int .u64 (v.a : Int)) (.int .u64 (v.b : Int)) (.int .u64 (v.c : Int)) (.slice A v.pre.length c) (.slice B v.build.length d)
    rw [size_alloc, size_alloc] at h; exact h
  have hwf := hf
  unfold maxLen at hwf
  obtain ⟨hp1, hp2, _, _⟩ := hwf
  unfold RV.agg
  go_enter Tryz.func7, Tryz.ntmps7
  go_upto_region 1 with (fail)
  generalize (((w.alloc (.cells #[.int .i64 xa.kind, .int .u64 (xa.v.a : Int), .int .u64 (xa.v.b : Int), .int .u64 (xa.v.c : Int), .slice xa.A xa.v.pre.length xa.c, .slice xa.B xa.v.build.length xa.d, .slice xa.L xa.n xa.e] 28)).alloc (.cells #[.int .i64 xb.kind, .int .u64 (xb.v.a : Int), .int .u64 (xb.v.b : Int), .int .u64 (xb.v.c : Int), .slice xb.A xb.v.pre.length xb.c, .slice xb.B xb.v.build.length xb.d, .slice xb.L xb.n xb.e] 28)).alloc (.cells #[.int .u64 (v.a : Int), .int .u64 (v.b : Int), .int .u64 (v.c : Int), .slice A v.pre.length c, .slice B v.build.length d] 25)) = W0 at HB0 HA0 HX0 HV0 ⊢
  obtain ⟨y1, y2, c0, c1, c2, c3, c4, c5, c6⟩ := HA0.out
  obtain ⟨z1, z2, d0, d1, d2, d3, d4, d5, d6⟩ := HX0.out
  obtain ⟨v1, v2, g0, g1, g2, g3, g4⟩ := HV0.out
  go_wp2_with fail
  refine (awake_any _ (htab.kept HB0.out) (ht.keep (Keep.of_below HB0.out))).mono ?_
  rintro e W1 ⟨rfl, hb⟩
  have HB1 := Lib.hid (HB0.out.trans (hb.mono HB0.out.size))
  have HA1 := Lib.hid (HA0.out.kept hb HA0.out.1)
  have HX1 := Lib.hid (HX0.out.kept hb HX0.out.1)
  have HV1 := Lib.hid (HV0.out.kept hb HV0.out.1)
  have := True.intro
  clear hb y1 y2 c0 c1 c2 c3 c4 c5 c6 z1 z2 d0 d1 d2 d3 d4 d5 d6 v1 v2 g0 g1 g2 g3 g4 HB0 HA0 HX0 HV0
  obtain ⟨y1, y2, c0, c1, c2, c3, c4, c5, c6⟩ := HA1.out
  obtain ⟨z1, z2, d0, d1, d2, d3, d4, d5, d6⟩ := HX1.out
  obtain ⟨v1, v2, g0, g1, g2, g3, g4⟩ := HV1.out
  go_wp2_with fail
  refine (great_full (wt ra) ra xa w.heap.size 15 W1 (Nat.le_refl _) la (ha.keep (KeepS.of_below (S := LtB w.heap.size) HB1.out)) HB1.out.size).mono ?_
  rintro e W2 ⟨zi, rfl, hz, hb⟩
  have HB2 := Lib.hid (HB1.out.trans (hb.mono HB1.out.size))
  have HA2 := Lib.hid (HA1.out.kept hb HA1.out.1)
  have HX2 := Lib.hid (HX1.out.kept hb HX1.out.1)
  have HV2 := Lib.hid (HV1.out.kept hb HV1.out.1)
  have HZ := Lib.hid hz
  clear hz
  clear hb y1 y2 c0 c1 c2 c3 c4 c5 c6 z1 z2 d0 d1 d2 d3 d4 d5 d6 v1 v2 g0 g1 g2 g3 g4 HB1 HA1 HX1 HV1
  obtain ⟨y1, y2, c0, c1, c2, c3, c4, c5, c6⟩ := HA2.out
  obtain ⟨z1, z2, d0, d1, d2, d3, d4, d5, d6⟩ := HX2.out
  obtain ⟨v1, v2, g0, g1, g2, g3, g4⟩ := HV2.out
  by_cases hz : 15 < zi
  · go_wp2
    go_ret
    exact ⟨rfl, HB2.out⟩
  have HZa := Lib.hid (HZ.out.small (by decide) hz)
  clear HZ
  go_wp2_with fail
  refine (great_full (wt rb) rb xb w.heap.size 15 W2 (Nat.le_refl _) lb (hb0.keep (KeepS.of_below (S := LtB w.heap.size) HB2.out)) HB2.out.size).mono ?_
  rintro e W3 ⟨zj, rfl, hz, hb⟩
  have HB3 := Lib.hid (HB2.out.trans (hb.mono HB2.out.size))
  have HA3 := Lib.hid (HA2.out.kept hb HA2.out.1)
  have HX3 := Lib.hid (HX2.out.kept hb HX2.out.1)
  have HV3 := Lib.hid (HV2.out.kept hb HV2.out.1)
  have HZ := Lib.hid hz
  clear hz
  clear hb y1 y2 c0 c1 c2 c3 c4 c5 c6 z1 z2 d0 d1 d2 d3 d4 d5 d6 v1 v2 g0 g1 g2 g3 g4 HB2 HA2 HX2 HV2
  obtain ⟨y1, y2, c0, c1, c2, c3, c4, c5, c6⟩ := HA3.out
  obtain ⟨z1, z2, d0, d1, d2, d3, d4, d5, d6⟩ := HX3.out
  obtain ⟨v1, v2, g0, g1, g2, g3, g4⟩ := HV3.out
  by_cases hz2 : 15 < zj
  · go_wp2
    go_ret
    exact ⟨rfl, HB3.out⟩
  have HZb := Lib.hid (HZ.out.small (by decide) hz2)
  clear HZ
  by_cases hl1 : (20 : Int) < (v.pre.length : Int)
  · go_wp2
    go_ret
    exact ⟨rfl, HB3.out⟩
  by_cases hl2 : (20 : Int) < (v.build.length : Int)
  · go_wp2
    go_ret
    exact ⟨rfl, HB3.out⟩
  go_wp2_with fail
  refine (Range.goodIs_any ra xa w.heap.size W3 la (ha.keep (KeepS.of_below (S := LtB w.heap.size) HB3.out)) HB3.out.size).mono ?_
  rintro e W4 ⟨rfl, hb⟩
  have HB4 := Lib.hid (HB3.out.trans (hb.mono HB3.out.size))
  have HA4 := Lib.hid (HA3.out.kept hb HA3.out.1)
  have HX4 := Lib.hid (HX3.out.kept hb HX3.out.1)
  have HV4 := Lib.hid (HV3.out.kept hb HV3.out.1)
  have := True.intro
  clear hb y1 y2 c0 c1 c2 c3 c4 c5 c6 z1 z2 d0 d1 d2 d3 d4 d5 d6 v1 v2 g0 g1 g2 g3 g4 HB3 HA3 HX3 HV3
  obtain ⟨y1, y2, c0, c1, c2, c3, c4, c5, c6⟩ := HA4.out
  obtain ⟨z1, z2, d0, d1, d2, d3, d4, d5, d6⟩ := HX4.out
  obtain ⟨v1, v2, g0, g1, g2, g3, g4⟩ := HV4.out
  cases hga : goodR ra 0
  · go_wp2
    go_ret
    exact ⟨rfl, HB4.out⟩
  go_wp2_with fail
  refine (Range.goodIs_any rb xb w.heap.size W4 lb (hb0.keep (KeepS.of_below (S := LtB w.heap.size) HB4.out)) HB4.out.size).mono ?_
  rintro e W5 ⟨rfl, hb⟩
  have HB5 := Lib.hid (HB4.out.trans (hb.mono HB4.out.size))
  have HA5 := Lib.hid (HA4.out.kept hb HA4.out.1)
  have HX5 := Lib.hid (HX4.out.kept hb HX4.out.1)
  have HV5 := Lib.hid (HV4.out.kept hb HV4.out.1)
  have := True.intro
  clear hb y1 y2 c0 c1 c2 c3 c4 c5 c6 z1 z2 d0 d1 d2 d3 d4 d5 d6 v1 v2 g0 g1 g2 g3 g4 HB4 HA4 HX4 HV4
  obtain ⟨y1, y2, c0, c1, c2, c3, c4, c5, c6⟩ := HA5.out
  obtain ⟨z1, z2, d0, d1, d2, d3, d4, d5, d6⟩ := HX5.out
  obtain ⟨v1, v2, g0, g1, g2, g3, g4⟩ := HV5.out
  cases hgb : goodR rb 0
  · go_wp2
    go_ret
    exact ⟨rfl, HB5.out⟩
  go_wp2_with fail
  refine (refGood_all v A c B d W5 (hr1.kept HB5.out) (hr2.kept HB5.out) hf.1 hf.2.1 hf.2.2.1 hf.2.2.2).mono ?_
  rintro e W6 ⟨rfl, hb⟩
  have HB6 := Lib.hid (HB5.out.trans (hb.mono HB5.out.size))
  have HA6 := Lib.hid (HA5.out.kept hb HA5.out.1)
  have HX6 := Lib.hid (HX5.out.kept hb HX5.out.1)
  have HV6 := Lib.hid (HV5.out.kept hb HV5.out.1)
  have := True.intro
  clear hb y1 y2 c0 c1 c2 c3 c4 c5 c6 z1 z2 d0 d1 d2 d3 d4 d5 d6 v1 v2 g0 g1 g2 g3 g4 HB5 HA5 HX5 HV5
  obtain ⟨y1, y2, c0, c1, c2, c3, c4, c5, c6⟩ := HA6.out
  obtain ⟨z1, z2, d0, d1, d2, d3, d4, d5, d6⟩ := HX6.out
  obtain ⟨v1, v2, g0, g1, g2, g3, g4⟩ := HV6.out
  cases hgv : goodV v
  · go_wp2
    go_ret
    exact ⟨rfl, HB6.out⟩
  go_upto_region 5 with (fail)
  have hta : tot ra ≤ 15 := by have := HZa.out ⟨0, hga⟩; omega
  have htb : tot rb ≤ 15 := by have := HZb.out ⟨0, hgb⟩; omega
  have hwa : wt ra ≤ 15 := Nat.le_trans (wt_tot ra) hta
  have hwb : wt rb ≤ 15 := Nat.le_trans (wt_tot rb) htb
  have HFa := Lib.hid (hasR_good hga hgv)
  have HFb := Lib.hid (hasR_good hgb hgv)
  have HFn := Lib.hid (has_not hga hwa hgv)
  have HFo := Lib.hid (has_all hga hwa hgb hwb hgv)
  have HFr := Lib.hid (has_one hga hwa hgb hwb hgv)
  have HLn := Lib.hid (lenOk_one 11 la)
  have HLo := Lib.hid (lenOk_two 9 la lb)
  have HLr := Lib.hid (lenOk_two 10 la lb)
  have HWn : Hid (wt (.mk 11 noVer [ra]) ≤ 1500) := by unfold Hid; rw [Range.wt_eq]; show 1 + (wt ra + 0) ≤ 1500; omega
  have HWo : Hid (wt (.mk 9 noVer [ra, rb]) ≤ 1500) := by unfold Hid; rw [Range.wt_eq]; show 1 + (wt ra + (wt rb + 0)) ≤ 1500; omega
  have HWr : Hid (wt (.mk 10 noVer [ra, rb]) ≤ 1500) := by unfold Hid; rw [Range.wt_eq]; show 1 + (wt ra + (wt rb + 0)) ≤ 1500; omega
  generalize hX : inV ra v = X at HFa HFn HFo HFr
  generalize hY : inV rb v = Y at HFb HFo HFr
  clear hX hY HZa HZb hta htb hga hgb hgv hz hz2 hl1 hl2
  clear y1 y2 c0 c1 c2 c3 c4 c5 c6 z1 z2 d0 d1 d2 d3 d4 d5 d6 v1 v2 g0 g1 g2 g3 g4
  replace HB6 : Hid (Below w.heap.size w W6.drew) := HB6.out.drew
  replace HA6 : Hid (RAt W6.drew w.heap.size xa) := HA6.out
  replace HX6 : Hid (RAt W6.drew (w.heap.size + 1) xb) := HX6.out
  replace HV6 : Hid (At5 W6.drew (w.heap.size + 2) (.int .u64 (v.a : Int)) (.int .u64 (v.b : Int)) (.int .u64 (v.c : Int)) (.slice A v.pre.length c) (.slice B v.build.length d)) := HV6.out
  refine wp_region_held_drew (S := fun w' => RAt w' w.heap.size xa ∧ RAt w' (w.heap.size + 1) xb ∧ At5 w' (w.heap.size + 2) (.int .u64 (v.a : Int)) (.int .u64 (v.b : Int)) (.int .u64 (v.c : Int)) (.slice A v.pre.length c) (.slice B v.build.length d)) (by kernel_rfl) ⟨HA6.out, HX6.out, HV6.out⟩ (fun hHeld => ?_)
  generalize W6.drew = W7 at HB6 HA6 HX6 HV6 hHeld ⊢
  refine wpAnyH_take (i := 0) (oi := { dst := some 49, op := Op.load 28 (Operand.tmp 3), type := 28, pos := _, after := _, guard := none }) (v := .agg #[.int .i64 xa.kind, .int .u64 (xa.v.a : Int), .int .u64 (xa.v.b : Int), .int .u64 (xa.v.c : Int), .slice xa.A xa.v.pre.length xa.c, .slice xa.B xa.v.build.length xa.d, .slice xa.L xa.n xa.e]) rfl (by kernel_rfl) (by kernel_rfl) (by kernel_rfl) (fun _ _ _ h => h) (Or.inl ⟨by rfl, fun w' hS' => by obtain ⟨y1, y2, c0, c1, c2, c3, c4, c5, c6⟩ := hS'.1; go_simp⟩) (by assumption) ?_
  simp only [Act.put, List.setIfInBounds_toArray, List.set_cons_zero, List.set_cons_succ]
  refine wpAnyH_take (i := 1) (oi := { dst := some 50, op := Op.load 25 (Operand.tmp 5), type := 25, pos := _, after := _, guard := none }) (v := .agg #[.int .u64 (v.a : Int), .int .u64 (v.b : Int), .int .u64 (v.c : Int), .slice A v.pre.length c, .slice B v.build.length d]) rfl (by kernel_rfl) (by kernel_rfl) (by kernel_rfl) (fun _ _ _ h => h) (Or.inl ⟨by rfl, fun w' hS' => by obtain ⟨_, _, g0, g1, g2, g3, g4⟩ := hS'.2.2; go_simp⟩) (by assumption) ?_
  simp only [Act.put, List.setIfInBounds_toArray, List.set_cons_zero, List.set_cons_succ]
  refine wpAnyH_take (i := 3) (oi := { dst := some 52, op := Op.load 28 (Operand.tmp 4), type := 28, pos := _, after := _, guard := none }) (v := .agg #[.int .i64 xb.kind, .int .u64 (xb.v.a : Int), .int .u64 (xb.v.b : Int), .int .u64 (xb.v.c : Int), .slice xb.A xb.v.pre.length xb.c, .slice xb.B xb.v.build.length xb.d, .slice xb.L xb.n xb.e]) rfl (by kernel_rfl) (by kernel_rfl) (by kernel_rfl) (fun _ _ _ h => h) (Or.inl ⟨by rfl, fun w' hS' => by obtain ⟨y1, y2, c0, c1, c2, c3, c4, c5, c6⟩ := hS'.2.1; go_simp⟩) (by assumption) ?_
  simp only [Act.put, List.setIfInBounds_toArray, List.set_cons_zero, List.set_cons_succ]
  refine wpAnyH_take (i := 4) (oi := { dst := some 53, op := Op.load 25 (Operand.tmp 5), type := 25, pos := _, after := _, guard := none }) (v := .agg #[.int .u64 (v.a : Int), .int .u64 (v.b : Int), .int .u64 (v.c : Int), .slice A v.pre.length c, .slice B v.build.length d]) rfl (by kernel_rfl) (by kernel_rfl) (by kernel_rfl) (fun _ _ _ h => h) (Or.inl ⟨by rfl, fun w' hS' => by obtain ⟨_, _, g0, g1, g2, g3, g4⟩ := hS'.2.2; go_simp⟩) (by assumption) ?_
  simp only [Act.put, List.setIfInBounds_toArray, List.set_cons_zero, List.set_cons_succ]
  refine wpAnyH_ready (rs := [2]) (by kernel_rfl) (by simp) ?_
  refine AllReadyH.cons (o := { dst := some 51, op := Op.call { callee := Callee.value (Operand.func 18), args := #[Operand.tmp 49, Operand.tmp 50], argTypes := #[28, 25] }, type := 4, pos := _, after := _, guard := none }) rfl (fun K hK => ?_) AllReadyH.nil
  go_simp
  refine (has_norm ra xa w.heap.size v A c B d _ (ha.keep (KeepS.of_below (S := LtB w.heap.size) HB6.out)) HB6.out.size la (fun _ => by omega) (hr1.kept HB6.out) (hr2.kept HB6.out) hf).mono ?_
  rintro e wm1 ⟨rfl, hb⟩
  have HB7 := Lib.hid (HB6.out.trans (hb.mono HB6.out.size))
  have HA7 := Lib.hid (HA6.out.kept hb HA6.out.1)
  have HX7 := Lib.hid (HX6.out.kept hb HX6.out.1)
  have HV7 := Lib.hid (HV6.out.kept hb HV6.out.1)
  clear HB6 HA6 HX6 HV6
  rw [HFa.out]
  clear hb hHeld
  refine hK.out _ _ ⟨HA7.out, HX7.out, HV7.out⟩ (fun hHeld => ?_)
  clear hK K
  try simp only [Act.put, List.setIfInBounds_toArray, List.set_cons_zero, List.set_cons_succ]
  refine wpAnyH_ready (rs := [5]) (by kernel_rfl) (by simp) ?_
  refine AllReadyH.cons (o := { dst := some 54, op := Op.call { callee := Callee.value (Operand.func 18), args := #[Operand.tmp 52, Operand.tmp 53], argTypes := #[28, 25] }, type := 4, pos := _, after := _, guard := none }) rfl (fun K hK => ?_) AllReadyH.nil
  go_simp
  refine (has_norm rb xb w.heap.size v A c B d _ (hb0.keep (KeepS.of_below (S := LtB w.heap.size) HB7.out)) HB7.out.size lb (fun _ => by omega) (hr1.kept HB7.out) (hr2.kept HB7.out) hf).mono ?_
  rintro e wm2 ⟨rfl, hb⟩
  have HB8 := Lib.hid (HB7.out.trans (hb.mono HB7.out.size))
  have HA8 := Lib.hid (HA7.out.kept hb HA7.out.1)
  have HX8 := Lib.hid (HX7.out.kept hb HX7.out.1)
  have HV8 := Lib.hid (HV7.out.kept hb HV7.out.1)
  clear HB7 HA7 HX7 HV7
  rw [HFb.out]
  clear hb hHeld
  refine hK.out _ _ ⟨HA8.out, HX8.out, HV8.out⟩ (fun hHeld => ?_)
  clear hK K
  try simp only [Act.put, List.setIfInBounds_toArray, List.set_cons_zero, List.set_cons_succ]
  refine wpAnyH_take (i := 6) (oi := { dst := some 7, op := Op.assign (Operand.tmp 51), type := 4, pos := _, after := _, guard := none }) (v := .bool X) rfl (by kernel_rfl) (by kernel_rfl) (by kernel_rfl) (fun _ _ _ h => h) (Or.inl ⟨by rfl, fun w' hS' => by go_simp⟩) (by assumption) ?_
  simp only [Act.put, List.setIfInBounds_toArray, List.set_cons_zero, List.set_cons_succ]
  refine wpAnyH_take (i := 7) (oi := { dst := some 8, op := Op.assign (Operand.tmp 54), type := 4, pos := _, after := _, guard := none }) (v := .bool Y) rfl (by kernel_rfl) (by kernel_rfl) (by kernel_rfl) (fun _ _ _ h => h) (Or.inl ⟨by rfl, fun w' hS' => by go_simp⟩) (by assumption) ?_
  simp only [Act.put, List.setIfInBounds_toArray, List.set_cons_zero, List.set_cons_succ]
  refine wpAnyH_done (by kernel_rfl) ?_ _
  obtain ⟨y1, y2, c0, c1, c2, c3, c4, c5, c6⟩ := HA8.out
  obtain ⟨z1, z2, d0, d1, d2, d3, d4, d5, d6⟩ := HX8.out
  obtain ⟨v1, v2, g0, g1, g2, g3, g4⟩ := HV8.out
  generalize wm2 = W8 at HB8 HA8 HX8 HV8 y1 y2 c0 c1 c2 c3 c4 c5 c6 z1 z2 d0 d1 d2 d3 d4 d5 d6 v1 v2 g0 g1 g2 g3 g4 ⊢
  go_wp2_with fail
  have HBx : Hid (Below w.heap.size w (W8.alloc (.cells #[.int .i64 xa.kind, .int .u64 (xa.v.a : Int), .int .u64 (xa.v.b : Int), .int .u64 (xa.v.c : Int), .slice xa.A xa.v.pre.length xa.c, .slice xa.B xa.v.build.length xa.d, .slice xa.L xa.n xa.e] 28))) := HB8.out.alloc HB8.out.size _
  have hgw : W8.heap.size < (W8.alloc (.cells #[.int .i64 xa.kind, .int .u64 (xa.v.a : Int), .int .u64 (xa.v.b : Int), .int .u64 (xa.v.c : Int), .slice xa.A xa.v.pre.length xa.c, .slice xa.B xa.v.build.length xa.d, .slice xa.L xa.n xa.e] 28)).heap.size := by simp
  have HLx : Hid (Range.Lies (W8.alloc (.cells #[.int .i64 xa.kind, .int .u64 (xa.v.a : Int), .int .u64 (xa.v.b : Int), .int .u64 (xa.v.c : Int), .slice xa.A xa.v.pre.length xa.c, .slice xa.B xa.v.build.length xa.d, .slice xa.L xa.n xa.e] 28)) (LtB (W8.alloc (.cells #[.int .i64 xa.kind, .int .u64 (xa.v.a : Int), .int .u64 (xa.v.b : Int), .int .u64 (xa.v.c : Int), .slice xa.A xa.v.pre.length xa.c, .slice xa.B xa.v.build.length xa.d, .slice xa.L xa.n xa.e] 28)).heap.size) (.mk 11 noVer [ra]) ⟨11, noVer, none, 0, none, 0, some ⟨W8.heap.size, 0, none⟩, 1, 1⟩) := lies_one W8 11 (ha.keep (KeepS.of_below (S := LtB w.heap.size) HB8.out)) HB8.out.size
  refine (has_norm (.mk 11 noVer [ra]) ⟨11, noVer, none, 0, none, 0, some ⟨W8.heap.size, 0, none⟩, 1, 1⟩ (W8.alloc (.cells #[.int .i64 xa.kind, .int .u64 (xa.v.a : Int), .int .u64 (xa.v.b : Int), .int .u64 (xa.v.c : Int), .slice xa.A xa.v.pre.length xa.c, .slice xa.B xa.v.build.length xa.d, .slice xa.L xa.n xa.e] 28)).heap.size v A c B d _ HLx.out (Nat.le_refl _) HLn.out (fun _ => HWn.out) (hr1.kept HBx.out) (hr2.kept HBx.out) hf).mono ?_
  rintro e W9 ⟨rfl, hb⟩
  rw [HFn.out]
  have HB9 := Lib.hid (HBx.out.trans (hb.mono HBx.out.size))
  have hbx : Below W8.heap.size W8 W9 := ((Below.refl _ _).alloc (Nat.le_refl _) _).trans (hb.mono (Nat.le_of_lt hgw))
  have HA9 := Lib.hid (HA8.out.kept hbx HA8.out.1)
  have HX9 := Lib.hid (HX8.out.kept hbx HX8.out.1)
  have HV9 := Lib.hid (HV8.out.kept hbx HV8.out.1)
  clear hb hbx hgw HBx HLx y1 y2 c0 c1 c2 c3 c4 c5 c6 z1 z2 d0 d1 d2 d3 d4 d5 d6 v1 v2 g0 g1 g2 g3 g4 HB8 HA8 HX8 HV8
  obtain ⟨y1, y2, c0, c1, c2, c3, c4, c5, c6⟩ := HA9.out
  obtain ⟨z1, z2, d0, d1, d2, d3, d4, d5, d6⟩ := HX9.out
  obtain ⟨v1, v2, g0, g1, g2, g3, g4⟩ := HV9.out
  go_wp2_with fail
  have HBx : Hid (Below w.heap.size w (W9.alloc (.cells #[.int .i64 xa.kind, .int .u64 (xa.v.a : Int), .int .u64 (xa.v.b : Int), .int .u64 (xa.v.c : Int), .slice xa.A xa.v.pre.length xa.c, .slice xa.B xa.v.build.length xa.d, .slice xa.L xa.n xa.e, .int .i64 xb.kind, .int .u64 (xb.v.a : Int), .int .u64 (xb.v.b : Int), .int .u64 (xb.v.c : Int), .slice xb.A xb.v.pre.length xb.c, .slice xb.B xb.v.build.length xb.d, .slice xb.L xb.n xb.e] 28))) := HB9.out.alloc HB9.out.size _
  have hgw : W9.heap.size < (W9.alloc (.cells #[.int .i64 xa.kind, .int .u64 (xa.v.a : Int), .int .u64 (xa.v.b : Int), .int .u64 (xa.v.c : Int), .slice xa.A xa.v.pre.length xa.c, .slice xa.B xa.v.build.length xa.d, .slice xa.L xa.n xa.e, .int .i64 xb.kind, .int .u64 (xb.v.a : Int), .int .u64 (xb.v.b : Int), .int .u64 (xb.v.c : Int), .slice xb.A xb.v.pre.length xb.c, .slice xb.B xb.v.build.length xb.d, .slice xb.L xb.n xb.e] 28)).heap.size := by simp
  have HLx : Hid (Range.Lies (W9.alloc (.cells #[.int .i64 xa.kind, .int .u64 (xa.v.a : Int), .int .u64 (xa.v.b : Int), .int .u64 (xa.v.c : Int), .slice xa.A xa.v.pre.length xa.c, .slice xa.B xa.v.build.length xa.d, .slice xa.L xa.n xa.e, .int .i64 xb.kind, .int .u64 (xb.v.a : Int), .int .u64 (xb.v.b : Int), .int .u64 (xb.v.c : Int), .slice xb.A xb.v.pre.length xb.c, .slice xb.B xb.v.build.length xb.d, .slice xb.L xb.n xb.e] 28)) (LtB (W9.alloc (.cells #[.int .i64 xa.kind, .int .u64 (xa.v.a : Int), .int .u64 (xa.v.b : Int), .int .u64 (xa.v.c : Int), .slice xa.A xa.v.pre.length xa.c, .slice xa.B xa.v.build.length xa.d, .slice xa.L xa.n xa.e, .int .i64 xb.kind, .int .u64 (xb.v.a : Int), .int .u64 (xb.v.b : Int), .int .u64 (xb.v.c : Int), .slice xb.A xb.v.pre.length xb.c, .slice xb.B xb.v.build.length xb.d, .slice xb.L xb.n xb.e] 28)).heap.size) (.mk 9 noVer [ra, rb]) ⟨9, noVer, none, 0, none, 0, some ⟨W9.heap.size, 0, none⟩, 2, 2⟩) := lies_two W9 9 (ha.keep (KeepS.of_below (S := LtB w.heap.size) HB9.out)) (hb0.keep (KeepS.of_below (S := LtB w.heap.size) HB9.out)) HB9.out.size
  refine (has_norm (.mk 9 noVer [ra, rb]) ⟨9, noVer, none, 0, none, 0, some ⟨W9.heap.size, 0, none⟩, 2, 2⟩ (W9.alloc (.cells #[.int .i64 xa.kind, .int .u64 (xa.v.a : Int), .int .u64 (xa.v.b : Int), .int .u64 (xa.v.c : Int), .slice xa.A xa.v.pre.length xa.c, .slice xa.B xa.v.build.length xa.d, .slice xa.L xa.n xa.e, .int .i64 xb.kind, .int .u64 (xb.v.a : Int), .int .u64 (xb.v.b : Int), .int .u64 (xb.v.c : Int), .slice xb.A xb.v.pre.length xb.c, .slice xb.B xb.v.build.length xb.d, .slice xb.L xb.n xb.e] 28)).heap.size v A c B d _ HLx.out (Nat.le_refl _) HLo.out (fun _ => HWo.out) (hr1.kept HBx.out) (hr2.kept HBx.out) hf).mono ?_
  rintro e W10 ⟨rfl, hb⟩
  rw [HFo.out]
  have HB10 := Lib.hid (HBx.out.trans (hb.mono HBx.out.size))
  have hbx : Below W9.heap.size W9 W10 := ((Below.refl _ _).alloc (Nat.le_refl _) _).trans (hb.mono (Nat.le_of_lt hgw))
  have HA10 := Lib.hid (HA9.out.kept hbx HA9.out.1)
  have HX10 := Lib.hid (HX9.out.kept hbx HX9.out.1)
  have HV10 := Lib.hid (HV9.out.kept hbx HV9.out.1)
  clear hb hbx hgw HBx HLx y1 y2 c0 c1 c2 c3 c4 c5 c6 z1 z2 d0 d1 d2 d3 d4 d5 d6 v1 v2 g0 g1 g2 g3 g4 HB9 HA9 HX9 HV9
  obtain ⟨y1, y2, c0, c1, c2, c3, c4, c5, c6⟩ := HA10.out
  obtain ⟨z1, z2, d0, d1, d2, d3, d4, d5, d6⟩ := HX10.out
  obtain ⟨v1, v2, g0, g1, g2, g3, g4⟩ := HV10.out
  go_wp2_with fail
  have HBx : Hid (Below w.heap.size w (W10.alloc (.cells #[.int .i64 xa.kind, .int .u64 (xa.v.a : Int), .int .u64 (xa.v.b : Int), .int .u64 (xa.v.c : Int), .slice xa.A xa.v.pre.length xa.c, .slice xa.B xa.v.build.length xa.d, .slice xa.L xa.n xa.e, .int .i64 xb.kind, .int .u64 (xb.v.a : Int), .int .u64 (xb.v.b : Int), .int .u64 (xb.v.c : Int), .slice xb.A xb.v.pre.length xb.c, .slice xb.B xb.v.build.length xb.d, .slice xb.L xb.n xb.e] 28))) := HB10.out.alloc HB10.out.size _
  have hgw : W10.heap.size < (W10.alloc (.cells #[.int .i64 xa.kind, .int .u64 (xa.v.a : Int), .int .u64 (xa.v.b : Int), .int .u64 (xa.v.c : Int), .slice xa.A xa.v.pre.length xa.c, .slice xa.B xa.v.build.length xa.d, .slice xa.L xa.n xa.e, .int .i64 xb.kind, .int .u64 (xb.v.a : Int), .int .u64 (xb.v.b : Int), .int .u64 (xb.v.c : Int), .slice xb.A xb.v.pre.length xb.c, .slice xb.B xb.v.build.length xb.d, .slice xb.L xb.n xb.e] 28)).heap.size := by simp
  have HLx : Hid (Range.Lies (W10.alloc (.cells #[.int .i64 xa.kind, .int .u64 (xa.v.a : Int), .int .u64 (xa.v.b : Int), .int .u64 (xa.v.c : Int), .slice xa.A xa.v.pre.length xa.c, .slice xa.B xa.v.build.length xa.d, .slice xa.L xa.n xa.e, .int .i64 xb.kind, .int .u64 (xb.v.a : Int), .int .u64 (xb.v.b : Int), .int .u64 (xb.v.c : Int), .slice xb.A xb.v.pre.length xb.c, .slice xb.B xb.v.build.length xb.d, .slice xb.L xb.n xb.e] 28)) (LtB (W10.alloc (.cells #[.int .i64 xa.kind, .int .u64 (xa.v.a : Int), .int .u64 (xa.v.b : Int), .int .u64 (xa.v.c : Int), .slice xa.A xa.v.pre.length xa.c, .slice xa.B xa.v.build.length xa.d, .slice xa.L xa.n xa.e, .int .i64 xb.kind, .int .u64 (xb.v.a : Int), .int .u64 (xb.v.b : Int), .int .u64 (xb.v.c : Int), .slice xb.A xb.v.pre.length xb.c, .slice xb.B xb.v.build.length xb.d, .slice xb.L xb.n xb.e] 28)).heap.size) (.mk 10 noVer [ra, rb]) ⟨10, noVer, none, 0, none, 0, some ⟨W10.heap.size, 0, none⟩, 2, 2⟩) := lies_two W10 10 (ha.keep (KeepS.of_below (S := LtB w.heap.size) HB10.out)) (hb0.keep (KeepS.of_below (S := LtB w.heap.size) HB10.out)) HB10.out.size
  refine (has_norm (.mk 10 noVer [ra, rb]) ⟨10, noVer, none, 0, none, 0, some ⟨W10.heap.size, 0, none⟩, 2, 2⟩ (W10.alloc (.cells #[.int .i64 xa.kind, .int .u64 (xa.v.a : Int), .int .u64 (xa.v.b : Int), .int .u64 (xa.v.c : Int), .slice xa.A xa.v.pre.length xa.c, .slice xa.B xa.v.build.length xa.d, .slice xa.L xa.n xa.e, .int .i64 xb.kind, .int .u64 (xb.v.a : Int), .int .u64 (xb.v.b : Int), .int .u64 (xb.v.c : Int), .slice xb.A xb.v.pre.length xb.c, .slice xb.B xb.v.build.length xb.d, .slice xb.L xb.n xb.e] 28)).heap.size v A c B d _ HLx.out (Nat.le_refl _) HLr.out (fun _ => HWr.out) (hr1.kept HBx.out) (hr2.kept HBx.out) hf).mono ?_
  rintro e W11 ⟨rfl, hb⟩
  rw [HFr.out]
  have HB11 := Lib.hid (HBx.out.trans (hb.mono HBx.out.size))
  have hbx : Below W10.heap.size W10 W11 := ((Below.refl _ _).alloc (Nat.le_refl _) _).trans (hb.mono (Nat.le_of_lt hgw))
  have HA11 := Lib.hid (HA10.out.kept hbx HA10.out.1)
  have HX11 := Lib.hid (HX10.out.kept hbx HX10.out.1)
  have HV11 := Lib.hid (HV10.out.kept hbx HV10.out.1)
  clear hb hbx hgw HBx HLx y1 y2 c0 c1 c2 c3 c4 c5 c6 z1 z2 d0 d1 d2 d3 d4 d5 d6 v1 v2 g0 g1 g2 g3 g4 HB10 HA10 HX10 HV10
  obtain ⟨y1, y2, c0, c1, c2, c3, c4, c5, c6⟩ := HA11.out
  obtain ⟨z1, z2, d0, d1, d2, d3, d4, d5, d6⟩ := HX11.out
  obtain ⟨v1, v2, g0, g1, g2, g3, g4⟩ := HV11.out
  cases X <;> cases Y <;> (go_wp2; go_ret; exact ⟨rfl, HB11.out⟩)
end Go.Proofs.YtgfbflnhjpbceaaGreatDoor.Nrm

namespace Go.Proofs.YtgfbflnhjpbceaaGreatDoor.Came
open Go.ChangeShapes Go.WideShapes Go.RowKit


theorem texts_at {H : Type} {enc : TypeId × Value → H} {W : World} {fuel : Nat} {cs : List Value} {y : DataW H × List MemPlace}
    (hf : DataW.trod enc Tryz.prog W 0 (fun _ => true) true fuel 23 cs = some y) :
    ∃ (a : Option Addr) (len cap : Nat) (xs : List (List UInt8)), cs = [.slice a len cap] ∧ Ident.SRow W a len xs ∧ len ≤ cap ∧ cap ≤ maxLen ∧ (a = none → cap = 0) ∧ ∀ x ∈ xs, x.length ≤ maxLen := by
  rcases open_strings Tryz.underlying23 Tryz.underlying9 (by kernel_rfl) hf with ⟨hcs, _⟩ | ⟨x, len, cap, ss, hcs, _, hl, hm, hz, _, hcell, hsz⟩
  · exact ⟨none, 0, 0, [], hcs, Ident.SRow.none_ _ _, Nat.le_refl _, by unfold maxLen; omega, fun _ => rfl, fun x hx => by cases hx⟩
  · have hz : ss.length = cap := by simpa using hz
    refine ⟨some x, len, cap, (ss.take len).map fun s => s.data.toList, hcs, ⟨by simp; omega, fun h0 => ?_⟩, hl, hm, (fun e => by cases e), fun y hy => ?_⟩
    · obtain ⟨b, o, spot⟩ := x
      have h0c := hcell 0 (by omega)
      have hspot : spot = none := by simpa [Addr.add] using World.cell?_spot h0c
      subst hspot
      refine ⟨b, o, rfl, ?_, fun j hj => ?_⟩
      · have := World.block_lt_of_cell? W _ h0c
        rwa [Num.add_none] at this
      · have hj2 : j < ss.length := by omega
        have e := hcell j hj2
        rw [Num.add_none] at e
        rw [e]
        simp [hj, List.getElem?_eq_getElem hj2, Ident.mk]
    · simp only [List.mem_map] at hy
      obtain ⟨s, hs, rfl⟩ := hy
      rw [← Lib.size_eq]
      exact hsz s (List.mem_of_mem_take hs)
end Go.Proofs.YtgfbflnhjpbceaaGreatDoor.Came

namespace Go.Proofs.YtgfbflnhjpbceaaGreatDoor.Range
open Go.Lib Num Ident
variable {H : Type}
theorem cells_of_strs {enc : TypeId × Value → H} {P : Program} {w : World} {base : Nat} {sp : Nat → Bool} {held : Bool} {fuel : Nat} {t e : TypeId} {n : Nat} {cs : List Value} {bs : List (List UInt8)} {p : List MemPlace}
    (ht : P.underlying t = some (.array n e)) (he : P.underlying e = some .string) (hce : P.cellsOf e = 1) (hct : P.cellsOf t = n)
    (h : DataW.trod enc P w base sp held fuel t cs = some (.agg (bs.map fun b => .lit (.string b)), p)) : cs = bs.map fun b => Value.string (mk b) := by
  cases fuel with
  | zero => simp [DataW.trod] at h
  | succ fuel =>
    simp only [DataW.trod, ht, hce, hct, Nat.mul_one] at h
    split at h
    · rename_i hl
      obtain ⟨xs, hm, hx⟩ := Option.map_eq_some_iff.1 h
      have hxs : xs.map (·.1) = bs.map fun b => (DataW.lit (.string b) : DataW H) := by
        have := congrArg Prod.fst hx
        simpa using this
      have hxl : xs.length = n := by simpa using mapM_length hm
      have hzl : bs.length = n := by
        have := congrArg List.length hxs
        simp at this
        omega
      apply List.ext_getElem?
      intro i
      by_cases hi : i < n
      · obtain ⟨b, hb, hf⟩ := mapM_at hm i i (by simp [hi])
        obtain ⟨s, hc, rfl, _⟩ := DataW.trod_string he hf
        have h1 : cs[i]? = some (.string s) := by
          have := congrArg (·[0]?) hc
          simpa [List.getElem?_take, List.getElem?_drop] using this
        have h2 : (xs.map (·.1))[i]? = some (DataW.lit (.string s.data.toList) : DataW H) := by simp [hb]
        rw [hxs] at h2
        simp only [List.getElem?_map, Option.map_eq_some_iff, DataW.lit.injEq, Lit.string.injEq] at h2
        obtain ⟨z', hz', e2⟩ := h2
        simp only [List.getElem?_map, hz', Option.map_some, h1, e2]
        rfl
      · rw [List.getElem?_eq_none (by omega), List.getElem?_eq_none (by simp; omega)]
    · cases h

theorem opsTab_of_head {W : World} {rest : List (String × DataW Unit)} {g : Nat} {t e : TypeId}
    (hg : Tryz.prog.globalNamed "ferrule/rangeexpr.ops" = some g) (hgn : g = 0) (hty : (Tryz.prog.globals[g]?).map (·.type) = some t) (ht : Tryz.prog.underlying t = some (.array 8 e)) (he : Tryz.prog.underlying e = some .string) (hce : Tryz.prog.cellsOf e = 1) (hct : Tryz.prog.cellsOf t = 8)
    (h : laidMet Tryz.prog (("ferrule/rangeexpr.ops", .agg (ops.map fun b => .lit (.string b))) :: rest) W) : OpsTab W := by
  obtain ⟨ps, ⟨g', t', cs, fuel, p, q, hg', ht', hvar, hd, _, _⟩, _⟩ := h
  obtain rfl := Option.some.inj (hg.symm.trans hg')
  obtain rfl := Option.some.inj (hty.symm.trans ht')
  have hc := cells_of_strs ht he hce hct hd
  intro i hi
  have := World.var?_cell hg hvar i
  subst hgn
  rw [this, ← Array.getElem?_toList, hc, List.getElem?_map]
  rw [List.getElem?_eq_getElem (show i < ops.length from hi)]
  simp [List.getD, List.getElem?_eq_getElem (show i < ops.length from hi)]
end Go.Proofs.YtgfbflnhjpbceaaGreatDoor.Range

namespace Go.Proofs.YtgfbflnhjpbceaaGreatDoor.Came
open Go.ChangeShapes Go.WideShapes Go.RowKit Go.Deep


theorem field_read {H : Type} {enc : TypeId × Value → H} {W : World} {n : Nat} {z : Value} {y : DataW H × List MemPlace} (h : DataW.trod enc Tryz.prog W 0 (fun _ => true) true n 22 [z] = some y) : ∃ a : Nat, z = .int .u64 (a : Int) ∧ a < 18446744073709551616 := by
  obtain ⟨m, hm, _, hw⟩ := DataW.trod_int Tryz.underlying22 h
  have hb : 0 ≤ m ∧ m ≤ 18446744073709551615 := by simpa [Lit.wf, IntKind.min, IntKind.max, IntKind.signed, IntKind.bits] using hw
  obtain ⟨a, rfl⟩ := Int.eq_ofNat_of_zero_le hb.1
  simp at hm
  exact ⟨a, hm, by omega⟩

end Go.Proofs.YtgfbflnhjpbceaaGreatDoor.Came

namespace Go.Proofs.YtgfbflnhjpbceaaGreatDoor.Came
open Go.ChangeShapes Go.WideShapes Go.RowKit Go.Deep

set_option maxRecDepth 100000 in
theorem ver_at {H : Type} {enc : TypeId × Value → H} {W : World} {fuel : Nat} {l : List Value} {y : DataW H × List MemPlace} (hf : DataW.trod enc Tryz.prog W 0 (fun _ => true) true fuel 25 l = some y) :
    ∃ (v : Semver.Ver) (A : Option Addr) (c : Nat) (B : Option Addr) (d : Nat), l = [.int .u64 (v.a : Int), .int .u64 (v.b : Int), .int .u64 (v.c : Int), .slice A v.pre.length c, .slice B v.build.length d] ∧ Ident.SRow W A v.pre.length v.pre ∧ Ident.SRow W B v.build.length v.build ∧ Prec.Fit v.pre ∧ Prec.Fit v.build ∧ (A = none → c = 0) := by
  have hC : Tryz.prog.cellsOf 25 = 5 := by kernel_rfl
  have cu : Tryz.prog.cellsOf 22 = 1 := by kernel_rfl
  have ct : Tryz.prog.cellsOf 23 = 1 := by kernel_rfl
  obtain ⟨xs, n, _, _, hsz, hlen, hg⟩ := DataW.trod_struct Tryz.underlying25 hf
  have hl : xs.length = 5 := hlen
  rw [hC] at hsz
  match l, hsz with
  | [z0, z1, z2, z3, z4], _ =>
    match xs, hl with
    | [y0, y1, y2, y3, y4], _ =>
      have f0 : DataW.trod enc Tryz.prog W 0 (fun _ => true) true n 22 (([z0, z1, z2, z3, z4].drop 0).take (Tryz.prog.cellsOf 22)) = some y0 := hg 0 _ rfl
      rw [cu] at f0
      have g0 : DataW.trod enc Tryz.prog W 0 (fun _ => true) true n 22 [z0] = some y0 := f0
      have f1 : DataW.trod enc Tryz.prog W 0 (fun _ => true) true n 22 (([z0, z1, z2, z3, z4].drop 1).take (Tryz.prog.cellsOf 22)) = some y1 := hg 1 _ rfl
      rw [cu] at f1
      have g1 : DataW.trod enc Tryz.prog W 0 (fun _ => true) true n 22 [z1] = some y1 := f1
      have f2 : DataW.trod enc Tryz.prog W 0 (fun _ => true) true n 22 (([z0, z1, z2, z3, z4].drop 2).take (Tryz.prog.cellsOf 22)) = some y2 := hg 2 _ rfl
      rw [cu] at f2
      have g2 : DataW.trod enc Tryz.prog W 0 (fun _ => true) true n 22 [z2] = some y2 := f2
      have f3 : DataW.trod enc Tryz.prog W 0 (fun _ => true) true n 23 (([z0, z1, z2, z3, z4].drop 3).take (Tryz.prog.cellsOf 23)) = some y3 := hg 3 _ rfl
      rw [ct] at f3
      have g3 : DataW.trod enc Tryz.prog W 0 (fun _ => true) true n 23 [z3] = some y3 := f3
      have f4 : DataW.trod enc Tryz.prog W 0 (fun _ => true) true n 23 (([z0, z1, z2, z3, z4].drop 4).take (Tryz.prog.cellsOf 23)) = some y4 := hg 4 _ rfl
      rw [ct] at f4
      have g4 : DataW.trod enc Tryz.prog W 0 (fun _ => true) true n 23 [z4] = some y4 := f4
      clear f0 f1 f2 f3 f4 hg
      obtain ⟨a, rfl, _⟩ := field_read g0
      obtain ⟨b, rfl, _⟩ := field_read g1
      obtain ⟨c, rfl, _⟩ := field_read g2
      obtain ⟨A, m1, c1, p, e1, r1, q1, k1, u1, s1⟩ := texts_at g3
      obtain ⟨B, m2, c2, t, e2, r2, q2, k2, _, s2⟩ := texts_at g4
      simp at e1 e2
      subst e1
      subst e2
      obtain rfl := r1.1
      obtain rfl := r2.1
      exact ⟨⟨a, b, c, p, t⟩, A, c1, B, c2, rfl, r1, r2, ⟨Nat.le_trans q1 k1, s1⟩, ⟨Nat.le_trans q2 k2, s2⟩, u1⟩
set_option maxRecDepth 100000 in
theorem versionF {H : Type} {enc : TypeId × Value → H} {W : World} {r : Reach} {b0 : Nat} {x : Value} {d : DataW H} {ps : List MemPlace} (hv : Value.okWide Tryz.prog W r b0 25 x)
    (h : DataW.Trod enc Tryz.prog W 0 (fun _ => true) true 25 x d ps) :
    ∃ (v : Semver.Ver) (A : Option Addr) (c : Nat) (B : Option Addr) (d : Nat), x = .agg #[.int .u64 (v.a : Int), .int .u64 (v.b : Int), .int .u64 (v.c : Int), .slice A v.pre.length c, .slice B v.build.length d] ∧ Ident.SRow W A v.pre.length v.pre ∧ Ident.SRow W B v.build.length v.build ∧ Prec.Fit v.pre ∧ Prec.Fit v.build ∧ (A = none → c = 0) := by
  obtain ⟨cs, rfl, _⟩ := okWide_struct Tryz.underlying25 hv
  obtain ⟨fuel, hf⟩ := h
  obtain ⟨l⟩ := cs
  obtain ⟨v, A, c, B, d, e, h1⟩ := ver_at (l := l) hf
  exact ⟨v, A, c, B, d, by rw [e], h1⟩
theorem kind_read {H : Type} {enc : TypeId × Value → H} {W : World} {n : Nat} {z : Value} {y : DataW H × List MemPlace} (h : DataW.trod enc Tryz.prog W 0 (fun _ => true) true n 3 [z] = some y) : ∃ k : Int, z = .int .i64 k := by
  obtain ⟨m, hm, _, _⟩ := DataW.trod_int Tryz.underlying3 h
  simp at hm
  exact ⟨m, hm⟩
theorem list_of {α : Type} [Inhabited α] {P : Nat → α → Prop} : ∀ (n : Nat), (∀ i, i < n → ∃ x, P i x) → ∃ l : List α, l.length = n ∧ ∀ i, i < n → P i (l.getD i default)
  | 0, _ => ⟨[], rfl, fun i hi => by omega⟩
  | n + 1, h => by
    obtain ⟨l, hl, hp⟩ := list_of n fun i hi => h i (by omega)
    obtain ⟨x, hx⟩ := h n (by omega)
    refine ⟨l ++ [x], by simp [hl], fun i hi => ?_⟩
    rcases Nat.lt_or_ge i n with h1 | h1
    · have e : (l ++ [x]).getD i default = l.getD i default := by simp [List.getD, List.getElem?_append_left (show i < l.length by omega)]
      rw [e]; exact hp i h1
    · obtain rfl : i = n := by omega
      have e : (l ++ [x]).getD i default = x := by simp [List.getD, ← hl]
      rw [e]; exact hx
end Go.Proofs.YtgfbflnhjpbceaaGreatDoor.Came

namespace Go.Proofs.YtgfbflnhjpbceaaGreatDoor.Came
open Go.ChangeShapes Go.WideShapes Go.RowKit Go.Deep
open Range (Rng noRng RV LenOk LtB InS)
set_option maxRecDepth 100000 in
theorem ver_full {H : Type} {enc : TypeId × Value → H} {W : World} {fuel : Nat} {l : List Value} {y : DataW H × List MemPlace} (hf : DataW.trod enc Tryz.prog W 0 (fun _ => true) true fuel 25 l = some y) :
    ∃ (v : Semver.Ver) (A : Option Addr) (c : Nat) (B : Option Addr) (d : Nat), l = [.int .u64 (v.a : Int), .int .u64 (v.b : Int), .int .u64 (v.c : Int), .slice A v.pre.length c, .slice B v.build.length d] ∧ Ident.SRow W A v.pre.length v.pre ∧ Ident.SRow W B v.build.length v.build ∧ Range.FitV v ∧ v.pre.length ≤ c ∧ v.build.length ≤ d := by
  have hC : Tryz.prog.cellsOf 25 = 5 := by kernel_rfl
  have cu : Tryz.prog.cellsOf 22 = 1 := by kernel_rfl
  have ct : Tryz.prog.cellsOf 23 = 1 := by kernel_rfl
  obtain ⟨xs, n, _, _, hsz, hlen, hg⟩ := DataW.trod_struct Tryz.underlying25 hf
  have hl : xs.length = 5 := hlen
  rw [hC] at hsz
  match l, hsz with
  | [z0, z1, z2, z3, z4], _ =>
    match xs, hl with
    | [y0, y1, y2, y3, y4], _ =>
      have f0 : DataW.trod enc Tryz.prog W 0 (fun _ => true) true n 22 (([z0, z1, z2, z3, z4].drop 0).take (Tryz.prog.cellsOf 22)) = some y0 := hg 0 _ rfl
      rw [cu] at f0
      have g0 : DataW.trod enc Tryz.prog W 0 (fun _ => true) true n 22 [z0] = some y0 := f0
      have f1 : DataW.trod enc Tryz.prog W 0 (fun _ => true) true n 22 (([z0, z1, z2, z3, z4].drop 1).take (Tryz.prog.cellsOf 22)) = some y1 := hg 1 _ rfl
      rw [cu] at f1
      have g1 : DataW.trod enc Tryz.prog W 0 (fun _ => true) true n 22 [z1] = some y1 := f1
      have f2 : DataW.trod enc Tryz.prog W 0 (fun _ => true) true n 22 (([z0, z1, z2, z3, z4].drop 2).take (Tryz.prog.cellsOf 22)) = some y2 := hg 2 _ rfl
      rw [cu] at f2
      have g2 : DataW.trod enc Tryz.prog W 0 (fun _ => true) true n 22 [z2] = some y2 := f2
      have f3 : DataW.trod enc Tryz.prog W 0 (fun _ => true) true n 23 (([z0, z1, z2, z3, z4].drop 3).take (Tryz.prog.cellsOf 23)) = some y3 := hg 3 _ rfl
      rw [ct] at f3
      have g3 : DataW.trod enc Tryz.prog W 0 (fun _ => true) true n 23 [z3] = some y3 := f3
      have f4 : DataW.trod enc Tryz.prog W 0 (fun _ => true) true n 23 (([z0, z1, z2, z3, z4].drop 4).take (Tryz.prog.cellsOf 23)) = some y4 := hg 4 _ rfl
      rw [ct] at f4
      have g4 : DataW.trod enc Tryz.prog W 0 (fun _ => true) true n 23 [z4] = some y4 := f4
      clear f0 f1 f2 f3 f4 hg
      obtain ⟨a, rfl, wa⟩ := field_read g0
      obtain ⟨b, rfl, wb⟩ := field_read g1
      obtain ⟨c, rfl, wc⟩ := field_read g2
      obtain ⟨A, m1, c1, p, e1, r1, q1, k1, u1, s1⟩ := texts_at g3
      obtain ⟨B, m2, c2, t, e2, r2, q2, k2, _, s2⟩ := texts_at g4
      simp at e1 e2
      subst e1
      subst e2
      obtain rfl := r1.1
      obtain rfl := r2.1
      exact ⟨⟨a, b, c, p, t⟩, A, c1, B, c2, rfl, r1, r2, ⟨wa, wb, wc, Nat.le_trans q1 k1, Nat.le_trans q2 k2, s1, s2⟩, q1, q2⟩
theorem ins_of {W : World} {A : Option Addr} {n : Nat} {l : List (List UInt8)} (h : Ident.SRow W A n l) : InS (LtB W.heap.size) A n := by
  intro h0
  obtain ⟨b, o, e, hb, _⟩ := h.2 h0
  exact ⟨b, o, e, hb⟩
set_option maxRecDepth 100000 in
theorem rng_at {H : Type} {enc : TypeId × Value → H} {W : World} : ∀ (N fuel : Nat) (l : List Value) (y : DataW H × List MemPlace), fuel ≤ N → DataW.trod enc Tryz.prog W 0 (fun _ => true) true fuel 28 l = some y →
    ∃ (r : Rng) (x : RV), l = x.vals ∧ Range.Lies W (LtB W.heap.size) r x ∧ LenOk r
  | 0, fuel, l, y, hN, hf => by
    obtain ⟨xs, n, e, _⟩ := DataW.trod_struct Tryz.underlying28 hf
    omega
  | N + 1, fuel, l, y, hN, hf => by
    have hC : Tryz.prog.cellsOf 28 = 7 := by kernel_rfl
    have ci : Tryz.prog.cellsOf 3 = 1 := by kernel_rfl
    have cv : Tryz.prog.cellsOf 25 = 5 := by kernel_rfl
    have cl : Tryz.prog.cellsOf 26 = 1 := by kernel_rfl
    obtain ⟨xs, n, hfn, _, hsz, hlen, hg⟩ := DataW.trod_struct Tryz.underlying28 hf
    have hl : xs.length = 3 := hlen
    rw [hC] at hsz
    match l, hsz with
    | [z0, z1, z2, z3, z4, z5, z6], _ =>
      match xs, hl with
      | [y0, y1, y2], _ =>
        have f0 : DataW.trod enc Tryz.prog W 0 (fun _ => true) true n 3 (([z0, z1, z2, z3, z4, z5, z6].drop 0).take (Tryz.prog.cellsOf 3)) = some y0 := hg 0 _ rfl
        rw [ci] at f0
        have g0 : DataW.trod enc Tryz.prog W 0 (fun _ => true) true n 3 [z0] = some y0 := f0
        have f1 : DataW.trod enc Tryz.prog W 0 (fun _ => true) true n 25 (([z0, z1, z2, z3, z4, z5, z6].drop 1).take (Tryz.prog.cellsOf 25)) = some y1 := hg 1 _ rfl
        rw [cv] at f1
        have g1 : DataW.trod enc Tryz.prog W 0 (fun _ => true) true n 25 [z1, z2, z3, z4, z5] = some y1 := f1
        have f2 : DataW.trod enc Tryz.prog W 0 (fun _ => true) true n 26 (([z0, z1, z2, z3, z4, z5, z6].drop 6).take (Tryz.prog.cellsOf 26)) = some y2 := hg 2 _ rfl
        rw [cl] at f2
        have g2 : DataW.trod enc Tryz.prog W 0 (fun _ => true) true n 26 [z6] = some y2 := f2
        clear f0 f1 f2 hg
        obtain ⟨k, rfl⟩ := kind_read g0
        obtain ⟨v, A, c, B, d, e, h1, h2, h3, h4, h5⟩ := ver_full g1
        simp only [List.cons.injEq, and_true] at e
        obtain ⟨rfl, rfl, rfl, rfl, rfl⟩ := e
        rcases DataW.trod_slice Tryz.underlying26 g2 with ⟨hz, _⟩ | ⟨a, len, cap, elems, rest, n2, hn2, hz, _, _, hlc, hcm, hel, hi, _, _⟩
        · simp only [List.cons.injEq, and_true] at hz
          subst hz
          exact ⟨.mk k v [], ⟨k, v, A, c, B, d, none, 0, 0⟩, rfl, Range.Lies.version k v A c B d h1 h2 (ins_of h1) (ins_of h2) h4 h5 h3, .mk k v [] (by simp) (fun y hy => by cases hy)⟩
        · simp only [List.cons.injEq, and_true] at hz
          subst hz
          rw [hC] at hi
          obtain ⟨ps, hpl, hp⟩ := list_of (α := Rng × RV) (P := fun i (p : Rng × RV) => (Range.Lies W (LtB W.heap.size) p.1 p.2 ∧ LenOk p.1) ∧ ∀ j u, p.2.vals[j]? = some u → W.cell? ((a.add (i * 7)).add j) = some u) len fun i hi' => by
            have h0 := hi i hi'
            rw [List.getElem?_eq_getElem (show i < elems.length by omega), Option.bind_eq_some_iff] at h0
            obtain ⟨cs, hc, ht⟩ := h0
            obtain ⟨_, hcl, hat⟩ := World.cells?_some hc
            obtain ⟨r, x, e, hr, ho⟩ := rng_at N n2 cs _ (by omega) ht
            refine ⟨(r, x), ⟨hr, ho⟩, fun j u hu => ?_⟩
            have hj : j < 7 := (List.getElem?_eq_some_iff.1 hu).1
            rw [hat j hj, e]; exact hu
          have hgd : ∀ j, j < len → (ps.map Prod.fst).getD j noRng = (ps.getD j default).1 := fun j hj => by
            rw [List.getD_eq_getElem?_getD, List.getD_eq_getElem?_getD, List.getElem?_map, List.getElem?_eq_getElem (show j < ps.length by omega)]; rfl
          refine ⟨.mk k v (ps.map Prod.fst), ⟨k, v, A, c, B, d, some a, len, cap⟩, rfl, Range.Lies.mk ⟨k, v, A, c, B, d, some a, len, cap⟩ (ps.map Prod.fst) (fun j => (ps.getD j default).2) (by simp [hpl]) hlc h1 h2 (ins_of h1) (ins_of h2) h4 h5 h3 (fun e => by cases e) (fun h0 => ?_) (fun j hj => ?_), .mk k v _ (by rw [List.length_map, hpl]; unfold maxLen at hcm; omega) (fun q hq => ?_)⟩
          · have h0 : 0 < len := h0
            obtain ⟨b, o, spot⟩ := a
            have h0c := (hp 0 h0).2 0 _ rfl
            have hspot : spot = none := by simpa [Addr.add] using World.cell?_spot h0c
            subst hspot
            refine ⟨b, o, rfl, ?_, fun j hj i u hu => ?_⟩
            · have := World.block_lt_of_cell? W _ h0c
              rwa [Num.add_none, Num.add_none] at this
            · have e := (hp j hj).2 i u hu
              rwa [Num.add_none, Num.add_none] at e
          · rw [hgd j hj]; exact (hp j hj).1.1
          · obtain ⟨p, hp1, rfl⟩ := List.mem_map.1 hq
            obtain ⟨j, hj, rfl⟩ := List.getElem_of_mem hp1
            have := (hp j (by omega)).1.2
            simpa [List.getD, List.getElem?_eq_getElem hj] using this
set_option maxRecDepth 100000 in
theorem range {H : Type} {enc : TypeId × Value → H} {W : World} {r : Reach} {b0 : Nat} {x : Value} {d : DataW H} {ps : List MemPlace} (hv : Value.okWide Tryz.prog W r b0 28 x)
    (h : DataW.Trod enc Tryz.prog W 0 (fun _ => true) true 28 x d ps) :
    ∃ (r : Rng) (y : RV), x = .agg #[.int .i64 y.kind, .int .u64 (y.v.a : Int), .int .u64 (y.v.b : Int), .int .u64 (y.v.c : Int), .slice y.A y.v.pre.length y.c, .slice y.B y.v.build.length y.d, .slice y.L y.n y.e] ∧ Range.Lies W (LtB W.heap.size) r y ∧ LenOk r := by
  obtain ⟨cs, rfl, _⟩ := okWide_struct Tryz.underlying28 hv
  obtain ⟨fuel, hf⟩ := h
  obtain ⟨l⟩ := cs
  obtain ⟨r, y, e, h1, h2⟩ := rng_at fuel fuel l _ (Nat.le_refl _) hf
  exact ⟨r, y, by rw [e]; rfl, h1, h2⟩
end Go.Proofs.YtgfbflnhjpbceaaGreatDoor.Came
