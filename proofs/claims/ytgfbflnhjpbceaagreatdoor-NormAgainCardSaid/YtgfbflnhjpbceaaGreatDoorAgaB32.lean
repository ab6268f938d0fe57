/-
  What the theorem of the last text needs of these: NmPlainW, RgText. Conditions: as each theorem states.
-/
import Derived.Test.YtgfbflnhjpbceaaGreatDoorAgaB1
import Derived.Test.YtgfbflnhjpbceaaGreatDoorAgaB9
import Derived.Test.YtgfbflnhjpbceaaGreatDoorAgaB11
import Derived.Test.YtgfbflnhjpbceaaGreatDoorAgaB31
import Derived.StillTailTactics
import Derived.Deep.CutBlock
import Derived.Deep.DeepCutAuto
import Derived.Deep.RegionHeld3
set_option maxRecDepth 100000
set_option maxHeartbeats 25600000
namespace Go.Proofs.YtgfbflnhjpbceaaGreatDoor.Nrm
open Go.RowKit Num Ident Semver Prec Span
open Range (Rng noRng goodR goodL fits RV RAt RgRow LtB Elems wt wtL wtL_len wt_mem KeepS zeroRV)
theorem plain_any (A : Option Addr) (n c : Nat) (l : List RSp) (w : World) (hr : SpRow w A n l) (hn : n ≤ 74) :
  Calls Tryz.prog 20 #[.slice A n c] w fun e w' => ∃ (x : RV) (o : List Sp), e = .returned x.agg ∧ NormalOf (l.map RSp.sp) o ∧ Range.Lies w' (fun g => w.heap.size + 1 ≤ g) (plainR o) x ∧ o.length ≤ n ∧ Below w.heap.size w w' := by
 have HB : Hid (Below w.heap.size w (w.alloc (.cells #[.int .i64 0, .int .u64 0, .int .u64 0, .int .u64 0, .slice none 0 0, .slice none 0 0, .slice none 0 0] 28))) := (Below.refl _ _).alloc (Nat.le_refl _) _
 have HR : Hid (RAt (w.alloc (.cells #[.int .i64 0, .int .u64 0, .int .u64 0, .int .u64 0, .slice none 0 0, .slice none 0 0, .slice none 0 0] 28)) w.heap.size (zeroRV 0)) := RAt.new w _ (zeroRV 0)
 have HRow := Lib.hid (hr.kept HB.out)
 have hsz : (w.alloc (.cells #[.int .i64 0, .int .u64 0, .int .u64 0, .int .u64 0, .slice none 0 0, .slice none 0 0, .slice none 0 0] 28)).heap.size = w.heap.size + 1 := size_alloc _ _
 clear hr
 go_enter Tryz.func20, Tryz.ntmps20
 go_upto_region 1 with (fail)
 generalize (w.alloc (.cells #[.int .i64 0, .int .u64 0, .int .u64 0, .int .u64 0, .slice none 0 0, .slice none 0 0, .slice none 0 0] 28)) = W at HB HR HRow hsz ⊢
 go_wp2_with fail
 refine (normal_in A n c l W HRow.out (by omega)).mono ?_
 rintro e W2 ⟨A2, m2, cc2, o2, rfl, q1, q2, q3, q4, hm2, q6, hb⟩
 have HB2 := Lib.hid (HB.out.trans (hb.mono HB.out.size))
 have HR2 := Lib.hid (HR.out.kept hb HR.out.1)
 have HS := Lib.hid q1
 have HN := Lib.hid q3
 have HO : Hid (∀ s ∈ o2, OwnsS W2 (w.heap.size + 1) s) := fun s hs => hsz ▸ q4 s hs
 clear q1 q3 q4 q6 hb HB HR HRow
 by_cases h0 : m2 = 0
 ·obtain rfl : o2 = [] := List.eq_nil_of_length_eq_zero (HS.out.1.trans h0)
  have q0 : ((m2 : Int) == 0) = true := by simp [h0]
  clear h0
  have hzz : (Range.setR W2 w.heap.size (⟨11, noVer, none, 0, none, 0, some ⟨W2.heap.size, 0, none⟩, 1, 1⟩ : RV)).heap.size = W2.heap.size := by unfold Range.setR; simp
  have HK9 : Hid (RAt ((Range.setR W2 w.heap.size (⟨11, noVer, none, 0, none, 0, some ⟨W2.heap.size, 0, none⟩, 1, 1⟩ : RV)).alloc (.cells #[.int .i64 0, .int .u64 0, .int .u64 0, .int .u64 0, .slice none 0 0, .slice none 0 0, .slice none 0 0] 28)) w.heap.size (⟨11, noVer, none, 0, none, 0, some ⟨W2.heap.size, 0, none⟩, 1, 1⟩ : RV)) := (Range.setR_at HR2.out).kept ((Below.refl _ _).alloc (Nat.le_refl _) _) (Range.setR_at (x := (⟨11, noVer, none, 0, none, 0, some ⟨W2.heap.size, 0, none⟩, 1, 1⟩ : RV)) HR2.out).1
  have HB9 : Hid (Below w.heap.size w ((Range.setR W2 w.heap.size (⟨11, noVer, none, 0, none, 0, some ⟨W2.heap.size, 0, none⟩, 1, 1⟩ : RV)).alloc (.cells #[.int .i64 0, .int .u64 0, .int .u64 0, .int .u64 0, .slice none 0 0, .slice none 0 0, .slice none 0 0] 28))) := (HB2.out.trans (Range.setR_below w.heap.size (Nat.le_refl _) (⟨11, noVer, none, 0, none, 0, some ⟨W2.heap.size, 0, none⟩, 1, 1⟩ : RV))).alloc (by rw [hzz]; exact HB2.out.size) _
  have HS9 : Hid (Range.Lies ((Range.setR W2 w.heap.size (⟨11, noVer, none, 0, none, 0, some ⟨W2.heap.size, 0, none⟩, 1, 1⟩ : RV)).alloc (.cells #[.int .i64 0, .int .u64 0, .int .u64 0, .int .u64 0, .slice none 0 0, .slice none 0 0, .slice none 0 0] 28)) (fun g => w.heap.size + 1 ≤ g) (plainR []) (⟨11, noVer, none, 0, none, 0, some ⟨W2.heap.size, 0, none⟩, 1, 1⟩ : RV)) := by
   have hz2 := HR2.out.1
   have h1 : RgRow ((Range.setR W2 w.heap.size (⟨11, noVer, none, 0, none, 0, some ⟨W2.heap.size, 0, none⟩, 1, 1⟩ : RV)).alloc (.cells #[.int .i64 0, .int .u64 0, .int .u64 0, .int .u64 0, .slice none 0 0, .slice none 0 0, .slice none 0 0] 28)) (fun g => w.heap.size + 1 ≤ g) (some ⟨W2.heap.size, 0, none⟩) 1 [noRng] := ⟨fun _ => zeroRV 0, rfl, fun _ => ⟨W2.heap.size, 0, rfl, hz2, fun j hj i u hu => by
    obtain rfl : j = 0 := by omega
    have := news_new (Range.setR W2 w.heap.size (⟨11, noVer, none, 0, none, 0, some ⟨W2.heap.size, 0, none⟩, 1, 1⟩ : RV)) (zeroRV 0).vals 28 i u hu
    rw [add_none, hzz] at this
    exact this⟩, fun j hj => by
    obtain rfl : j = 0 := by omega
    exact Range.Lies.zero _ _ 0⟩
   exact Range.Lies.many 11 h1 (Nat.le_refl _) (fun e => by cases e)
  have hne9 : ¬ w.heap.size = W2.heap.size := Nat.ne_of_lt HR2.out.1
  obtain ⟨_, hfz, r0, r1, r2, r3, r4, r5, r6⟩ := HR2.out
  clear HR2 HB2
  go_wp2
  change bodyPost _ _ _ _ _ ((Range.setR W2 w.heap.size (⟨11, noVer, none, 0, none, 0, some ⟨W2.heap.size, 0, none⟩, 1, 1⟩ : RV)).alloc (.cells #[.int .i64 0, .int .u64 0, .int .u64 0, .int .u64 0, .slice none 0 0, .slice none 0 0, .slice none 0 0] 28))
  generalize ((Range.setR W2 w.heap.size (⟨11, noVer, none, 0, none, 0, some ⟨W2.heap.size, 0, none⟩, 1, 1⟩ : RV)).alloc (.cells #[.int .i64 0, .int .u64 0, .int .u64 0, .int .u64 0, .slice none 0 0, .slice none 0 0, .slice none 0 0] 28)) = W9 at HK9 HB9 HS9 ⊢
  obtain ⟨_, _, z0, z1, z2, z3, z4, z5, z6⟩ := HK9.out
  exact bodyPost_ret (v := .agg #[.int .i64 11, .int .u64 0, .int .u64 0, .int .u64 0, .slice none 0 0, .slice none 0 0, .slice (some ⟨W2.heap.size, 0, none⟩) 1 1]) (by simp [results, Tryz.results20, go_sem, z0, z1, z2, z3, z4, z5, z6, noVer]) rfl ⟨(⟨11, noVer, none, 0, none, 0, some ⟨W2.heap.size, 0, none⟩, 1, 1⟩ : RV), [], rfl, HN.out, HS9.out, Nat.zero_le _, HB9.out⟩
 ·have q0 : ((m2 : Int) == 0) = false := beq_eq_false_iff_ne.2 (by omega)
  have HPl : Hid (plainR (o2.map RSp.sp) = few 10 (piecesR (o2.map RSp.sp))) := by
   unfold Hid plainR
   rw [if_neg (by rw [List.length_map, HS.out.1]; exact h0)]
  clear h0
  go_wp2_with fail
  refine (pieces_any A2 m2 cc2 o2 (w.heap.size + 1) W2 HS.out (by omega) hm2 HO.out HR2.out.1 HN.out.1).mono ?_
  rintro e W3 ⟨L, k, e3, rfl, hk1, hk2, hk3, hrow, hb⟩
  have HRow := Lib.hid hrow
  have HNil := Lib.hid hk3
  have HB3 := Lib.hid (HB2.out.trans (hb.mono HB2.out.size))
  have HR3 := Lib.hid (HR2.out.kept hb HR2.out.1)
  clear hrow hk3 hb HR2 HB2
  go_wp2_with fail
  refine (joined_any 10 L k e3 (piecesR (o2.map RSp.sp)) (fun g => w.heap.size + 1 ≤ g) W3 HRow.out hk1 HNil.out (by omega)).mono ?_
  rintro e W4 ⟨x, he4, hx, hb⟩
  unfold RV.agg at he4
  subst he4
  have HB4 := Lib.hid (HB3.out.trans (hb.mono HB3.out.size))
  have HR4 := Lib.hid (HR3.out.kept hb HR3.out.1)
  have HK9 := Lib.hid (Range.setR_at (x := x) HR4.out)
  have HB9 : Hid (Below w.heap.size w (Range.setR W4 w.heap.size x)) := HB4.out.trans (Range.setR_below w.heap.size (Nat.le_refl _) x)
  have HS9 : Hid (Range.Lies (Range.setR W4 w.heap.size x) (fun g => w.heap.size + 1 ≤ g) (plainR (o2.map RSp.sp)) x) := by
   unfold Hid
   rw [HPl.out]
   exact hx.keep (Range.setR_keep (by omega) x)
  have hol : (o2.map RSp.sp).length ≤ n := by rw [List.length_map, HS.out.1]; omega
  obtain ⟨_, hfz, r0, r1, r2, r3, r4, r5, r6⟩ := HR4.out
  clear hx hb HR3 HB3 HR4 HB4 HRow HNil
  go_wp2
  change bodyPost _ _ _ _ _ (Range.setR W4 w.heap.size x)
  generalize Range.setR W4 w.heap.size x = W9 at HK9 HB9 HS9 ⊢
  obtain ⟨_, _, z0, z1, z2, z3, z4, z5, z6⟩ := HK9.out
  exact bodyPost_ret (v := .agg #[.int .i64 x.kind, .int .u64 (x.v.a : Int), .int .u64 (x.v.b : Int), .int .u64 (x.v.c : Int), .slice x.A x.v.pre.length x.c, .slice x.B x.v.build.length x.d, .slice x.L x.n x.e]) (by simp [results, Tryz.results20, go_sem, z0, z1, z2, z3, z4, z5, z6]) rfl ⟨x, o2.map RSp.sp, rfl, HN.out, HS9.out, hol, HB9.out⟩
def Simpled (r s : Rng) : Prop := (goodR r 0 = true ∧ ∃ o, SetOf r o ∧ o.length + 1 ≤ 3 * wt r ∧ s = plainR o) ∨ (goodR r 0 = false ∧ s = noRng)
theorem simple_any (r : Rng) (x : RV) (B : Nat) (w : World) (hx : Range.Lies w (LtB B) r x) (hB : B ≤ w.heap.size) (hlo : Range.LenOk r) (hw : goodR r 0 = true → wt r ≤ 25 ∨ (wt r ≤ 1500 ∧ ∀ o, SetOf r o → o.length ≤ 74)) :
  Calls Tryz.prog 15 #[x.agg] w fun e w' => ∃ (y : RV) (s : Rng), e = .returned y.agg ∧ Range.Lies w' (fun g => w.heap.size + 1 < g) s y ∧ Below w.heap.size w w' ∧ Simpled r s := by
 have HB : Hid (Below w.heap.size w ((w.alloc (.cells #[.int .i64 x.kind, .int .u64 (x.v.a : Int), .int .u64 (x.v.b : Int), .int .u64 (x.v.c : Int), .slice x.A x.v.pre.length x.c, .slice x.B x.v.build.length x.d, .slice x.L x.n x.e] 28)).alloc (.cells #[.int .i64 0, .int .u64 0, .int .u64 0, .int .u64 0, .slice none 0 0, .slice none 0 0, .slice none 0 0] 28))) := ((Below.refl _ _).alloc (Nat.le_refl _) _).alloc (by simp) _
 have HR : Hid (RAt ((w.alloc (.cells #[.int .i64 x.kind, .int .u64 (x.v.a : Int), .int .u64 (x.v.b : Int), .int .u64 (x.v.c : Int), .slice x.A x.v.pre.length x.c, .slice x.B x.v.build.length x.d, .slice x.L x.n x.e] 28)).alloc (.cells #[.int .i64 0, .int .u64 0, .int .u64 0, .int .u64 0, .slice none 0 0, .slice none 0 0, .slice none 0 0] 28)) w.heap.size x) := (RAt.new w 28 x).kept ((Below.refl _ _).alloc (Nat.le_refl _) _) (by simp)
 have HZ : Hid (RAt ((w.alloc (.cells #[.int .i64 x.kind, .int .u64 (x.v.a : Int), .int .u64 (x.v.b : Int), .int .u64 (x.v.c : Int), .slice x.A x.v.pre.length x.c, .slice x.B x.v.build.length x.d, .slice x.L x.n x.e] 28)).alloc (.cells #[.int .i64 0, .int .u64 0, .int .u64 0, .int .u64 0, .slice none 0 0, .slice none 0 0, .slice none 0 0] 28)) (w.heap.size + 1) (zeroRV 0)) := by
  have h := RAt.new (w.alloc (.cells #[.int .i64 x.kind, .int .u64 (x.v.a : Int), .int .u64 (x.v.b : Int), .int .u64 (x.v.c : Int), .slice x.A x.v.pre.length x.c, .slice x.B x.v.build.length x.d, .slice x.L x.n x.e] 28)) 28 (zeroRV 0)
  rw [size_alloc] at h; exact h
 have HL := Lib.hid (hx.keep (KeepS.of_below (S := LtB B) HB.out))
 have hB1 : B ≤ ((w.alloc (.cells #[.int .i64 x.kind, .int .u64 (x.v.a : Int), .int .u64 (x.v.b : Int), .int .u64 (x.v.c : Int), .slice x.A x.v.pre.length x.c, .slice x.B x.v.build.length x.d, .slice x.L x.n x.e] 28)).alloc (.cells #[.int .i64 0, .int .u64 0, .int .u64 0, .int .u64 0, .slice none 0 0, .slice none 0 0, .slice none 0 0] 28)).heap.size := Nat.le_trans hB HB.out.size
 have hwp : 1 ≤ wt r := by rw [Range.wt_eq]; omega
 clear hx
 unfold RV.agg
 go_enter Tryz.func15, Tryz.ntmps15
 go_upto_region 1 with (fail)
 generalize ((w.alloc (.cells #[.int .i64 x.kind, .int .u64 (x.v.a : Int), .int .u64 (x.v.b : Int), .int .u64 (x.v.c : Int), .slice x.A x.v.pre.length x.c, .slice x.B x.v.build.length x.d, .slice x.L x.n x.e] 28)).alloc (.cells #[.int .i64 0, .int .u64 0, .int .u64 0, .int .u64 0, .slice none 0 0, .slice none 0 0, .slice none 0 0] 28)) = W at HB HR HZ HL hB1 ⊢
 obtain ⟨y1, y2, c0, c1, c2, c3, c4, c5, c6⟩ := HR.out
 go_wp2_with fail
 refine (Range.goodIs_any r x B W hlo HL.out hB1).mono ?_
 rintro e W2 ⟨rfl, hb⟩
 have HB2 := Lib.hid (HB.out.trans (hb.mono HB.out.size))
 have HR2 := Lib.hid (HR.out.kept hb HR.out.1)
 have HZ2 := Lib.hid (HZ.out.kept hb HZ.out.1)
 have HL2 := Lib.hid (HL.out.keep (KeepS.of_below (S := LtB B) hb))
 have hB2 : B ≤ W2.heap.size := Nat.le_trans hB1 hb.size
 clear hb y1 y2 c0 c1 c2 c3 c4 c5 c6 HB HR HL HZ
 obtain ⟨y1, y2, c0, c1, c2, c3, c4, c5, c6⟩ := HR2.out
 cases hg : goodR r 0 with
 | true =>
  have HG := Lib.hid hg
  have hw := hw hg
  have hw15 : wt r ≤ 1500 := by rcases hw with h | h; omega; exact h.1
  clear hg
  go_wp2_with fail
  refine (set_any 1500 r x B 0 W2 hw15 (Nat.le_refl _) HL2.out hB2 HG.out).mono ?_
  rintro e W3 ⟨A2, m2, cc2, o2, rfl, q1, q2, q3, q4, q5, q6, hb⟩
  have H1 := Lib.hid q1
  have H3 := Lib.hid q3
  have hm74 : m2 ≤ 74 := by
   rcases hw with h | h
   ·omega
   ·have h5 := h.2 _ q3; rw [List.length_map] at h5; have := q1.1; omega
  have HB3 := Lib.hid (HB2.out.trans (hb.mono HB2.out.size))
  have HZ3 := Lib.hid (HZ2.out.kept hb HZ2.out.1)
  have hz3 := HZ3.out.1
  clear q1 q3 q4 q5 q6 hb HR2 HZ2 HB2 HL2 c0 c1 c2 c3 c4 c5 c6 y1 y2
  go_wp2_with fail
  refine (plain_any A2 m2 cc2 o2 W3 H1.out hm74).mono ?_
  rintro e W4 ⟨y, o, he4, hno, hly, hol, hb⟩
  unfold RV.agg at he4
  subst he4
  have HB4 := Lib.hid (HB3.out.trans (hb.mono HB3.out.size))
  have HZ4 := Lib.hid (HZ3.out.kept hb HZ3.out.1)
  have HK9 := Lib.hid (Range.setR_at (x := y) HZ4.out)
  have HB9 : Hid (Below w.heap.size w (Range.setR W4 (w.heap.size + 1) y)) := HB4.out.trans (Range.setR_below w.heap.size (Nat.le_succ _) y)
  have HS9 : Hid (Range.Lies (Range.setR W4 (w.heap.size + 1) y) (fun g => w.heap.size + 1 < g) (plainR o) y) := (hly.mono fun g hg _ => by omega).keep (Range.setR_keep (Nat.lt_irrefl _) y)
  have HQ : Hid (Simpled r (plainR o)) := .inl ⟨HG.out, o, ⟨hno.1, fun c => by rw [hno.2, H3.out.1.inR, H3.out.2]⟩, by omega, rfl⟩
  obtain ⟨_, hfz, r0, r1, r2, r3, r4, r5, r6⟩ := HZ4.out
  clear hly hb HZ3 HB3 HZ4 HB4
  go_wp2
  change bodyPost _ _ _ _ _ (Range.setR W4 (w.heap.size + 1) y)
  generalize Range.setR W4 (w.heap.size + 1) y = W9 at HK9 HB9 HS9 ⊢
  obtain ⟨_, _, z0, z1, z2, z3, z4, z5, z6⟩ := HK9.out
  exact bodyPost_ret (v := .agg #[.int .i64 y.kind, .int .u64 (y.v.a : Int), .int .u64 (y.v.b : Int), .int .u64 (y.v.c : Int), .slice y.A y.v.pre.length y.c, .slice y.B y.v.build.length y.d, .slice y.L y.n y.e]) (by simp [results, Tryz.results15, go_sem, z0, z1, z2, z3, z4, z5, z6]) rfl ⟨y, _, rfl, HS9.out, HB9.out, HQ.out⟩
 | false =>
  have HG := Lib.hid hg
  clear hg
  have HZ4 := HZ2
  have HB4 := HB2
  have HK9 := Lib.hid (Range.setR_at (x := (zeroRV 0)) HZ4.out)
  have HB9 : Hid (Below w.heap.size w (Range.setR W2 (w.heap.size + 1) (zeroRV 0))) := HB4.out.trans (Range.setR_below w.heap.size (Nat.le_succ _) (zeroRV 0))
  have HS9 : Hid (Range.Lies (Range.setR W2 (w.heap.size + 1) (zeroRV 0)) (fun g => w.heap.size + 1 < g) noRng (zeroRV 0)) := Range.Lies.zero _ _ 0
  have HQ : Hid (Simpled r noRng) := .inr ⟨HG.out, rfl⟩
  obtain ⟨_, hfz, r0, r1, r2, r3, r4, r5, r6⟩ := HZ2.out
  clear HR2
  go_wp2
  change bodyPost _ _ _ _ _ (Range.setR W2 (w.heap.size + 1) (zeroRV 0))
  generalize Range.setR W2 (w.heap.size + 1) (zeroRV 0) = W9 at HK9 HB9 HS9 ⊢
  obtain ⟨_, _, z0, z1, z2, z3, z4, z5, z6⟩ := HK9.out
  exact bodyPost_ret (v := .agg #[.int .i64 (zeroRV 0).kind, .int .u64 ((zeroRV 0).v.a : Int), .int .u64 ((zeroRV 0).v.b : Int), .int .u64 ((zeroRV 0).v.c : Int), .slice (zeroRV 0).A (zeroRV 0).v.pre.length (zeroRV 0).c, .slice (zeroRV 0).B (zeroRV 0).v.build.length (zeroRV 0).d, .slice (zeroRV 0).L (zeroRV 0).n (zeroRV 0).e]) (by simp [results, Tryz.results15, go_sem, z0, z1, z2, z3, z4, z5, z6]) rfl ⟨(zeroRV 0), _, rfl, HS9.out, HB9.out, HQ.out⟩
end Go.Proofs.YtgfbflnhjpbceaaGreatDoor.Nrm
namespace Go.Proofs.YtgfbflnhjpbceaaGreatDoor.Range
open Go.RowKit Num Ident Semver
theorem tx_frame (t : Array Value) (h : t.size = 90) : ∃ F : Nat → Value, t = #[t.getD 0 undef, t.getD 1 undef, t.getD 2 undef, t.getD 3 undef, t.getD 4 undef, F 5, F 6, F 7, F 8, F 9, F 10, F 11, F 12, F 13, F 14, F 15, F 16, F 17, F 18, F 19, F 20, F 21, F 22, F 23, F 24, F 25, F 26, F 27, F 28, F 29, F 30, F 31, F 32, F 33, F 34, F 35, F 36, F 37, F 38, F 39, F 40, F 41, F 42, F 43, F 44, F 45, F 46, F 47, F 48, F 49, F 50, F 51, F 52, F 53, F 54, F 55, F 56, F 57, F 58, F 59, F 60, F 61, F 62, F 63, F 64, F 65, F 66, F 67, F 68, F 69, F 70, F 71, F 72, F 73, F 74, F 75, F 76, F 77, F 78, F 79, F 80, F 81, F 82, F 83, F 84, F 85, F 86, F 87, F 88, F 89] := ⟨fun i => t.getD i undef, arr_lit t 90 h⟩
def TxJ (w : World) (r : Rng) (x0 : Value) (m : Nat) (a' : Act) (W : World) : Prop :=
 ∃ (T : List Lv) (v : Value) (bs : List UInt8), Below w.heap.size w W ∧ TxW w.heap.size W v T bs ∧ bs ++ restT T = textR r ∧ lsum T = m ∧ m ≤ 4000000 ∧
  a'.defers = [] ∧ a'.tmps.size = 90 ∧ a'.tmps.getD 0 undef = x0 ∧ a'.tmps.getD 1 undef = .pointer (some ⟨w.heap.size, 0, none⟩) ∧ a'.tmps.getD 2 undef = .string ⟨#[]⟩ ∧ a'.tmps.getD 3 undef = .pointer (some ⟨w.heap.size + 1, 0, none⟩) ∧ a'.tmps.getD 4 undef = v
theorem text_any (r : Rng) (x : RV) (B : Nat) (w : World) (hx : Lies w (LtB B) r x) (hB : B ≤ w.heap.size) (hg : goodR r 0 = true) (hm : wt r ≤ 1000000) (hl : (textR r).length ≤ 30000000) (ht : OpsTab w) (htab : Tab w) :
  Calls Tryz.prog 25 #[x.agg] w fun e w' => e = .returned (.string (mk (textR r))) ∧ Below w.heap.size w w' := by
 have HX := Lib.hid (hx.mono (S' := LtB w.heap.size) fun g hg _ => Nat.lt_of_lt_of_le hg hB)
 have HG := Lib.hid hg
 have HT := Lib.hid ht
 have HTab := Lib.hid htab
 have HLen := Lib.hid hl
 clear hx hB hg ht htab hl
 unfold RV.agg
 go_enter Tryz.func25, Tryz.ntmps25
 go_wp2_with fail
 have HBa : Hid (Below w.heap.size w (w.alloc (.cells #[.int .i64 x.kind, .int .u64 (x.v.a : Int), .int .u64 (x.v.b : Int), .int .u64 (x.v.c : Int), .slice x.A x.v.pre.length x.c, .slice x.B x.v.build.length x.d, .slice x.L x.n x.e] 28))) := (Below.refl _ _).alloc (Nat.le_refl _) _
 have HRx : Hid (RAt (w.alloc (.cells #[.int .i64 x.kind, .int .u64 (x.v.a : Int), .int .u64 (x.v.b : Int), .int .u64 (x.v.c : Int), .slice x.A x.v.pre.length x.c, .slice x.B x.v.build.length x.d, .slice x.L x.n x.e] 28)) w.heap.size x) := RAt.new w _ x
 have HSz : Hid ((w.alloc (.cells #[.int .i64 x.kind, .int .u64 (x.v.a : Int), .int .u64 (x.v.b : Int), .int .u64 (x.v.c : Int), .slice x.A x.v.pre.length x.c, .slice x.B x.v.build.length x.d, .slice x.L x.n x.e] 28)).heap.size = w.heap.size + 1) := by rw [size_alloc]; rfl
 generalize w.alloc (.cells #[.int .i64 x.kind, .int .u64 (x.v.a : Int), .int .u64 (x.v.b : Int), .int .u64 (x.v.c : Int), .slice x.A x.v.pre.length x.c, .slice x.B x.v.build.length x.d, .slice x.L x.n x.e] 28) = W1 at HBa HRx HSz ⊢
 refine wp_scope_back_of 0 (TxJ w r x.agg) rfl ?_ ?_
 ·rintro m ⟨tm, df⟩ W ⟨T, v, bs, hb1, hT, hrest, hsum, hmm, hd, hs, t0, t1, t2, t3, t4⟩
  simp only at hd hs t0 t1 t2 t3 t4
  obtain ⟨F, hF⟩ := tx_frame tm hs
  rw [t0, t1, t2, t3, t4] at hF
  clear t0 t1 t2 t3 t4 hs
  subst hF; subst hd
  have HB1 := Lib.hid hb1
  have HT1 := Lib.hid hT
  have HR1 := Lib.hid hrest
  clear hb1 hT hrest
  by_cases h1 : T = []
  ·subst h1
   have HE : Hid (bs = textR r) := by have := HR1.out; rwa [restT, List.append_nil] at this
   rcases HT1.out.own.2 with ⟨rfl, _⟩ | ⟨g, cp, cur, rfl, _⟩
   all_goals
    go_wp2_with fail
    refine (Tryz.builderString _ _ bs W HT1.out.bld (by have := HT1.out.sz; omega)).mono ?_
    rintro e w5 ⟨rfl, _, hb5, _⟩
    have HB5 := Lib.hid (HB1.out.trans (hb5.mono (Nat.le_succ _)))
    clear hb5
    go_wp2
    simp only [Exit.jump]
    go_ret
    exact ⟨by rw [HE.out]; rfl, HB5.out⟩
  ·obtain ⟨R, y, rfl⟩ : ∃ R y, T = R ++ [y] := ⟨T.dropLast, T.getLast h1, (List.dropLast_concat_getLast h1).symm⟩
   obtain ⟨g, cp, rfl, hg1, hg2, hcp, e0, e1, e2, hfz⟩ := HT1.out.last
   have hRl : R.length < 4000000 := by have := lsum_len (R ++ [y]); rw [lv_length] at this; omega
   have hs1 : IntKind.i64.wrap (((R.length + 1 : Nat) : Int) - 1) = (R.length : Int) := by rw [IntKind.wrap_i64] <;> omega
   have hs2 : (R.length : Int) < ((R.length + 1 : Nat) : Int) := by omega
   have hs3 : (0 : Int) ≤ (R.length : Int) := by omega
   clear h1
   have hok := HT1.out.ok y (by simp)
   obtain ⟨_, hgl, hln, hrk, hk⟩ := right_at hok.lies hok.good
   have hk' : (y.x.kind = 9 ∨ y.x.kind = 10) ∨ y.x.kind = 11 ∧ y.x.n = 1 ∨ (y.x.kind ≠ 9 ∧ y.x.kind ≠ 10 ∧ y.x.kind ≠ 11) ∧ y.x.n = 0 := by
    rcases hk with ⟨k1, k2, _, k3⟩ | ⟨_, ⟨k1, k2⟩ | ⟨k1, _⟩ | k1⟩
    ·exact .inr (.inr ⟨⟨by omega, by omega, by omega⟩, k3⟩)
    ·exact .inr (.inr ⟨⟨by omega, by omega, by omega⟩, k2⟩)
    ·exact .inl k1
    ·exact .inr (.inl k1)
   have HW := Lib.hid (within_any y.b y.o y.x W hok.cells hok.lies.says.cap hk')
   have HGL := Lib.hid hgl
   have hlen : bs.length + y.e.length ≤ 30000000 := by
    have h5 := congrArg List.length HR1.out
    rw [restT_more, lvRest] at h5
    simp only [List.length_append] at h5
    have := HLen.out
    omega
   have hto := hok.told
   clear hok hgl hk hk'
   go_wp2_with fail
   refine HW.out.mono ?_
   rintro e W2 ⟨⟨A, c, rfl, hnc, hA⟩, hb⟩
   have HT2 := Lib.hid (HT1.out.below hb)
   have HB2 := Lib.hid (HB1.out.trans (hb.mono HB1.out.size))
   have f0 : W2.cell? ⟨g, R.length * 3, none⟩ = some (.pointer (some ⟨y.b, y.o, none⟩)) := (hb.cell (p := ⟨g, R.length * 3, none⟩) hg2).trans e0
   have f1 : W2.cell? ⟨g, R.length * 3 + 1, none⟩ = some (.int .i64 (y.told : Int)) := (hb.cell (p := ⟨g, R.length * 3 + 1, none⟩) hg2).trans e1
   have f2 : W2.cell? ⟨g, R.length * 3 + 2, none⟩ = some (.string (mk y.e)) := (hb.cell (p := ⟨g, R.length * 3 + 2, none⟩) hg2).trans e2
   clear hb HT1 HB1 HW e0 e1 e2 hg2 hfz
   by_cases h2 : y.told = y.x.n
   ·have h2i : (y.told : Int) = (y.x.n : Int) := by rw [h2]
    have HR2 : Hid (bs ++ y.e ++ restT R = textR r) := by
     have h5 := HR1.out
     rw [restT_more, lvRest, List.drop_eq_nil_of_le (by omega), textL, List.nil_append, ← List.append_assoc] at h5
     exact h5
    have hls : lsum R < m := by rw [lsum_more] at hsum; unfold lvW at hsum; omega
    clear h2 HR1 hsum hln
    go_wp2_with fail
    refine (writeString_any (w.heap.size + 1) (w.heap.size + 1) bs y.e W2 HT2.out.bld (by omega) (by omega) (by have := HT2.out.sz; omega)).mono ?_
    rintro e W3 ⟨rfl, hw⟩
    have HT3 := Lib.hid (HT2.out.wrote hw).pop
    have HB3 := Lib.hid (HB2.out.trans (hw.2.1.mono (Nat.le_succ _)))
    clear hw f0 f1 f2
    go_wp2
    go_step3
    exact ⟨rfl, _, ⟨R, _, _, HB3.out, HT3.out, HR2.out, rfl, by omega, rfl, rfl, rfl, rfl, rfl, rfl, rfl⟩, hls⟩
   ·have hlt : y.told < y.x.n := by omega
    have hlti : (y.told : Int) < (y.x.n : Int) := by omega
    have hne2 : ¬ (y.told : Int) = (y.x.n : Int) := by omega
    have hp2 : (0 : Int) ≤ (y.told : Int) := by omega
    have hok := HT2.out.ok y (by simp)
    have htb : y.told ≤ 4000000 := by have h5 := hok.few; rw [wt_eq] at h5; have := wtL_len y.r.subs; omega
    have hyk := (right_at hok.lies hok.good).2.2.2.1
    obtain ⟨b', o', z, hLe, hSb, hcl, hcy⟩ := hok.lies.says.subs.one hlt
    have hA2 : A = some ⟨b', o', none⟩ := (hA (by omega)).trans hLe
    subst hA2
    have hmem : y.r.subs.getD y.told noRng ∈ y.r.subs := by
     rw [List.getD_eq_getElem?_getD, List.getElem?_eq_getElem (by omega)]; exact List.getElem_mem _
    have hgd := goodL_mem HGL.out hmem
    have hnx := Lib.hid (lvRest_next y (by omega) b' (o' + y.told * 7) (y.d + opens y.r.kind (y.r.subs.getD y.told noRng).kind) z hgd)
    have hwx := Lib.hid (lvW_next y (by omega) b' (o' + y.told * 7) (y.d + opens y.r.kind (y.r.subs.getD y.told noRng).kind) z (shutR y.r.kind (y.r.subs.getD y.told noRng).kind))
    have HQ2 : Hid (LvOk W2 (w.heap.size + 1) ⟨b', o' + y.told * 7, y.r.subs.getD y.told noRng, z, y.d + opens y.r.kind (y.r.subs.getD y.told noRng).kind, 0, shutR y.r.kind (y.r.subs.getD y.told noRng).kind⟩) := ⟨hcl, hSb, hcy, hgd, Nat.zero_le _, by have h5 := hok.few; rw [wt_eq] at h5; have := wt_mem hmem; show wt (y.r.subs.getD y.told noRng) ≤ 4000000; omega⟩
    have hzk : (y.r.subs.getD y.told noRng).kind = z.kind := hcy.says.kind
    have hzv : (y.r.subs.getD y.told noRng).ver = z.v := hcy.says.ver
    have ho0 : W2.cell? ⟨y.b, y.o, none⟩ = some (.int .i64 y.x.kind) := hok.cells.cells.1
    have hz0 : W2.cell? ⟨b', o' + y.told * 7, none⟩ = some (.int .i64 z.kind) := hcl.cells.1
    rw [hyk, hzk] at hnx
    rw [hyk, hzk] at hwx
    rw [hyk, hzk] at HQ2
    rw [hzv] at hnx
    generalize hqd : y.r.subs.getD y.told noRng = q at hnx hwx HQ2 hgd
    clear hqd hmem hgd hcy hcl hok hyk hLe hA h2 hzk hzv hSb
    obtain ⟨AH, hAH⟩ : ∃ l, aheadR y.x.kind z.kind y.told = l := ⟨_, rfl⟩
    obtain ⟨OP, hOP⟩ : ∃ l, openR y.x.kind z.kind = l := ⟨_, rfl⟩
    obtain ⟨MK, hMK⟩ : ∃ l, markR z.kind z.v = l := ⟨_, rfl⟩
    have HAh := Lib.hid (ahead_any g (R.length * 3) y.b y.o y.x.kind z.kind y.told W2 f0 f1 ho0)
    rw [hAH] at hnx
    rw [hAH] at HAh
    rw [hOP, hMK] at hnx
    have HOP := Lib.hid hOP
    have HMK := Lib.hid hMK
    clear hAH hOP hMK
    go_wp2_with fail
    refine HAh.out.mono ?_
    rintro e w' ⟨rfl, rfl⟩
    clear HAh
    have hl4 : bs.length + AH.length + OP.length + MK.length ≤ 30000000 := by
     have h5 := congrArg List.length HR1.out
     rw [restT_more, hnx.out] at h5
     simp only [List.length_append] at h5
     have := HLen.out
     omega
    go_wp2_with fail
    refine (writeString_any (w.heap.size + 1) (w.heap.size + 1) bs AH w' HT2.out.bld (by omega) (by omega) (by have := HT2.out.sz; omega)).mono ?_
    rintro e W3 ⟨rfl, hw⟩
    have HT3 := Lib.hid (HT2.out.wrote hw)
    have HQ3 := Lib.hid (HQ2.out.kept (KeepS.lt hw.2.1))
    have HB3 := Lib.hid (HB2.out.trans (hw.2.1.mono (Nat.le_succ _)))
    clear hw f0 f1 f2 ho0 hz0 HT2 HQ2 HB2
    obtain ⟨_, hg2, f0, f1, f2, hfz⟩ := HT3.out.lastAt
    have hw1 : IntKind.i64.wrap ((y.told : Int) + 1) = ((y.told + 1 : Nat) : Int) := by rw [IntKind.wrap_i64] <;> omega
    go_upto_region 14 with (fail)
    have et : ((y.told + 1 : Nat) : Int) = (y.told : Int) + 1 := by omega
    have HT4 : Hid (TxW w.heap.size (W3.setCell ⟨g, R.length * 3 + 1, none⟩ (.int .i64 ((y.told : Int) + 1))) (.slice (some ⟨g, 0, none⟩) (R.length + 1) cp) (R ++ [{ y with told := y.told + 1 }]) (bs ++ AH)) := by
     have h5 := HT3.out.next (by omega) hg1
     rw [et] at h5
     exact h5
    have hK4 : KeepS (LtB (w.heap.size + 1)) W3 (W3.setCell ⟨g, R.length * 3 + 1, none⟩ (.int .i64 ((y.told : Int) + 1))) := KeepS.set (by unfold LtB; omega) _
    have HQ4 := Lib.hid (HQ3.out.kept hK4)
    have HB4 : Hid (Below w.heap.size w (W3.setCell ⟨g, R.length * 3 + 1, none⟩ (.int .i64 ((y.told : Int) + 1)))) := HB3.out.setCell (show w.heap.size ≤ g by omega) _
    have hgs4 : g < (W3.setCell ⟨g, R.length * 3 + 1, none⟩ (.int .i64 ((y.told : Int) + 1))).heap.size := by simpa using hg2
    clear hK4 HT3 HQ3 HB3 f0 f1 f2 hfz hg2 hw1 et
    generalize W3.setCell ⟨g, R.length * 3 + 1, none⟩ (.int .i64 ((y.told : Int) + 1)) = W4 at HT4 HQ4 HB4 hgs4 ⊢
    have hba : Below W4.heap.size W4 (W4.alloc (.cells #[.pointer (some ⟨b', o' + y.told * 7, none⟩), .int .i64 0, .string ⟨#[]⟩] 78)) := (Below.refl _ _).alloc (Nat.le_refl _) _
    have HT5 := Lib.hid (HT4.out.below hba)
    have HI5 : Hid (Inn w.heap.size (W4.alloc (.cells #[.pointer (some ⟨b', o' + y.told * 7, none⟩), .int .i64 0, .string ⟨#[]⟩] 78)) W4.heap.size b' (o' + y.told * 7) []) := Inn.new _ _ HT4.out.sz
    have HQ5 := Lib.hid (HQ4.out.kept (KeepS.of_below hba))
    have HB5 := Lib.hid (HB4.out.trans (hba.mono HB4.out.size))
    clear hba HT4 HQ4 HB4
    go_upto_region 15 with (fail)
    generalize W4.alloc (.cells #[.pointer (some ⟨b', o' + y.told * 7, none⟩), .int .i64 0, .string ⟨#[]⟩] 78) = W5 at HT5 HI5 HQ5 HB5 ⊢
    generalize hnb : W4.heap.size = nb at HI5 hgs4 ⊢
    clear hnb
    obtain ⟨_, hg5, f0, f1, f2, hfz⟩ := HT5.out.lastAt
    have ho0 := (HT5.out.ok { y with told := y.told + 1 } (by simp)).cells.cells.1
    have hz0 := HQ5.out.cells.cells.1
    simp only at f0 ho0 hz0
    have hbd : Below W5.heap.size W5 W5.drew := (Below.refl W5.heap.size W5).drew
    have HTd := Lib.hid (HT5.out.below hbd)
    have HId := Lib.hid (HI5.out.below hbd)
    have HQd := Lib.hid (HQ5.out.kept (KeepS.of_below hbd))
    have HBd := Lib.hid (HB5.out.trans (hbd.mono HB5.out.size))
    have g0 : W5.drew.cell? ⟨g, R.length * 3, none⟩ = some (.pointer (some ⟨y.b, y.o, none⟩)) := f0
    have go0 : W5.drew.cell? ⟨y.b, y.o, none⟩ = some (.int .i64 y.x.kind) := ho0
    have gz0 : W5.drew.cell? ⟨b', o' + y.told * 7, none⟩ = some (.int .i64 z.kind) := hz0
    clear hbd HT5 HI5 HQ5 HB5 f0 f1 f2 hfz ho0 hz0
    have HFin : Hid (bs ++ AH ++ OP ++ MK ++ restT (R ++ [{ y with told := y.told + 1 }] ++ [⟨b', o' + y.told * 7, q, z, y.d + opens y.x.kind z.kind, 0, shutR y.x.kind z.kind⟩]) = textR r) := by
     have h5 := HR1.out
     rw [restT_more, hnx.out] at h5
     unfold Hid
     rw [restT_more, restT_more, ← h5]
     simp only [List.append_assoc]
    have HMs : Hid (lsum (R ++ [{ y with told := y.told + 1 }] ++ [⟨b', o' + y.told * 7, q, z, y.d + opens y.x.kind z.kind, 0, shutR y.x.kind z.kind⟩]) < m) := by
     unfold Hid
     rw [lsum_more] at hsum
     rw [lsum_more, lsum_more]
     have := hwx.out
     omega
    have HMark : Hid (∀ W e, LvOk W (w.heap.size + 1) ⟨b', o' + y.told * 7, q, z, y.d + opens y.x.kind z.kind, 0, e⟩ → Below w.heap.size w W → Calls Tryz.prog 51 #[z.agg] W fun e w' => e = .returned (.string (mk MK)) ∧ Below W.heap.size W w') := fun W e h hb => by
     have hk := (right_at h.lies h.good).2.2.2.2
     have hs := h.lies.says
     have hkm : z.kind = 0 ∨ (z.kind = 9 ∨ z.kind = 10) ∨ z.kind = 11 ∨ (1 ≤ z.kind ∧ z.kind ≤ 8 ∧ goodV z.v = true) := by
      rcases hk with ⟨k1, k2, k3, _⟩ | ⟨_, ⟨k1, _⟩ | ⟨k1, _⟩ | ⟨k1, _⟩⟩
      ·exact .inr (.inr (.inr ⟨k1, k2, k3⟩))
      ·exact .inl k1
      ·exact .inr (.inl k1)
      ·exact .inr (.inr (.inl k1))
     have h5 := mark_any z W hs.pre hs.build hs.cp hs.cb hkm (by rw [HMK.out]; omega) (HT.out.keep (Keep.of_below hb)) (HTab.out.kept hb)
     rw [HMK.out] at h5
     exact h5
    refine wp_region_held_drew (S := fun w' => w' = W5.drew) (by kernel_rfl) rfl (fun hHeld => ?_)
    refine tk 0 rfl (.pointer (some ⟨g, R.length * 3, none⟩)) ?_
    refine tk 1 rfl (.pointer (some ⟨g, R.length * 3, none⟩)) ?_
    refine tk 2 rfl (.pointer (some ⟨g, R.length * 3, none⟩)) ?_
    refine tk 3 rfl (.pointer (some ⟨y.b, y.o, none⟩)) ?_ fun w' hS' => by subst hS'; go_simp
    refine tk 4 rfl (.pointer (some ⟨y.b, y.o, none⟩)) ?_
    refine tk 5 rfl (.pointer (some ⟨y.b, y.o, none⟩)) ?_
    refine tk 6 rfl (.int .i64 y.x.kind) ?_ fun w' hS' => by subst hS'; go_simp
    refine tk 7 rfl (.pointer (some ⟨b', o' + y.told * 7, none⟩)) ?_
    refine tk 8 rfl (.pointer (some ⟨b', o' + y.told * 7, none⟩)) ?_
    refine tk 9 rfl (.pointer (some ⟨b', o' + y.told * 7, none⟩)) ?_
    refine tk 10 rfl (.int .i64 z.kind) ?_ fun w' hS' => by subst hS'; go_simp
    refine cl 11 rfl fun K hK => ?_
    go_simp
    refine (bracketed_any y.x.kind z.kind W5.drew).mono ?_
    rintro e wk1 ⟨rfl, rfl⟩
    have hb := True.intro
    clear hb hHeld
    refine hK.out _ _ rfl (fun hHeld => ?_)
    clear hK K
    try simp only [Act.put, p1, p2, p3]
    refine wpAnyH_done (by kernel_rfl) ?_ _
    generalize W5.drew = W6 at HTd HId HQd HBd g0 go0 gz0 ⊢
    cases hbr : bracketed y.x.kind z.kind with
    | true =>
     obtain rfl : [40] = OP := by rw [← HOP.out]; unfold openR; rw [if_pos hbr]
     have hsh : shutR y.x.kind z.kind = [41] := by unfold shutR; rw [if_pos hbr]
     rw [hsh] at HQd HFin HMs
     clear hsh hnx hwx
     simp only [List.length_singleton] at hl4
     go_wp2_with fail
     refine (writeString_any (w.heap.size + 1) (w.heap.size + 1) (bs ++ AH) [40] W6 HTd.out.bld (by rw [List.length_append]; omega) (by simp) (by have := HTd.out.sz; omega)).mono ?_
     rintro e W7 ⟨rfl, hw⟩
     have HT7 := Lib.hid (HTd.out.wrote hw)
     have HI7 := Lib.hid (HId.out.wrote HTd.out hw)
     have HQ7 := Lib.hid (HQd.out.kept (KeepS.lt hw.2.1))
     have HB7 := Lib.hid (HBd.out.trans (hw.2.1.mono (Nat.le_succ _)))
     clear hw HTd HId HQd HBd g0 go0 gz0
     obtain ⟨i0, i1, i2, ifz, hnb⟩ := HI7.out.cells
     obtain ⟨s1, s2, s3⟩ := HI7.out.shut [41] HT7.out (by simp [Value.ownBlock]; omega)
     have HI8 := Lib.hid s1
     have HT8 := Lib.hid s2
     have HQ8 := Lib.hid (HQ7.out.kept (KeepS.lt (s3.mono (by omega))))
     have HB8 := Lib.hid (HB7.out.trans (s3.mono (by omega)))
     clear s1 s2 s3 HI7 HT7 HQ7 HB7
     go_upto_region 18 with (fail)
     have e41 : W7.setCell ⟨nb, 2, none⟩ (.string (mk [41])) = W7.setCell ⟨nb, 2, none⟩ (.string ⟨#[41]⟩) := rfl
     rw [e41] at HI8 HT8 HQ8 HB8
     clear e41 i0 i1 i2 ifz hnb
     generalize W7.setCell ⟨nb, 2, none⟩ (.string ⟨#[41]⟩) = W8 at HI8 HT8 HQ8 HB8 ⊢
     obtain ⟨c0, c1, c2, c3, c4, c5, c6⟩ := HQ8.out.cells.cells
     simp only at c0 c1 c2 c3 c4 c5 c6
     go_wp2_with fail
     refine (HMark.out _ _ HQ8.out HB8.out).mono ?_
     rintro e W9 ⟨rfl, hb⟩
     have HT9 := Lib.hid (HT8.out.below hb)
     have HI9 := Lib.hid (HI8.out.below hb)
     have HQ9 := Lib.hid (HQ8.out.kept (KeepS.of_below hb))
     have HB9 := Lib.hid (HB8.out.trans (hb.mono HB8.out.size))
     clear hb HT8 HI8 HQ8 HB8 c0 c1 c2 c3 c4 c5 c6
     go_wp2_with fail
     refine (writeString_any (w.heap.size + 1) (w.heap.size + 1) _ MK W9 HT9.out.bld (by simp only [List.length_append]; first | omega | (simp only [List.length_singleton] at hl4 ⊢; omega)) (by omega) (by have := HT9.out.sz; omega)).mono ?_
     rintro e WA ⟨rfl, hw⟩
     have HTA := Lib.hid (HT9.out.wrote hw)
     have HIA := Lib.hid (HI9.out.wrote HT9.out hw)
     have HQA := Lib.hid (HQ9.out.kept (KeepS.lt hw.2.1))
     have HBA := Lib.hid (HB9.out.trans (hw.2.1.mono (Nat.le_succ _)))
     clear hw HT9 HI9 HQ9 HB9
     obtain ⟨i0, i1, i2, ifz, _⟩ := HIA.out.cells
     have hba : Below WA.heap.size WA (WA.alloc (.cells #[.pointer (some ⟨b', o' + y.told * 7, none⟩), .int .i64 0, .string (mk [41])] 78)) := (Below.refl _ _).alloc (Nat.le_refl _) _
     have HTC := Lib.hid (HTA.out.below hba)
     have HQC := Lib.hid (HQA.out.kept (KeepS.of_below hba))
     have HBC := Lib.hid (HBA.out.trans (hba.mono HBA.out.size))
     clear hba HTA HQA HBA
     go_wp2_with (first
      | (at_builtin; refine wpList_append_lv _ rfl _ _ rfl w.heap.size _ (R ++ [{ y with told := y.told + 1 }]) _ (by first | rfl | (rw [lv_length]; rfl)) HTC.out ⟨WA.heap.size, 0, none⟩ ⟨b', o' + y.told * 7, q, z, y.d + opens y.x.kind z.kind, 0, [41]⟩ rfl (fun j u hu => news_new WA _ _ j u hu) HQC.out (by rw [lv_length]; omega) ?_; intro v' w6 hTn hb6; have HTN := Lib.hid hTn; have HBN := Lib.hid (HBC.out.trans (hb6.mono (by omega))); clear hTn hb6)
      | fail)
     go_step3
     exact ⟨rfl, _, ⟨_, v', _, HBN.out, HTN.out, HFin.out, rfl, Nat.le_trans (Nat.le_of_lt HMs.out) hmm, rfl, rfl, rfl, rfl, rfl, rfl, rfl⟩, HMs.out⟩
    | false =>
     obtain rfl : [] = OP := by rw [← HOP.out]; unfold openR; rw [if_neg (by rw [hbr]; simp)]
     have hsh : shutR y.x.kind z.kind = [] := by unfold shutR; rw [if_neg (by rw [hbr]; simp)]
     rw [hsh] at HQd HFin HMs
     rw [List.append_nil] at HFin
     clear hsh hnx hwx g0 go0 gz0
     simp only [List.length_nil] at hl4
     go_upto_region 18 with (fail)
     obtain ⟨c0, c1, c2, c3, c4, c5, c6⟩ := HQd.out.cells.cells
     simp only at c0 c1 c2 c3 c4 c5 c6
     go_wp2_with fail
     refine (HMark.out _ _ HQd.out HBd.out).mono ?_
     rintro e W9 ⟨rfl, hb⟩
     have HT9 := Lib.hid (HTd.out.below hb)
     have HI9 := Lib.hid (HId.out.below hb)
     have HQ9 := Lib.hid (HQd.out.kept (KeepS.of_below hb))
     have HB9 := Lib.hid (HBd.out.trans (hb.mono HBd.out.size))
     clear hb HTd HId HQd HBd c0 c1 c2 c3 c4 c5 c6
     go_wp2_with fail
     refine (writeString_any (w.heap.size + 1) (w.heap.size + 1) _ MK W9 HT9.out.bld (by simp only [List.length_append]; first | omega | (simp only [List.length_singleton] at hl4 ⊢; omega)) (by omega) (by have := HT9.out.sz; omega)).mono ?_
     rintro e WA ⟨rfl, hw⟩
     have HTA := Lib.hid (HT9.out.wrote hw)
     have HIA := Lib.hid (HI9.out.wrote HT9.out hw)
     have HQA := Lib.hid (HQ9.out.kept (KeepS.lt hw.2.1))
     have HBA := Lib.hid (HB9.out.trans (hw.2.1.mono (Nat.le_succ _)))
     clear hw HT9 HI9 HQ9 HB9
     obtain ⟨i0, i1, i2, ifz, _⟩ := HIA.out.cells
     have hba : Below WA.heap.size WA (WA.alloc (.cells #[.pointer (some ⟨b', o' + y.told * 7, none⟩), .int .i64 0, .string (mk [])] 78)) := (Below.refl _ _).alloc (Nat.le_refl _) _
     have HTC := Lib.hid (HTA.out.below hba)
     have HQC := Lib.hid (HQA.out.kept (KeepS.of_below hba))
     have HBC := Lib.hid (HBA.out.trans (hba.mono HBA.out.size))
     clear hba HTA HQA HBA
     go_wp2_with (first
      | (at_builtin; refine wpList_append_lv _ rfl _ _ rfl w.heap.size _ (R ++ [{ y with told := y.told + 1 }]) _ (by first | rfl | (rw [lv_length]; rfl)) HTC.out ⟨WA.heap.size, 0, none⟩ ⟨b', o' + y.told * 7, q, z, y.d + opens y.x.kind z.kind, 0, []⟩ rfl (fun j u hu => news_new WA _ _ j u hu) HQC.out (by rw [lv_length]; omega) ?_; intro v' w6 hTn hb6; have HTN := Lib.hid hTn; have HBN := Lib.hid (HBC.out.trans (hb6.mono (by omega))); clear hTn hb6)
      | fail)
     go_step3
     exact ⟨rfl, _, ⟨_, v', _, HBN.out, HTN.out, HFin.out, rfl, Nat.le_trans (Nat.le_of_lt HMs.out) hmm, rfl, rfl, rfl, rfl, rfl, rfl, rfl⟩, HMs.out⟩
 ·intro HP
  obtain ⟨g1, g2, c0, c1, c2, c3, c4, c5, c6⟩ := HRx.out
  have hgr := right_at HX.out HG.out
  have hba : Below W1.heap.size W1 (W1.alloc (.cells #[.pointer none, .slice none 0 0] 71)) := (Below.refl _ _).alloc (Nat.le_refl _) _
  have HB2 := Lib.hid (HBa.out.trans (hba.mono HBa.out.size))
  have HL2 := Lib.hid (Bld.new W1 (w.heap.size + 1) (by rw [HSz.out]; exact Nat.le_refl _))
  rw [HSz.out] at HL2
  have HR2 : Hid (RAt (W1.alloc (.cells #[.pointer none, .slice none 0 0] 71)) w.heap.size x) := HRx.out.kept hba g1
  have HZ2 : Hid ((W1.alloc (.cells #[.pointer none, .slice none 0 0] 71)).heap.size = w.heap.size + 2) := by rw [Hid, size_alloc, HSz.out]
  have hsz := HSz.out
  clear hba
  go_upto_region 2 with (fail)
  clear c0 c1 c2 c3 c4 c5 c6 g1 g2 HRx HBa HSz hsz
  generalize W1.alloc (.cells #[.pointer none, .slice none 0 0] 71) = W2 at HB2 HL2 HR2 HZ2 ⊢
  obtain ⟨g1, g2, c0, c1, c2, c3, c4, c5, c6⟩ := HR2.out
  obtain ⟨_, _, hln, hrk, hk⟩ := hgr
  have hs := HX.out.says
  have htx := text_good HG.out
  rw [hrk, hs.ver] at htx
  have hkm : x.kind = 0 ∨ (x.kind = 9 ∨ x.kind = 10) ∨ x.kind = 11 ∨ (1 ≤ x.kind ∧ x.kind ≤ 8 ∧ goodV x.v = true) := by
   rcases hk with ⟨k1, k2, k3, _⟩ | ⟨_, ⟨k1, _⟩ | ⟨k1, _⟩ | ⟨k1, _⟩⟩
   ·exact .inr (.inr (.inr ⟨k1, k2, k3⟩))
   ·exact .inl k1
   ·exact .inr (.inl k1)
   ·exact .inr (.inr (.inl k1))
  have hml : (markR x.kind x.v).length ≤ 30000000 := by
   have := HLen.out
   rw [htx, List.length_append] at this
   omega
  have HTX := Lib.hid htx
  have hml2 : (markR x.kind x.v).length ≤ 100000000 := by omega
  have HMk := Lib.hid (mark_any x W2 (hs.pre.kept HB2.out) (hs.build.kept HB2.out) hs.cp hs.cb hkm hml2 (HT.out.keep (Keep.of_below HB2.out)) (HTab.out.kept HB2.out))
  clear htx hk hkm hs hml2
  generalize markR x.kind x.v = MK at HTX HMk hml
  go_wp2_with fail
  refine HMk.out.mono ?_
  rintro e W3 ⟨rfl, hb⟩
  have HB3 := Lib.hid (HB2.out.trans (hb.mono HB2.out.size))
  have HL3 := Lib.hid (HL2.out.kept hb)
  have HR3 : Hid (RAt W3 w.heap.size x) := HR2.out.kept hb (by rw [HZ2.out]; omega)
  have hz3 : w.heap.size + 2 ≤ W3.heap.size := by have := hb.size; rw [HZ2.out] at this; exact this
  clear hb HB2 HL2 HR2 HZ2 HMk c0 c1 c2 c3 c4 c5 c6 g1 g2
  go_wp2_with fail
  refine (writeString_any (w.heap.size + 1) (w.heap.size + 1) [] MK W3 HL3.out (Nat.zero_le _) (by omega) (by omega)).mono ?_
  rintro e W4 ⟨rfl, hw⟩
  have HB4 := Lib.hid (HB3.out.trans (hw.2.1.mono (Nat.le_succ _)))
  have HL4 := Lib.hid hw.1
  have HR4 : Hid (RAt W4 w.heap.size x) := HR3.out.kept hw.2.1 (Nat.lt_succ_self _)
  have hz4 : w.heap.size + 2 ≤ W4.heap.size := Nat.le_trans hz3 hw.2.1.size
  clear hw HB3 HL3 HR3 hz3
  go_wp2
  go_step3
  rename_i hK
  have hba : Below W4.heap.size W4 (W4.alloc (.cells #[.pointer (some ⟨w.heap.size, 0, none⟩), .int .i64 0, .string ⟨#[]⟩] 78)) := (Below.refl _ _).alloc (Nat.le_refl _) _
  have HB5 := Lib.hid (HB4.out.trans (hba.mono HB4.out.size))
  obtain ⟨g1, g2, c0, c1, c2, c3, c4, c5, c6⟩ := HR4.out.kept hba (by omega)
  have HX5 : Hid (Lies (W4.alloc (.cells #[.pointer (some ⟨w.heap.size, 0, none⟩), .int .i64 0, .string ⟨#[]⟩] 78)) (LtB (w.heap.size + 1)) r x) := (HX.out.keep (KeepS.lt HB5.out)).mono fun g hg _ => Nat.lt_succ_of_lt hg
  refine hK _ _ (HP.out (lsum [⟨w.heap.size, 0, r, x, 0, 0, []⟩]) _ _ ⟨[⟨w.heap.size, 0, r, x, 0, 0, []⟩], _, [] ++ MK, HB5.out, ⟨World.ownsRow_lit (base := w.heap.size + 2) (e := 78) (size := 3) W4 #[.pointer (some ⟨w.heap.size, 0, none⟩), .int .i64 0, .string ⟨#[]⟩] 1 hz4 (by decide) rfl, HL4.out.kept hba, ?_, Nat.le_trans hz4 hba.size⟩, ?_, rfl, ?_, rfl, rfl, rfl, rfl, rfl, rfl, rfl⟩)
  ·intro y hy
   rw [List.mem_singleton] at hy
   subst hy
   exact ⟨CellsAt.of c0 c1 c2 c3 c4 c5 c6, Nat.lt_succ_self _, HX5.out, HG.out, Nat.zero_le _, by show wt r ≤ 4000000; omega⟩
  ·rw [HTX.out]
   simp [restT, lvRest, hrk]
  ·simp only [lsum, lvW, List.drop_zero]
   rw [wt_eq] at hm
   omega
end Go.Proofs.YtgfbflnhjpbceaaGreatDoor.Range
