/-
  What the theorem of the last text needs of these: NmAgainWalk, Came, RgTab, SvCame, SpCame. Conditions: as each theorem states.
-/
import Derived.Test.YtgfbflnhjpbceaaGreatDoorAgaB1
import Derived.Test.YtgfbflnhjpbceaaGreatDoorAgaB2
import Derived.Test.YtgfbflnhjpbceaaGreatDoorAgaB5
import Derived.Test.YtgfbflnhjpbceaaGreatDoorAgaB10
import Derived.Test.YtgfbflnhjpbceaaGreatDoorAgaB11
import Derived.Test.YtgfbflnhjpbceaaGreatDoorAgaB15
import Derived.Test.YtgfbflnhjpbceaaGreatDoorAgaB22
import Derived.Test.YtgfbflnhjpbceaaGreatDoorAgaB25
import Derived.Test.YtgfbflnhjpbceaaGreatDoorAgaB33
import Derived.Deep.QuietTactic
import Derived.BigQuiet
import Derived.ProofKit
import Derived.OpenShut
import Derived.SliceStrings
import Derived.Lib.LaidTab
import Derived.Deep.Fields
import Derived.Deep.Slices
import Derived.ChangeSame
set_option maxRecDepth 100000
set_option maxHeartbeats 25600000
namespace Go.Proofs.YtgfbflnhjpbceaaGreatDoor.Nrm
open Go.RowKit Num Ident Semver Prec Span
open Range (Rng noRng goodR goodL fits wt wtL RV RAt OpsTab Keep KeepS LtB zeroRV LenOk textR)
theorem again_has {r s : Rng} {o : List Sp} {v : Ver} (hr : SetOf r o) (hs : SetOf s o) (hgr : goodR r 0 = true) (hgs : goodR s 0 = true) (hv : goodV v = true) : inV s v = inV r v := by
 rw [← set_has hr hgr hv, ← set_has hs hgs hv]
theorem normAgain_any (r : Rng) (x : RV) (v : Ver) (A : Option Addr) (c : Nat) (B : Option Addr) (d : Nat) (w : World) (hx : Range.Lies w (LtB w.heap.size) r x) (lo : LenOk r)
  (hr1 : SRow w A v.pre.length v.pre) (hr2 : SRow w B v.build.length v.build) (hf : v.pre.length ≤ maxLen ∧ v.build.length ≤ maxLen ∧ (∀ x ∈ v.pre, x.length ≤ maxLen) ∧ (∀ x ∈ v.build, x.length ≤ maxLen)) (htab : Tab w) (ht : OpsTab w) :
  Calls Tryz.prog 6 #[x.agg, .agg #[.int .u64 (v.a : Int), .int .u64 (v.b : Int), .int .u64 (v.c : Int), .slice A v.pre.length c, .slice B v.build.length d]] w fun e w' => e = .returned (.bool true) ∧ Below w.heap.size w w' := by
 have HB0 : Hid (Below w.heap.size w ((w.alloc (.cells #[.int .i64 x.kind, .int .u64 (x.v.a : Int), .int .u64 (x.v.b : Int), .int .u64 (x.v.c : Int), .slice x.A x.v.pre.length x.c, .slice x.B x.v.build.length x.d, .slice x.L x.n x.e] 28)).alloc (.cells #[.int .u64 (v.a : Int), .int .u64 (v.b : Int), .int .u64 (v.c : Int), .slice A v.pre.length c, .slice B v.build.length d] 25))) := ((Below.refl _ _).alloc (Nat.le_refl _) _).alloc (by simp) _
 have HA0 : Hid (RAt ((w.alloc (.cells #[.int .i64 x.kind, .int .u64 (x.v.a : Int), .int .u64 (x.v.b : Int), .int .u64 (x.v.c : Int), .slice x.A x.v.pre.length x.c, .slice x.B x.v.build.length x.d, .slice x.L x.n x.e] 28)).alloc (.cells #[.int .u64 (v.a : Int), .int .u64 (v.b : Int), .int .u64 (v.c : Int), .slice A v.pre.length c, .slice B v.build.length d] 25)) w.heap.size x) := (RAt.new w 28 x).kept ((Below.refl _ _).alloc (Nat.le_refl _) _) (by simp)
 have HV0 : Hid (At5 ((w.alloc (.cells #[.int .i64 x.kind, .int .u64 (x.v.a : Int), .int .u64 (x.v.b : Int), .int .u64 (x.v.c : Int), .slice x.A x.v.pre.length x.c, .slice x.B x.v.build.length x.d, .slice x.L x.n x.e] 28)).alloc (.cells #[.int .u64 (v.a : Int), .int .u64 (v.b : Int), .int .u64 (v.c : Int), .slice A v.pre.length c, .slice B v.build.length d] 25)) (w.heap.size + 1) (.int .u64 (v.a : Int)) (.int .u64 (v.b : Int)) (.int .u64 (v.c : Int)) (.slice A v.pre.length c) (.slice B v.build.length d)) := by
  have h := At5.new (w.alloc (.cells #[.int .i64 x.kind, .int .u64 (x.v.a : Int), .int .u64 (x.v.b : Int), .int .u64 (x.v.c : Int), .slice x.A x.v.pre.length x.c, .slice x.B x.v.build.length x.d, .slice x.L x.n x.e] 28)) 25 (.int .u64 (v.a : Int)) (.int .u64 (v.b : Int)) (.int .u64 (v.c : Int)) (.slice A v.pre.length c) (.slice B v.build.length d)
  rw [size_alloc] at h; exact h
 have hwf := hf
 unfold maxLen at hwf
 obtain ⟨hp1, hp2, _, _⟩ := hwf
 unfold RV.agg
 go_enter Tryz.func6, Tryz.ntmps6
 go_upto_region 1 with (fail)
 generalize ((w.alloc (.cells #[.int .i64 x.kind, .int .u64 (x.v.a : Int), .int .u64 (x.v.b : Int), .int .u64 (x.v.c : Int), .slice x.A x.v.pre.length x.c, .slice x.B x.v.build.length x.d, .slice x.L x.n x.e] 28)).alloc (.cells #[.int .u64 (v.a : Int), .int .u64 (v.b : Int), .int .u64 (v.c : Int), .slice A v.pre.length c, .slice B v.build.length d] 25)) = W0 at HB0 HA0 HV0 ⊢
 obtain ⟨y1, y2, c0, c1, c2, c3, c4, c5, c6⟩ := HA0.out
 obtain ⟨v1, v2, g0, g1, g2, g3, g4⟩ := HV0.out
 go_wp2_with fail
 refine (awake_any _ (htab.kept HB0.out) (ht.keep (Keep.of_below HB0.out))).mono ?_
 rintro e W1 ⟨rfl, hb⟩
 clear y1 y2 c0 c1 c2 c3 c4 c5 c6 v1 v2 g0 g1 g2 g3 g4
 have HB1 := Lib.hid (HB0.out.trans (hb.mono HB0.out.size))
 have HA1 := Lib.hid (HA0.out.kept hb HA0.out.1)
 have HV1 := Lib.hid (HV0.out.kept hb HV0.out.1)
 clear HB0 HA0 HV0
 clear hb
 obtain ⟨y1, y2, c0, c1, c2, c3, c4, c5, c6⟩ := HA1.out
 obtain ⟨v1, v2, g0, g1, g2, g3, g4⟩ := HV1.out
 go_wp2_with fail
 refine (great_full (wt r) r x w.heap.size 20 W1 (Nat.le_refl _) lo (hx.keep (KeepS.of_below (S := LtB w.heap.size) HB1.out)) HB1.out.size).mono ?_
 rintro e W2 ⟨zi, rfl, hz, hb⟩
 have HZ := Lib.hid hz
 clear hz
 clear y1 y2 c0 c1 c2 c3 c4 c5 c6 v1 v2 g0 g1 g2 g3 g4
 have HB2 := Lib.hid (HB1.out.trans (hb.mono HB1.out.size))
 have HA2 := Lib.hid (HA1.out.kept hb HA1.out.1)
 have HV2 := Lib.hid (HV1.out.kept hb HV1.out.1)
 clear HB1 HA1 HV1
 clear hb
 obtain ⟨y1, y2, c0, c1, c2, c3, c4, c5, c6⟩ := HA2.out
 obtain ⟨v1, v2, g0, g1, g2, g3, g4⟩ := HV2.out
 by_cases hz : 20 < zi
 ·go_wp2
  go_ret
  exact ⟨rfl, HB2.out⟩
 have HZa := Lib.hid (HZ.out.small (by decide) hz)
 clear HZ
 by_cases hl1 : (20 : Int) < (v.pre.length : Int)
 ·go_wp2
  go_ret
  exact ⟨rfl, HB2.out⟩
 by_cases hl2 : (20 : Int) < (v.build.length : Int)
 ·go_wp2
  go_ret
  exact ⟨rfl, HB2.out⟩
 go_wp2_with fail
 refine (Range.goodIs_any r x w.heap.size W2 lo (hx.keep (KeepS.of_below (S := LtB w.heap.size) HB2.out)) HB2.out.size).mono ?_
 rintro e W3 ⟨rfl, hb⟩
 clear y1 y2 c0 c1 c2 c3 c4 c5 c6 v1 v2 g0 g1 g2 g3 g4
 have HB3 := Lib.hid (HB2.out.trans (hb.mono HB2.out.size))
 have HA3 := Lib.hid (HA2.out.kept hb HA2.out.1)
 have HV3 := Lib.hid (HV2.out.kept hb HV2.out.1)
 clear HB2 HA2 HV2
 clear hb
 obtain ⟨y1, y2, c0, c1, c2, c3, c4, c5, c6⟩ := HA3.out
 obtain ⟨v1, v2, g0, g1, g2, g3, g4⟩ := HV3.out
 cases hga : goodR r 0
 ·go_wp2
  go_ret
  exact ⟨rfl, HB3.out⟩
 go_upto_region 5 with (fail)
 have hta : tot r ≤ 20 := by have := HZa.out ⟨0, hga⟩; omega
 have hwa : wt r ≤ 20 := Nat.le_trans (wt_tot r) hta
 have HG := Lib.hid hga
 clear HZa hta hz hl1 hl2 hga
 go_wp2_with fail
 refine (simple_any r x w.heap.size W3 (hx.keep (KeepS.of_below (S := LtB w.heap.size) HB3.out)) HB3.out.size lo (fun _ => .inl (by omega))).mono ?_
 rintro e W4 ⟨y, s, rfl, hly, hb, hs⟩
 obtain ⟨o, ho, hlen, hso⟩ : ∃ o, SetOf r o ∧ o.length + 1 ≤ 3 * wt r ∧ s = plainR o := by
  rcases hs with ⟨_, h⟩ | ⟨h, _⟩
  ·exact h
  ·rw [HG.out] at h; cases h
 clear hs
 have hno : Span.Norm o := ho.1
 have hgs : goodR s 0 = true := by rw [hso]; exact plain_good hno
 have hws : wt s ≤ 179 := by rw [hso]; exact Nat.le_trans (plain_wt hno) (by omega)
 have hss : SetOf s o := by rw [hso]; exact plain_set hno
 have hol : o.length ≤ 74 := by omega
 have HSO := Lib.hid hso
 have HGS := Lib.hid hgs
 have HRS := Lib.hid ho
 have HSS := Lib.hid hss
 have HP := Lib.hid (Range.text_back hgs)
 have htl : (textR s).length ≤ 4475000 := by have := textR_len s 0 hgs; omega
 clear hso hgs ho hss hno hlen
 clear y1 y2 c0 c1 c2 c3 c4 c5 c6 v1 v2 g0 g1 g2 g3 g4
 have hba := hb.alloc hb.size (.cells #[.int .i64 y.kind, .int .u64 (y.v.a : Int), .int .u64 (y.v.b : Int), .int .u64 (y.v.c : Int), .slice y.A y.v.pre.length y.c, .slice y.B y.v.build.length y.d, .slice y.L y.n y.e] 28)
 have HB4 : Hid (Below w.heap.size w (W4.alloc (.cells #[.int .i64 y.kind, .int .u64 (y.v.a : Int), .int .u64 (y.v.b : Int), .int .u64 (y.v.c : Int), .slice y.A y.v.pre.length y.c, .slice y.B y.v.build.length y.d, .slice y.L y.n y.e] 28))) := HB3.out.trans (hba.mono HB3.out.size)
 have HA4 := Lib.hid (HA3.out.kept hba HA3.out.1)
 have HV4 := Lib.hid (HV3.out.kept hba HV3.out.1)
 have HY4 : Hid (RAt (W4.alloc (.cells #[.int .i64 y.kind, .int .u64 (y.v.a : Int), .int .u64 (y.v.b : Int), .int .u64 (y.v.c : Int), .slice y.A y.v.pre.length y.c, .slice y.B y.v.build.length y.d, .slice y.L y.n y.e] 28)) W4.heap.size y) := RAt.new W4 _ y
 have HLY : Hid (Range.Lies (W4.alloc (.cells #[.int .i64 y.kind, .int .u64 (y.v.a : Int), .int .u64 (y.v.b : Int), .int .u64 (y.v.c : Int), .slice y.A y.v.pre.length y.c, .slice y.B y.v.build.length y.d, .slice y.L y.n y.e] 28)) (LtB (W4.alloc (.cells #[.int .i64 y.kind, .int .u64 (y.v.a : Int), .int .u64 (y.v.b : Int), .int .u64 (y.v.c : Int), .slice y.A y.v.pre.length y.c, .slice y.B y.v.build.length y.d, .slice y.L y.n y.e] 28)).heap.size) s y) := (hly.keep (KeepS.alloc _ _)).mono fun _ _ h => h
 clear hb hba hly HB3 HA3 HV3
 unfold RV.agg
 go_upto_region 6 with (fail)
 obtain ⟨gy, hgy⟩ : ∃ g, W4.heap.size = g := ⟨_, rfl⟩
 generalize W4.alloc (.cells #[.int .i64 y.kind, .int .u64 (y.v.a : Int), .int .u64 (y.v.b : Int), .int .u64 (y.v.c : Int), .slice y.A y.v.pre.length y.c, .slice y.B y.v.build.length y.d, .slice y.L y.n y.e] 28) = V4 at HB4 HA4 HV4 HY4 HLY ⊢
 rw [hgy] at HY4 ⊢
 clear hgy
 obtain ⟨y1, y2, c0, c1, c2, c3, c4, c5, c6⟩ := HA4.out
 obtain ⟨v1, v2, g0, g1, g2, g3, g4⟩ := HV4.out
 obtain ⟨p1, p2, d0, d1, d2, d3, d4, d5, d6⟩ := HY4.out
 go_wp2_with fail
 refine (Range.text_any s y V4.heap.size V4 HLY.out (Nat.le_refl _) HGS.out (by omega) (by omega) (ht.keep (Keep.of_below HB4.out)) (htab.kept HB4.out)).mono ?_
 rintro e W5 ⟨rfl, hb⟩
 clear y1 y2 c0 c1 c2 c3 c4 c5 c6 v1 v2 g0 g1 g2 g3 g4 p1 p2 d0 d1 d2 d3 d4 d5 d6
 have HLY2 : Hid (Range.Lies W5 (LtB W5.heap.size) s y) := (HLY.out.keep (KeepS.of_below (S := LtB V4.heap.size) hb)).mono fun _ _ h => h
 clear HLY
 have HB5 := Lib.hid (HB4.out.trans (hb.mono HB4.out.size))
 have HA5 := Lib.hid (HA4.out.kept hb HA4.out.1)
 have HV5 := Lib.hid (HV4.out.kept hb HV4.out.1)
 have HY5 := Lib.hid (HY4.out.kept hb HY4.out.1)
 clear HB4 HA4 HV4 HY4
 clear hb
 obtain ⟨y1, y2, c0, c1, c2, c3, c4, c5, c6⟩ := HA5.out
 obtain ⟨v1, v2, g0, g1, g2, g3, g4⟩ := HV5.out
 obtain ⟨p1, p2, d0, d1, d2, d3, d4, d5, d6⟩ := HY5.out
 go_wp2_with fail
 refine (Range.read_any (mk (textR s)) W5 (by rw [mk_size]; omega) (ht.keep (Keep.of_below HB5.out))).mono ?_
 rw [show (mk (textR s)).data.toList = textR s from rfl, HP.out]
 rintro e W6 ⟨z, rfl, hly, hb⟩
 unfold RV.agg
 simp only at hly ⊢
 clear y1 y2 c0 c1 c2 c3 c4 c5 c6 v1 v2 g0 g1 g2 g3 g4 p1 p2 d0 d1 d2 d3 d4 d5 d6
 have hba2 := hb.alloc hb.size (.cells #[.int .i64 z.kind, .int .u64 (z.v.a : Int), .int .u64 (z.v.b : Int), .int .u64 (z.v.c : Int), .slice z.A z.v.pre.length z.c, .slice z.B z.v.build.length z.d, .slice z.L z.n z.e] 28)
 have HLY3 : Hid (Range.Lies (W6.alloc (.cells #[.int .i64 z.kind, .int .u64 (z.v.a : Int), .int .u64 (z.v.b : Int), .int .u64 (z.v.c : Int), .slice z.A z.v.pre.length z.c, .slice z.B z.v.build.length z.d, .slice z.L z.n z.e] 28)) (LtB (W6.alloc (.cells #[.int .i64 z.kind, .int .u64 (z.v.a : Int), .int .u64 (z.v.b : Int), .int .u64 (z.v.c : Int), .slice z.A z.v.pre.length z.c, .slice z.B z.v.build.length z.d, .slice z.L z.n z.e] 28)).heap.size) s y) := (HLY2.out.keep (KeepS.of_below (S := LtB W5.heap.size) hba2)).mono fun _ _ h => h
 clear HLY2 hba2
 have hba := hb.alloc hb.size (.cells #[.int .i64 z.kind, .int .u64 (z.v.a : Int), .int .u64 (z.v.b : Int), .int .u64 (z.v.c : Int), .slice z.A z.v.pre.length z.c, .slice z.B z.v.build.length z.d, .slice z.L z.n z.e] 28)
 have HB6 : Hid (Below w.heap.size w (W6.alloc (.cells #[.int .i64 z.kind, .int .u64 (z.v.a : Int), .int .u64 (z.v.b : Int), .int .u64 (z.v.c : Int), .slice z.A z.v.pre.length z.c, .slice z.B z.v.build.length z.d, .slice z.L z.n z.e] 28))) := HB5.out.trans (hba.mono HB5.out.size)
 have HA6 := Lib.hid (HA5.out.kept hba HA5.out.1)
 have HV6 := Lib.hid (HV5.out.kept hba HV5.out.1)
 have HY6 := Lib.hid (HY5.out.kept hba HY5.out.1)
 have HX6 : Hid (RAt (W6.alloc (.cells #[.int .i64 z.kind, .int .u64 (z.v.a : Int), .int .u64 (z.v.b : Int), .int .u64 (z.v.c : Int), .slice z.A z.v.pre.length z.c, .slice z.B z.v.build.length z.d, .slice z.L z.n z.e] 28)) W6.heap.size z) := RAt.new W6 _ z
 have HLX : Hid (Range.Lies (W6.alloc (.cells #[.int .i64 z.kind, .int .u64 (z.v.a : Int), .int .u64 (z.v.b : Int), .int .u64 (z.v.c : Int), .slice z.A z.v.pre.length z.c, .slice z.B z.v.build.length z.d, .slice z.L z.n z.e] 28)) (LtB (W6.alloc (.cells #[.int .i64 z.kind, .int .u64 (z.v.a : Int), .int .u64 (z.v.b : Int), .int .u64 (z.v.c : Int), .slice z.A z.v.pre.length z.c, .slice z.B z.v.build.length z.d, .slice z.L z.n z.e] 28)).heap.size) s z) := (hly.keep (KeepS.alloc _ _)).mono fun _ _ h => h
 clear hb hba hly HB5 HA5 HV5 HY5
 go_upto_region 7 with (fail)
 obtain ⟨gx, hgx⟩ : ∃ g, W6.heap.size = g := ⟨_, rfl⟩
 generalize W6.alloc (.cells #[.int .i64 z.kind, .int .u64 (z.v.a : Int), .int .u64 (z.v.b : Int), .int .u64 (z.v.c : Int), .slice z.A z.v.pre.length z.c, .slice z.B z.v.build.length z.d, .slice z.L z.n z.e] 28) = V6 at HB6 HA6 HV6 HY6 HX6 HLX HLY3 ⊢
 rw [hgx] at HX6 ⊢
 clear hgx
 replace HB6 : Hid (Below w.heap.size w V6.drew) := HB6.out.drew
 replace HA6 : Hid (RAt V6.drew w.heap.size x) := HA6.out
 replace HV6 : Hid (At5 V6.drew (w.heap.size + 1) (.int .u64 (v.a : Int)) (.int .u64 (v.b : Int)) (.int .u64 (v.c : Int)) (.slice A v.pre.length c) (.slice B v.build.length d)) := HV6.out
 replace HY6 : Hid (RAt V6.drew gy y) := HY6.out
 replace HX6 : Hid (RAt V6.drew gx z) := HX6.out
 replace HLX : Hid (Range.Lies V6.drew (LtB V6.drew.heap.size) s z) := HLX.out.keep (KeepS.of_below (S := LtB V6.heap.size) (Below.refl _ _).drew)
 replace HLY3 : Hid (Range.Lies V6.drew (LtB V6.drew.heap.size) s y) := HLY3.out.keep (KeepS.of_below (S := LtB V6.heap.size) (Below.refl _ _).drew)
 refine wp_region_held_drew (S := fun w' => RAt w' w.heap.size x ∧ At5 w' (w.heap.size + 1) (.int .u64 (v.a : Int)) (.int .u64 (v.b : Int)) (.int .u64 (v.c : Int)) (.slice A v.pre.length c) (.slice B v.build.length d) ∧ RAt w' gy y ∧ RAt w' gx z) (by kernel_rfl) ⟨HA6.out, HV6.out, HY6.out, HX6.out⟩ (fun hHeld => ?_)
 generalize V6.drew = V at HB6 HA6 HV6 HY6 HX6 HLX HLY3 hHeld ⊢
 refine tk 0 rfl (.agg #[.int .i64 y.kind, .int .u64 (y.v.a : Int), .int .u64 (y.v.b : Int), .int .u64 (y.v.c : Int), .slice y.A y.v.pre.length y.c, .slice y.B y.v.build.length y.d, .slice y.L y.n y.e]) ?_ fun w' hS' => by obtain ⟨p1, p2, d0, d1, d2, d3, d4, d5, d6⟩ := hS'.2.2.1; go_simp
 refine tk 2 rfl (.agg #[.int .i64 y.kind, .int .u64 (y.v.a : Int), .int .u64 (y.v.b : Int), .int .u64 (y.v.c : Int), .slice y.A y.v.pre.length y.c, .slice y.B y.v.build.length y.d, .slice y.L y.n y.e]) ?_ fun w' hS' => by obtain ⟨p1, p2, d0, d1, d2, d3, d4, d5, d6⟩ := hS'.2.2.1; go_simp
 refine cl 1 rfl fun K hK => ?_
 go_simp
 refine (simple_any s y V.heap.size _ HLY3.out (Nat.le_refl _) (LenOk.of_wt 179 _ hws (by decide)) (fun _ => .inr ⟨by omega, fun p hp => by rw [hp.one HSS.out]; exact hol⟩)).mono ?_
 rintro e wm1 ⟨y2, s2, rfl, hly, hb, hs⟩
 have hs2 : s2 = s := by
   rcases hs with ⟨_, p, hp, _, h⟩ | ⟨h, _⟩
   ·rw [h, hp.one HSS.out]; exact HSO.out.symm
   ·rw [HGS.out] at h; cases h
 subst hs2
 clear hs
 have HLZ : Hid (Range.Lies wm1 (LtB wm1.heap.size) s2 y2) := hly.mono fun _ _ h => h
 have HLY4 : Hid (Range.Lies wm1 (LtB wm1.heap.size) s2 y) := (HLY3.out.keep (KeepS.of_below (S := LtB V.heap.size) hb)).mono fun _ _ h => h
 have HLX4 : Hid (Range.Lies wm1 (LtB wm1.heap.size) s2 z) := (HLX.out.keep (KeepS.of_below (S := LtB V.heap.size) hb)).mono fun _ _ h => h
 unfold RV.agg
 clear hly HLX HLY3
 have HB7 := Lib.hid (HB6.out.trans (hb.mono HB6.out.size))
 have HA7 := Lib.hid (HA6.out.kept hb HA6.out.1)
 have HV7 := Lib.hid (HV6.out.kept hb HV6.out.1)
 have HY7 := Lib.hid (HY6.out.kept hb HY6.out.1)
 have HX7 := Lib.hid (HX6.out.kept hb HX6.out.1)
 clear HB6 HA6 HV6 HY6 HX6
 clear hb hHeld
 refine hK.out _ _ ⟨HA7.out, HV7.out, HY7.out, HX7.out⟩ (fun hHeld => ?_)
 clear hK K
 try simp only [Act.put, p1, p2, p3]
 refine cl 3 rfl fun K hK => ?_
 go_simp
 refine (Range.same_of s2 y2 y (LtB wm1.heap.size) _ HLZ.out HLY4.out (fun _ h => h) (by omega)).mono ?_
 rintro e wm2 ⟨rfl, hb⟩
 have HLY5 : Hid (Range.Lies wm2 (LtB wm2.heap.size) s2 y) := (HLY4.out.keep (KeepS.of_below (S := LtB wm1.heap.size) hb)).mono fun _ _ h => h
 have HLX5 : Hid (Range.Lies wm2 (LtB wm2.heap.size) s2 z) := (HLX4.out.keep (KeepS.of_below (S := LtB wm1.heap.size) hb)).mono fun _ _ h => h
 clear HLZ HLY4 HLX4
 have HB8 := Lib.hid (HB7.out.trans (hb.mono HB7.out.size))
 have HA8 := Lib.hid (HA7.out.kept hb HA7.out.1)
 have HV8 := Lib.hid (HV7.out.kept hb HV7.out.1)
 have HY8 := Lib.hid (HY7.out.kept hb HY7.out.1)
 have HX8 := Lib.hid (HX7.out.kept hb HX7.out.1)
 clear HB7 HA7 HV7 HY7 HX7
 clear hb hHeld
 refine hK.out _ _ ⟨HA8.out, HV8.out, HY8.out, HX8.out⟩ (fun hHeld => ?_)
 clear hK K
 try simp only [Act.put, p1, p2, p3]
 refine tk 4 rfl (.bool false) ?_
 refine tk 5 rfl (.bool false) ?_
 refine tk 6 rfl (.int .i64 0) ?_
 refine tk 7 rfl (.bool false) ?_
 refine tk 8 rfl (.bool false) ?_
 refine tk 9 rfl (.bool false) ?_
 refine tk 10 rfl (.agg #[.int .i64 z.kind, .int .u64 (z.v.a : Int), .int .u64 (z.v.b : Int), .int .u64 (z.v.c : Int), .slice z.A z.v.pre.length z.c, .slice z.B z.v.build.length z.d, .slice z.L z.n z.e]) ?_ fun w' hS' => by obtain ⟨q1, q2, f0, f1, f2, f3, f4, f5, f6⟩ := hS'.2.2.2; go_simp
 refine tk 11 rfl (.agg #[.int .i64 y.kind, .int .u64 (y.v.a : Int), .int .u64 (y.v.b : Int), .int .u64 (y.v.c : Int), .slice y.A y.v.pre.length y.c, .slice y.B y.v.build.length y.d, .slice y.L y.n y.e]) ?_ fun w' hS' => by obtain ⟨p1, p2, d0, d1, d2, d3, d4, d5, d6⟩ := hS'.2.2.1; go_simp
 refine cl 12 rfl fun K hK => ?_
 go_simp
 refine (Range.same_of s2 z y (LtB wm2.heap.size) _ HLX5.out HLY5.out (fun _ h => h) (by omega)).mono ?_
 rintro e wm3 ⟨rfl, hb⟩
 have HLY6 : Hid (Range.Lies wm3 (LtB wm3.heap.size) s2 y) := (HLY5.out.keep (KeepS.of_below (S := LtB wm2.heap.size) hb)).mono fun _ _ h => h
 clear HLY5 HLX5
 have HB9 := Lib.hid (HB8.out.trans (hb.mono HB8.out.size))
 have HA9 := Lib.hid (HA8.out.kept hb HA8.out.1)
 have HV9 := Lib.hid (HV8.out.kept hb HV8.out.1)
 have HY9 := Lib.hid (HY8.out.kept hb HY8.out.1)
 have HX9 := Lib.hid (HX8.out.kept hb HX8.out.1)
 clear HB8 HA8 HV8 HY8 HX8
 clear hb hHeld
 refine hK.out _ _ ⟨HA9.out, HV9.out, HY9.out, HX9.out⟩ (fun hHeld => ?_)
 clear hK K
 try simp only [Act.put, p1, p2, p3]
 refine tk 13 rfl (.bool false) ?_
 refine tk 14 rfl (.bool false) ?_
 refine wpAnyH_done (by kernel_rfl) ?_ _
 obtain ⟨y1, y2, c0, c1, c2, c3, c4, c5, c6⟩ := HA9.out
 obtain ⟨v1, v2, g0, g1, g2, g3, g4⟩ := HV9.out
 obtain ⟨p1, p2, d0, d1, d2, d3, d4, d5, d6⟩ := HY9.out
 obtain ⟨q1, q2, f0, f1, f2, f3, f4, f5, f6⟩ := HX9.out
 go_upto_region 9 with (fail)
 clear y1 y2 c0 c1 c2 c3 c4 c5 c6 v1 v2 g0 g1 g2 g3 g4 p1 p2 d0 d1 d2 d3 d4 d5 d6 q1 q2 f0 f1 f2 f3 f4 f5 f6
 replace HB9 : Hid (Below w.heap.size w wm3.drew) := HB9.out.drew
 replace HA9 : Hid (RAt wm3.drew w.heap.size x) := HA9.out
 replace HV9 : Hid (At5 wm3.drew (w.heap.size + 1) (.int .u64 (v.a : Int)) (.int .u64 (v.b : Int)) (.int .u64 (v.c : Int)) (.slice A v.pre.length c) (.slice B v.build.length d)) := HV9.out
 replace HY9 : Hid (RAt wm3.drew gy y) := HY9.out
 replace HX9 : Hid (RAt wm3.drew gx z) := HX9.out
 replace HLY6 : Hid (Range.Lies wm3.drew (LtB wm3.drew.heap.size) s2 y) := HLY6.out.keep (KeepS.of_below (S := LtB wm3.heap.size) (Below.refl _ _).drew)
 cases hgv : goodV v with
 | true =>
  have HFr := Lib.hid (hasR_good HG.out hgv)
  have HFs : Hid (hasR s2 v = inV r v) := (hasR_good HGS.out hgv).trans (again_has HRS.out HSS.out HG.out HGS.out hgv)
  generalize inV r v = X at HFr HFs
  refine wp_region_held_drew (S := fun w' => RAt w' w.heap.size x ∧ At5 w' (w.heap.size + 1) (.int .u64 (v.a : Int)) (.int .u64 (v.b : Int)) (.int .u64 (v.c : Int)) (.slice A v.pre.length c) (.slice B v.build.length d) ∧ RAt w' gy y ∧ RAt w' gx z) (by kernel_rfl) ⟨HA9.out, HV9.out, HY9.out, HX9.out⟩ (fun hHeld => ?_)
  generalize wm3.drew = V2 at HB9 HA9 HV9 HY9 HX9 HLY6 hHeld ⊢
  refine tk 0 rfl (.agg #[.int .u64 (v.a : Int), .int .u64 (v.b : Int), .int .u64 (v.c : Int), .slice A v.pre.length c, .slice B v.build.length d]) ?_ fun w' hS' => by obtain ⟨v1, v2, g0, g1, g2, g3, g4⟩ := hS'.2.1; go_simp
  refine cl 1 rfl fun K hK => ?_
  go_simp
  refine (refGood_all v A c B d _ (hr1.kept HB9.out) (hr2.kept HB9.out) hf.1 hf.2.1 hf.2.2.1 hf.2.2.2).mono ?_
  rintro e wn1 ⟨rfl, hb⟩
  rw [hgv]
  have HLY7 : Hid (Range.Lies wn1 (LtB wn1.heap.size) s2 y) := (HLY6.out.keep (KeepS.of_below (S := LtB V2.heap.size) hb)).mono fun _ _ h => h
  clear HLY6
  have HB10 := Lib.hid (HB9.out.trans (hb.mono HB9.out.size))
  have HA10 := Lib.hid (HA9.out.kept hb HA9.out.1)
  have HV10 := Lib.hid (HV9.out.kept hb HV9.out.1)
  have HY10 := Lib.hid (HY9.out.kept hb HY9.out.1)
  have HX10 := Lib.hid (HX9.out.kept hb HX9.out.1)
  clear HB9 HA9 HV9 HY9 HX9
  clear hb hHeld
  refine hK.out _ _ ⟨HA10.out, HV10.out, HY10.out, HX10.out⟩ (fun hHeld => ?_)
  clear hK K
  try simp only [Act.put, p1, p2, p3]
  refine tk 2 rfl (.bool false) ?_
  refine tk 3 rfl (.bool false) ?_
  refine tk 4 rfl (.agg #[.int .i64 y.kind, .int .u64 (y.v.a : Int), .int .u64 (y.v.b : Int), .int .u64 (y.v.c : Int), .slice y.A y.v.pre.length y.c, .slice y.B y.v.build.length y.d, .slice y.L y.n y.e]) ?_ fun w' hS' => by obtain ⟨p1, p2, d0, d1, d2, d3, d4, d5, d6⟩ := hS'.2.2.1; go_simp
  refine tk 5 rfl (.agg #[.int .u64 (v.a : Int), .int .u64 (v.b : Int), .int .u64 (v.c : Int), .slice A v.pre.length c, .slice B v.build.length d]) ?_ fun w' hS' => by obtain ⟨v1, v2, g0, g1, g2, g3, g4⟩ := hS'.2.1; go_simp
  refine tk 7 rfl (.agg #[.int .i64 x.kind, .int .u64 (x.v.a : Int), .int .u64 (x.v.b : Int), .int .u64 (x.v.c : Int), .slice x.A x.v.pre.length x.c, .slice x.B x.v.build.length x.d, .slice x.L x.n x.e]) ?_ fun w' hS' => by obtain ⟨y1, y2, c0, c1, c2, c3, c4, c5, c6⟩ := hS'.1; go_simp
  refine tk 8 rfl (.agg #[.int .u64 (v.a : Int), .int .u64 (v.b : Int), .int .u64 (v.c : Int), .slice A v.pre.length c, .slice B v.build.length d]) ?_ fun w' hS' => by obtain ⟨v1, v2, g0, g1, g2, g3, g4⟩ := hS'.2.1; go_simp
  refine cl 6 rfl fun K hK => ?_
  go_simp
  refine (has_norm s2 y wn1.heap.size v A c B d _ HLY7.out (Nat.le_refl _) (LenOk.of_wt 179 _ hws (by decide)) (fun _ => by omega) (hr1.kept HB10.out) (hr2.kept HB10.out) hf).mono ?_
  rintro e wn2 ⟨rfl, hb⟩
  rw [HFs.out]
  clear HLY7
  have HB11 := Lib.hid (HB10.out.trans (hb.mono HB10.out.size))
  have HA11 := Lib.hid (HA10.out.kept hb HA10.out.1)
  have HV11 := Lib.hid (HV10.out.kept hb HV10.out.1)
  have HY11 := Lib.hid (HY10.out.kept hb HY10.out.1)
  have HX11 := Lib.hid (HX10.out.kept hb HX10.out.1)
  clear HB10 HA10 HV10 HY10 HX10
  clear hb hHeld
  refine hK.out _ _ ⟨HA11.out, HV11.out, HY11.out, HX11.out⟩ (fun hHeld => ?_)
  clear hK K
  try simp only [Act.put, p1, p2, p3]
  refine cl 9 rfl fun K hK => ?_
  go_simp
  refine (has_norm r x w.heap.size v A c B d _ (hx.keep (KeepS.of_below (S := LtB w.heap.size) HB11.out)) HB11.out.size lo (fun _ => by omega) (hr1.kept HB11.out) (hr2.kept HB11.out) hf).mono ?_
  rintro e wn3 ⟨rfl, hb⟩
  rw [HFr.out]
  have HB12 := Lib.hid (HB11.out.trans (hb.mono HB11.out.size))
  have HA12 := Lib.hid (HA11.out.kept hb HA11.out.1)
  have HV12 := Lib.hid (HV11.out.kept hb HV11.out.1)
  have HY12 := Lib.hid (HY11.out.kept hb HY11.out.1)
  have HX12 := Lib.hid (HX11.out.kept hb HX11.out.1)
  clear HB11 HA11 HV11 HY11 HX11
  clear hb hHeld
  refine hK.out _ _ ⟨HA12.out, HV12.out, HY12.out, HX12.out⟩ (fun hHeld => ?_)
  clear hK K
  try simp only [Act.put, p1, p2, p3]
  refine tk 10 rfl (.bool true) ?_ fun w' hS' => by cases X <;> go_simp
  refine tk 11 rfl (.bool true) ?_
  refine tk 12 rfl (.bool true) ?_
  refine wpAnyH_done (by kernel_rfl) ?_ _
  go_wp2
  go_ret
  exact ⟨rfl, HB12.out⟩
 | false =>
  refine wp_region_held_drew (S := fun w' => RAt w' w.heap.size x ∧ At5 w' (w.heap.size + 1) (.int .u64 (v.a : Int)) (.int .u64 (v.b : Int)) (.int .u64 (v.c : Int)) (.slice A v.pre.length c) (.slice B v.build.length d) ∧ RAt w' gy y ∧ RAt w' gx z) (by kernel_rfl) ⟨HA9.out, HV9.out, HY9.out, HX9.out⟩ (fun hHeld => ?_)
  generalize wm3.drew = V2 at HB9 HA9 HV9 HY9 HX9 HLY6 hHeld ⊢
  refine tk 0 rfl (.agg #[.int .u64 (v.a : Int), .int .u64 (v.b : Int), .int .u64 (v.c : Int), .slice A v.pre.length c, .slice B v.build.length d]) ?_ fun w' hS' => by obtain ⟨v1, v2, g0, g1, g2, g3, g4⟩ := hS'.2.1; go_simp
  refine cl 1 rfl fun K hK => ?_
  go_simp
  refine (refGood_all v A c B d _ (hr1.kept HB9.out) (hr2.kept HB9.out) hf.1 hf.2.1 hf.2.2.1 hf.2.2.2).mono ?_
  rintro e wn1 ⟨rfl, hb⟩
  rw [hgv]
  have HLY7 : Hid (Range.Lies wn1 (LtB wn1.heap.size) s2 y) := (HLY6.out.keep (KeepS.of_below (S := LtB V2.heap.size) hb)).mono fun _ _ h => h
  clear HLY6
  have HB10 := Lib.hid (HB9.out.trans (hb.mono HB9.out.size))
  have HA10 := Lib.hid (HA9.out.kept hb HA9.out.1)
  have HV10 := Lib.hid (HV9.out.kept hb HV9.out.1)
  have HY10 := Lib.hid (HY9.out.kept hb HY9.out.1)
  have HX10 := Lib.hid (HX9.out.kept hb HX9.out.1)
  clear HB9 HA9 HV9 HY9 HX9
  clear hb hHeld
  refine hK.out _ _ ⟨HA10.out, HV10.out, HY10.out, HX10.out⟩ (fun hHeld => ?_)
  clear hK K
  try simp only [Act.put, p1, p2, p3]
  refine tk 2 rfl (.bool true) ?_
  refine tk 3 rfl (.bool true) ?_
  refine sk 4 rfl ?_
  refine sk 5 rfl ?_
  refine sk 6 rfl ?_
  refine sk 7 rfl ?_
  refine sk 8 rfl ?_
  refine sk 9 rfl ?_
  refine sk 10 rfl ?_
  refine tk 11 rfl (.bool true) ?_
  refine tk 12 rfl (.bool true) ?_
  refine wpAnyH_done (by kernel_rfl) ?_ _
  go_wp2
  go_ret
  exact ⟨rfl, HB10.out⟩
end Go.Proofs.YtgfbflnhjpbceaaGreatDoor.Nrm
namespace Go.Proofs.YtgfbflnhjpbceaaGreatDoor.Came
open Go.ChangeShapes Go.WideShapes Go.RowKit


theorem texts_at {H : Type} {enc : TypeId × Value → H} {W : World} {fuel : Nat} {cs : List Value} {y : DataW H × List MemPlace}
  (hf : DataW.trod enc Tryz.prog W 0 (fun _ => true) true fuel 23 cs = some y) :
  ∃ (a : Option Addr) (len cap : Nat) (xs : List (List UInt8)), cs = [.slice a len cap] ∧ Ident.SRow W a len xs ∧ len ≤ cap ∧ cap ≤ maxLen ∧ (a = none → cap = 0) ∧ ∀ x ∈ xs, x.length ≤ maxLen := by
 rcases open_strings Tryz.underlying23 Tryz.underlying9 (by kernel_rfl) hf with ⟨hcs, _⟩ | ⟨x, len, cap, ss, hcs, _, hl, hm, hz, _, hcell, hsz⟩
 ·exact ⟨none, 0, 0, [], hcs, Ident.SRow.none_ _ _, Nat.le_refl _, by unfold maxLen; omega, fun _ => rfl, fun x hx => by cases hx⟩
 ·have hz : ss.length = cap := by simpa using hz
  refine ⟨some x, len, cap, (ss.take len).map fun s => s.data.toList, hcs, ⟨by simp; omega, fun h0 => ?_⟩, hl, hm, (fun e => by cases e), fun y hy => ?_⟩
  ·obtain ⟨b, o, spot⟩ := x
   have h0c := hcell 0 (by omega)
   have hspot : spot = none := by simpa [Addr.add] using World.cell?_spot h0c
   subst hspot
   refine ⟨b, o, rfl, ?_, fun j hj => ?_⟩
   ·have := World.block_lt_of_cell? W _ h0c
    rwa [Num.add_none] at this
   ·have hj2 : j < ss.length := by omega
    have e := hcell j hj2
    rw [Num.add_none] at e
    rw [e]
    simp [hj, List.getElem?_eq_getElem hj2, Ident.mk]
  ·simp only [List.mem_map] at hy
   obtain ⟨s, hs, rfl⟩ := hy
   rw [← Lib.size_eq]
   exact hsz s (List.mem_of_mem_take hs)
end Go.Proofs.YtgfbflnhjpbceaaGreatDoor.Came
namespace Go.Proofs.YtgfbflnhjpbceaaGreatDoor.Range
open Go.Lib Num Ident
variable {H : Type}
theorem cells_of_strs {enc : TypeId × Value → H} {P : Program} {w : World} {base : Nat} {sp : Nat → Bool} {held : Bool} {fuel : Nat} {t e : TypeId} {n : Nat} {cs : List Value} {bs : List (List UInt8)} {p : List MemPlace}
  (ht : P.underlying t = some (.array n e)) (he : P.underlying e = some .string) (hce : P.cellsOf e = 1) (hct : P.cellsOf t = n)
  (h : DataW.trod enc P w base sp held fuel t cs = some (.agg (bs.map fun b => .lit (.string b)), p)) : cs = bs.map fun b => Value.string (mk b) := by
 cases fuel with
 | zero => simp [DataW.trod] at h
 | succ fuel =>
  simp only [DataW.trod, ht, hce, hct, Nat.mul_one] at h
  split at h
  ·rename_i hl
   obtain ⟨xs, hm, hx⟩ := Option.map_eq_some_iff.1 h
   have hxs : xs.map (·.1) = bs.map fun b => (DataW.lit (.string b) : DataW H) := by
    have := congrArg Prod.fst hx
    simpa using this
   have hxl : xs.length = n := by simpa using mapM_length hm
   have hzl : bs.length = n := by
    have := congrArg List.length hxs
    simp at this
    omega
   apply List.ext_getElem?
   intro i
   by_cases hi : i < n
   ·obtain ⟨b, hb, hf⟩ := mapM_at hm i i (by simp [hi])
    obtain ⟨s, hc, rfl, _⟩ := DataW.trod_string he hf
    have h1 : cs[i]? = some (.string s) := by
     have := congrArg (·[0]?) hc
     simpa [List.getElem?_take, List.getElem?_drop] using this
    have h2 : (xs.map (·.1))[i]? = some (DataW.lit (.string s.data.toList) : DataW H) := by simp [hb]
    rw [hxs] at h2
    simp only [List.getElem?_map, Option.map_eq_some_iff, DataW.lit.injEq, Lit.string.injEq] at h2
    obtain ⟨z', hz', e2⟩ := h2
    simp only [List.getElem?_map, hz', Option.map_some, h1, e2]
    rfl
   ·rw [List.getElem?_eq_none (by omega), List.getElem?_eq_none (by simp; omega)]
  ·cases h

theorem opsTab_of_head {W : World} {rest : List (String × DataW Unit)} {g : Nat} {t e : TypeId}
  (hg : Tryz.prog.globalNamed "ferrule/rangeexpr.ops" = some g) (hgn : g = 0) (hty : (Tryz.prog.globals[g]?).map (·.type) = some t) (ht : Tryz.prog.underlying t = some (.array 8 e)) (he : Tryz.prog.underlying e = some .string) (hce : Tryz.prog.cellsOf e = 1) (hct : Tryz.prog.cellsOf t = 8)
  (h : laidMet Tryz.prog (("ferrule/rangeexpr.ops", .agg (ops.map fun b => .lit (.string b))) :: rest) W) : OpsTab W := by
 obtain ⟨ps, ⟨g', t', cs, fuel, p, q, hg', ht', hvar, hd, _, _⟩, _⟩ := h
 obtain rfl := Option.some.inj (hg.symm.trans hg')
 obtain rfl := Option.some.inj (hty.symm.trans ht')
 have hc := cells_of_strs ht he hce hct hd
 intro i hi
 have := World.var?_cell hg hvar i
 subst hgn
 rw [this, ← Array.getElem?_toList, hc, List.getElem?_map]
 rw [List.getElem?_eq_getElem (show i < ops.length from hi)]
 simp [List.getD, List.getElem?_eq_getElem (show i < ops.length from hi)]
end Go.Proofs.YtgfbflnhjpbceaaGreatDoor.Range
namespace Go.Proofs.YtgfbflnhjpbceaaGreatDoor.Came
open Go.ChangeShapes Go.WideShapes Go.RowKit Go.Deep


theorem field_read {H : Type} {enc : TypeId × Value → H} {W : World} {n : Nat} {z : Value} {y : DataW H × List MemPlace} (h : DataW.trod enc Tryz.prog W 0 (fun _ => true) true n 22 [z] = some y) : ∃ a : Nat, z = .int .u64 (a : Int) ∧ a < 18446744073709551616 := by
 obtain ⟨m, hm, _, hw⟩ := DataW.trod_int Tryz.underlying22 h
 have hb : 0 ≤ m ∧ m ≤ 18446744073709551615 := by simpa [Lit.wf, IntKind.min, IntKind.max, IntKind.signed, IntKind.bits] using hw
 obtain ⟨a, rfl⟩ := Int.eq_ofNat_of_zero_le hb.1
 simp at hm
 exact ⟨a, hm, by omega⟩

end Go.Proofs.YtgfbflnhjpbceaaGreatDoor.Came
namespace Go.Proofs.YtgfbflnhjpbceaaGreatDoor.Came
open Go.ChangeShapes Go.WideShapes Go.RowKit Go.Deep

theorem ver_at {H : Type} {enc : TypeId × Value → H} {W : World} {fuel : Nat} {l : List Value} {y : DataW H × List MemPlace} (hf : DataW.trod enc Tryz.prog W 0 (fun _ => true) true fuel 25 l = some y) :
  ∃ (v : Semver.Ver) (A : Option Addr) (c : Nat) (B : Option Addr) (d : Nat), l = [.int .u64 (v.a : Int), .int .u64 (v.b : Int), .int .u64 (v.c : Int), .slice A v.pre.length c, .slice B v.build.length d] ∧ Ident.SRow W A v.pre.length v.pre ∧ Ident.SRow W B v.build.length v.build ∧ Prec.Fit v.pre ∧ Prec.Fit v.build ∧ (A = none → c = 0) := by
 have hC : Tryz.prog.cellsOf 25 = 5 := by kernel_rfl
 have cu : Tryz.prog.cellsOf 22 = 1 := by kernel_rfl
 have ct : Tryz.prog.cellsOf 23 = 1 := by kernel_rfl
 obtain ⟨xs, n, _, _, hsz, hlen, hg⟩ := DataW.trod_struct Tryz.underlying25 hf
 have hl : xs.length = 5 := hlen
 rw [hC] at hsz
 match l, hsz with
 | [z0, z1, z2, z3, z4], _ =>
  match xs, hl with
  | [y0, y1, y2, y3, y4], _ =>
   have f0 : DataW.trod enc Tryz.prog W 0 (fun _ => true) true n 22 (([z0, z1, z2, z3, z4].drop 0).take (Tryz.prog.cellsOf 22)) = some y0 := hg 0 _ rfl
   rw [cu] at f0
   have g0 : DataW.trod enc Tryz.prog W 0 (fun _ => true) true n 22 [z0] = some y0 := f0
   have f1 : DataW.trod enc Tryz.prog W 0 (fun _ => true) true n 22 (([z0, z1, z2, z3, z4].drop 1).take (Tryz.prog.cellsOf 22)) = some y1 := hg 1 _ rfl
   rw [cu] at f1
   have g1 : DataW.trod enc Tryz.prog W 0 (fun _ => true) true n 22 [z1] = some y1 := f1
   have f2 : DataW.trod enc Tryz.prog W 0 (fun _ => true) true n 22 (([z0, z1, z2, z3, z4].drop 2).take (Tryz.prog.cellsOf 22)) = some y2 := hg 2 _ rfl
   rw [cu] at f2
   have g2 : DataW.trod enc Tryz.prog W 0 (fun _ => true) true n 22 [z2] = some y2 := f2
   have f3 : DataW.trod enc Tryz.prog W 0 (fun _ => true) true n 23 (([z0, z1, z2, z3, z4].drop 3).take (Tryz.prog.cellsOf 23)) = some y3 := hg 3 _ rfl
   rw [ct] at f3
   have g3 : DataW.trod enc Tryz.prog W 0 (fun _ => true) true n 23 [z3] = some y3 := f3
   have f4 : DataW.trod enc Tryz.prog W 0 (fun _ => true) true n 23 (([z0, z1, z2, z3, z4].drop 4).take (Tryz.prog.cellsOf 23)) = some y4 := hg 4 _ rfl
   rw [ct] at f4
   have g4 : DataW.trod enc Tryz.prog W 0 (fun _ => true) true n 23 [z4] = some y4 := f4
   clear f0 f1 f2 f3 f4 hg
   obtain ⟨a, rfl, _⟩ := field_read g0
   obtain ⟨b, rfl, _⟩ := field_read g1
   obtain ⟨c, rfl, _⟩ := field_read g2
   obtain ⟨A, m1, c1, p, e1, r1, q1, k1, u1, s1⟩ := texts_at g3
   obtain ⟨B, m2, c2, t, e2, r2, q2, k2, _, s2⟩ := texts_at g4
   simp at e1 e2
   subst e1
   subst e2
   obtain rfl := r1.1
   obtain rfl := r2.1
   exact ⟨⟨a, b, c, p, t⟩, A, c1, B, c2, rfl, r1, r2, ⟨Nat.le_trans q1 k1, s1⟩, ⟨Nat.le_trans q2 k2, s2⟩, u1⟩
theorem versionF {H : Type} {enc : TypeId × Value → H} {W : World} {r : Reach} {b0 : Nat} {x : Value} {d : DataW H} {ps : List MemPlace} (hv : Value.okWide Tryz.prog W r b0 25 x)
  (h : DataW.Trod enc Tryz.prog W 0 (fun _ => true) true 25 x d ps) :
  ∃ (v : Semver.Ver) (A : Option Addr) (c : Nat) (B : Option Addr) (d : Nat), x = .agg #[.int .u64 (v.a : Int), .int .u64 (v.b : Int), .int .u64 (v.c : Int), .slice A v.pre.length c, .slice B v.build.length d] ∧ Ident.SRow W A v.pre.length v.pre ∧ Ident.SRow W B v.build.length v.build ∧ Prec.Fit v.pre ∧ Prec.Fit v.build ∧ (A = none → c = 0) := by
 obtain ⟨cs, rfl, _⟩ := okWide_struct Tryz.underlying25 hv
 obtain ⟨fuel, hf⟩ := h
 obtain ⟨l⟩ := cs
 obtain ⟨v, A, c, B, d, e, h1⟩ := ver_at (l := l) hf
 exact ⟨v, A, c, B, d, by rw [e], h1⟩
theorem kind_read {H : Type} {enc : TypeId × Value → H} {W : World} {n : Nat} {z : Value} {y : DataW H × List MemPlace} (h : DataW.trod enc Tryz.prog W 0 (fun _ => true) true n 3 [z] = some y) : ∃ k : Int, z = .int .i64 k := by
 obtain ⟨m, hm, _, _⟩ := DataW.trod_int Tryz.underlying3 h
 simp at hm
 exact ⟨m, hm⟩
theorem list_of {α : Type} [Inhabited α] {P : Nat → α → Prop} : ∀ (n : Nat), (∀ i, i < n → ∃ x, P i x) → ∃ l : List α, l.length = n ∧ ∀ i, i < n → P i (l.getD i default)
 | 0, _ => ⟨[], rfl, fun i hi => by omega⟩
 | n + 1, h => by
  obtain ⟨l, hl, hp⟩ := list_of n fun i hi => h i (by omega)
  obtain ⟨x, hx⟩ := h n (by omega)
  refine ⟨l ++ [x], by simp [hl], fun i hi => ?_⟩
  rcases Nat.lt_or_ge i n with h1 | h1
  ·have e : (l ++ [x]).getD i default = l.getD i default := by simp [List.getD, List.getElem?_append_left (show i < l.length by omega)]
   rw [e]; exact hp i h1
  ·obtain rfl : i = n := by omega
   have e : (l ++ [x]).getD i default = x := by simp [List.getD, ← hl]
   rw [e]; exact hx
end Go.Proofs.YtgfbflnhjpbceaaGreatDoor.Came
