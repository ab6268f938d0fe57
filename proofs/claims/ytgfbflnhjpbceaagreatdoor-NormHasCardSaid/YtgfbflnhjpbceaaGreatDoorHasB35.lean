/-
  What the theorem of the last text needs of these: NmAwake, NmHasWalk, Came, RgTab, SvCame, SpCame, RgCame. Conditions: as each theorem states.
-/
import Derived.Test.YtgfbflnhjpbceaaGreatDoorHasB1
import Derived.Test.YtgfbflnhjpbceaaGreatDoorHasB2
import Derived.Test.YtgfbflnhjpbceaaGreatDoorHasB8
import Derived.Test.YtgfbflnhjpbceaaGreatDoorHasB16
import Derived.Test.YtgfbflnhjpbceaaGreatDoorHasB18
import Derived.Test.YtgfbflnhjpbceaaGreatDoorHasB27
import Derived.Test.YtgfbflnhjpbceaaGreatDoorHasB30
import Derived.Test.YtgfbflnhjpbceaaGreatDoorHasB34
import Derived.Deep.QuietTactic
import Derived.BigQuiet
import Derived.ProofKit
import Derived.OpenShut
import Derived.SliceStrings
import Derived.Lib.LaidTab
import Derived.Deep.Fields
import Derived.Deep.Slices
import Derived.ChangeSame
set_option maxRecDepth 100000
set_option maxHeartbeats 25600000
namespace Go.Proofs.YtgfbflnhjpbceaaGreatDoor.Nrm
open Go.RowKit Num Ident Semver Prec Span
open Range (Rng noRng goodR goodL fits wt wtL RV RAt OpsTab Keep KeepS LtB zeroRV)
theorem awake_any (w : World) (htab : Tab w) (ht : OpsTab w) :
  Calls Tryz.prog 8 #[] w fun e w' => e = .returned (.bool true) ∧ Below w.heap.size w w' := by
 have HT := Lib.hid ht
 have HTab := Lib.hid htab
 clear ht htab
 have HK := Lib.hid exA_read
 go_enter Tryz.func8, Tryz.ntmps8
 go_wp2_with fail
 refine (Range.read_any ⟨#[94, 49, 46, 50, 46, 48, 44, 32, 33, 61, 49, 46, 51, 46, 48]⟩ _ (by decide) HT.out).mono ?_
 rw [show (⟨#[94, 49, 46, 50, 46, 48, 44, 32, 33, 61, 49, 46, 51, 46, 48]⟩ : ByteArray).data.toList = exA from rfl, HK.out]
 generalize hr : rA = r
 rintro e V1 ⟨x, rfl, lx, hb⟩
 unfold RV.agg
 simp only at lx ⊢
 have HB2 : Hid (Below w.heap.size w (V1.alloc (.cells #[.int .i64 x.kind, .int .u64 (x.v.a : Int), .int .u64 (x.v.b : Int), .int .u64 (x.v.c : Int), .slice x.A x.v.pre.length x.c, .slice x.B x.v.build.length x.d, .slice x.L x.n x.e] 28))) := hb.alloc hb.size _
 have HX2 : Hid (Range.Lies (V1.alloc (.cells #[.int .i64 x.kind, .int .u64 (x.v.a : Int), .int .u64 (x.v.b : Int), .int .u64 (x.v.c : Int), .slice x.A x.v.pre.length x.c, .slice x.B x.v.build.length x.d, .slice x.L x.n x.e] 28)) (LtB (V1.alloc (.cells #[.int .i64 x.kind, .int .u64 (x.v.a : Int), .int .u64 (x.v.b : Int), .int .u64 (x.v.c : Int), .slice x.A x.v.pre.length x.c, .slice x.B x.v.build.length x.d, .slice x.L x.n x.e] 28)).heap.size) r x) := (lx.keep (KeepS.alloc _ _)).mono fun _ _ h => h
 have HR2 : Hid (RAt (V1.alloc (.cells #[.int .i64 x.kind, .int .u64 (x.v.a : Int), .int .u64 (x.v.b : Int), .int .u64 (x.v.c : Int), .slice x.A x.v.pre.length x.c, .slice x.B x.v.build.length x.d, .slice x.L x.n x.e] 28)) V1.heap.size x) := RAt.new V1 _ x
 clear hb lx
 go_upto_region 2 with (fail)
 generalize V1.alloc (.cells #[.int .i64 x.kind, .int .u64 (x.v.a : Int), .int .u64 (x.v.b : Int), .int .u64 (x.v.c : Int), .slice x.A x.v.pre.length x.c, .slice x.B x.v.build.length x.d, .slice x.L x.n x.e] 28) = V2 at HB2 HX2 HR2 ⊢
 obtain ⟨y1, y2, c0, c1, c2, c3, c4, c5, c6⟩ := HR2.out
 go_wp2_with fail
 refine (simple_any r x V2.heap.size V2 HX2.out (Nat.le_refl _) (by rw [← hr]; exact Range.LenOk.of_wt 3 _ (by decide) (by decide)) (fun _ => .inl (by rw [← hr]; decide))).mono ?_
 rintro e V3 ⟨y, s, rfl, ly, hb, hs⟩
 have HS : Hid (s = plainR oA) := by
  refine Lib.hid ?_
  rcases hs with ⟨hg, o, ho, _, he⟩ | ⟨hg, _⟩
  ·rw [he]
   rw [← hr] at ho
   rw [ho.one oA_set]
  ·rw [← hr, rA_good] at hg; cases hg
 have HB3 := Lib.hid (HB2.out.trans (hb.mono HB2.out.size))
 have HY3 : Hid (Range.Lies V3 (LtB V3.heap.size) s y) := ly.mono fun _ _ h => h
 clear hb ly hs HX2 HR2 HB2 y1 y2 c0 c1 c2 c3 c4 c5 c6
 have hs := HS.out
 subst hs
 unfold RV.agg
 go_wp2_with fail
 refine (Range.text_any (plainR oA) y V3.heap.size V3 HY3.out (Nat.le_refl _) (plain_good oA_norm) (by decide) (by rw [oA_text]; decide) (HT.out.keep (Keep.of_below HB3.out)) (HTab.out.kept HB3.out)).mono ?_
 rw [oA_text]
 rintro e V4 ⟨rfl, hb⟩
 have HB4 := Lib.hid (HB3.out.trans (hb.mono HB3.out.size))
 clear hb
 have hq : ((mk exT).toList == [62, 61, 49, 46, 50, 46, 48, 44, 32, 60, 50, 46, 48, 46, 48, 45, 48, 44, 32, 33, 61, 49, 46, 51, 46, 48]) = true := by rw [Lib.toList_data]; decide
 go_wp2
 go_ret
 exact ⟨rfl, HB4.out⟩
end Go.Proofs.YtgfbflnhjpbceaaGreatDoor.Nrm
namespace Go.Proofs.YtgfbflnhjpbceaaGreatDoor.Nrm
open Go.RowKit Num Ident Semver Prec Span
open Range (Rng noRng goodR goodL fits wt wtL RV RAt OpsTab Keep KeepS LtB zeroRV LenOk)
theorem normHas_any (r : Rng) (x : RV) (v : Ver) (A : Option Addr) (c : Nat) (E : Option Addr) (d : Nat) (w : World) (hx : Range.Lies w (LtB w.heap.size) r x) (lo : LenOk r) (s1 : SRow w A v.pre.length v.pre) (s2 : SRow w E v.build.length v.build) (hf : v.pre.length ≤ maxLen ∧ v.build.length ≤ maxLen ∧ (∀ x ∈ v.pre, x.length ≤ maxLen) ∧ (∀ x ∈ v.build, x.length ≤ maxLen)) (htab : Tab w) (ht : OpsTab w) :
  Calls Tryz.prog 4 #[x.agg, .agg #[.int .u64 (v.a : Int), .int .u64 (v.b : Int), .int .u64 (v.c : Int), .slice A v.pre.length c, .slice E v.build.length d]] w fun e w' => e = .returned (.bool true) ∧ Below w.heap.size w w' := by
 obtain ⟨W0, hW, HB0, HR0, HV0⟩ := rv_start w x v A c E d
 have hwf := hf
 unfold maxLen at hwf
 obtain ⟨hp1, hp2, _, _⟩ := hwf
 unfold RV.agg
 go_enter Tryz.func4, Tryz.ntmps4
 go_upto_region 1 with (fail)
 rw [← hW]
 clear hW
 obtain ⟨y1, y2, c0, c1, c2, c3, c4, c5, c6⟩ := HR0.out
 obtain ⟨v1, v2, g0, g1, g2, g3, g4⟩ := HV0.out
 go_wp2_with fail
 refine (awake_any _ (htab.kept HB0.out) (ht.keep (Keep.of_below HB0.out))).mono ?_
 rintro e W1 ⟨rfl, hb⟩
 clear y1 y2 c0 c1 c2 c3 c4 c5 c6 v1 v2 g0 g1 g2 g3 g4
 have HB1 := Lib.hid (HB0.out.trans (hb.mono HB0.out.size))
 have HR1 := Lib.hid (HR0.out.kept hb HR0.out.1)
 have HV1 := Lib.hid (HV0.out.kept hb HV0.out.1)
 clear hb HB0 HR0 HV0
 obtain ⟨y1, y2, c0, c1, c2, c3, c4, c5, c6⟩ := HR1.out
 obtain ⟨v1, v2, g0, g1, g2, g3, g4⟩ := HV1.out
 go_wp2_with fail
 refine (great_full (wt r) r x w.heap.size 40 W1 (Nat.le_refl _) lo (hx.keep (KeepS.of_below (S := LtB w.heap.size) HB1.out)) HB1.out.size).mono ?_
 rintro e W2 ⟨zi, rfl, hz, hb⟩
 have HZ := Lib.hid hz
 clear hz
 clear y1 y2 c0 c1 c2 c3 c4 c5 c6 v1 v2 g0 g1 g2 g3 g4
 have HB2 := Lib.hid (HB1.out.trans (hb.mono HB1.out.size))
 have HR2 := Lib.hid (HR1.out.kept hb HR1.out.1)
 have HV2 := Lib.hid (HV1.out.kept hb HV1.out.1)
 clear hb HB1 HR1 HV1
 obtain ⟨y1, y2, c0, c1, c2, c3, c4, c5, c6⟩ := HR2.out
 obtain ⟨v1, v2, g0, g1, g2, g3, g4⟩ := HV2.out
 by_cases hz : 40 < zi
 ·go_wp2
  go_ret
  exact ⟨rfl, HB2.out⟩
 have HZa := Lib.hid (HZ.out.small (by decide) hz)
 clear HZ
 by_cases hl1 : (20 : Int) < (v.pre.length : Int)
 ·go_wp2
  go_ret
  exact ⟨rfl, HB2.out⟩
 by_cases hl2 : (20 : Int) < (v.build.length : Int)
 ·go_wp2
  go_ret
  exact ⟨rfl, HB2.out⟩
 go_upto_region 5 with (fail)
 clear y1 y2 c0 c1 c2 c3 c4 c5 c6 v1 v2 g0 g1 g2 g3 g4
 have hwa : goodR r 0 = true → wt r ≤ 1500 := fun hg => by
  have h1 := HZa.out ⟨0, hg⟩
  have h2 := wt_tot r
  omega
 clear HZa hz hl1 hl2
 replace HB2 : Hid (Below w.heap.size w W2.drew) := HB2.out.drew
 replace HR2 : Hid (RAt W2.drew w.heap.size x) := HR2.out
 replace HV2 : Hid (At5 W2.drew (w.heap.size + 1) (.int .u64 (v.a : Int)) (.int .u64 (v.b : Int)) (.int .u64 (v.c : Int)) (.slice A v.pre.length c) (.slice E v.build.length d)) := HV2.out
 refine wp_region_held_drew (S := fun w' => RAt w' w.heap.size x ∧ At5 w' (w.heap.size + 1) (.int .u64 (v.a : Int)) (.int .u64 (v.b : Int)) (.int .u64 (v.c : Int)) (.slice A v.pre.length c) (.slice E v.build.length d)) (by kernel_rfl) ⟨HR2.out, HV2.out⟩ (fun hHeld => ?_)
 generalize W2.drew = V2 at HB2 HR2 HV2 hHeld ⊢
 refine tk 0 rfl (.agg #[.int .i64 x.kind, .int .u64 (x.v.a : Int), .int .u64 (x.v.b : Int), .int .u64 (x.v.c : Int), .slice x.A x.v.pre.length x.c, .slice x.B x.v.build.length x.d, .slice x.L x.n x.e]) ?_ fun w' hS' => by obtain ⟨y1, y2, c0, c1, c2, c3, c4, c5, c6⟩ := hS'.1; go_simp
 refine tk 1 rfl (.agg #[.int .u64 (v.a : Int), .int .u64 (v.b : Int), .int .u64 (v.c : Int), .slice A v.pre.length c, .slice E v.build.length d]) ?_ fun w' hS' => by obtain ⟨v1, v2, g0, g1, g2, g3, g4⟩ := hS'.2; go_simp
 refine tk 3 rfl (.agg #[.int .i64 x.kind, .int .u64 (x.v.a : Int), .int .u64 (x.v.b : Int), .int .u64 (x.v.c : Int), .slice x.A x.v.pre.length x.c, .slice x.B x.v.build.length x.d, .slice x.L x.n x.e]) ?_ fun w' hS' => by obtain ⟨y1, y2, c0, c1, c2, c3, c4, c5, c6⟩ := hS'.1; go_simp
 refine tk 4 rfl (.agg #[.int .u64 (v.a : Int), .int .u64 (v.b : Int), .int .u64 (v.c : Int), .slice A v.pre.length c, .slice E v.build.length d]) ?_ fun w' hS' => by obtain ⟨v1, v2, g0, g1, g2, g3, g4⟩ := hS'.2; go_simp
 refine cl 2 rfl fun K hK => ?_
 go_simp
 refine (has_norm r x w.heap.size v A c E d _ (hx.keep (KeepS.of_below (S := LtB w.heap.size) HB2.out)) HB2.out.size lo hwa (s1.kept HB2.out) (s2.kept HB2.out) hf).mono ?_
 rintro e V3 ⟨rfl, hb⟩
 have HB3 := Lib.hid (HB2.out.trans (hb.mono HB2.out.size))
 have HR3 := Lib.hid (HR2.out.kept hb HR2.out.1)
 have HV3 := Lib.hid (HV2.out.kept hb HV2.out.1)
 clear hb HB2 HR2 HV2
 clear hHeld
 refine hK.out _ _ ⟨HR3.out, HV3.out⟩ (fun hHeld => ?_)
 clear hK K
 try simp only [Act.put, p1, p2, p3]
 refine cl 5 rfl fun K hK => ?_
 go_simp
 refine (refHas_any r x w.heap.size v A c E d _ (hx.keep (KeepS.of_below (S := LtB w.heap.size) HB3.out)) HB3.out.size lo (s1.kept HB3.out) (s2.kept HB3.out) hf).mono ?_
 rintro e V4 ⟨rfl, hb⟩
 have HB4 := Lib.hid (HB3.out.trans (hb.mono HB3.out.size))
 have HR4 := Lib.hid (HR3.out.kept hb HR3.out.1)
 have HV4 := Lib.hid (HV3.out.kept hb HV3.out.1)
 clear hb HB3 HR3 HV3
 clear hHeld
 refine hK.out _ _ ⟨HR4.out, HV4.out⟩ (fun hHeld => ?_)
 clear hK K
 try simp only [Act.put, p1, p2, p3]
 generalize hasR r v = X
 refine tk 6 rfl (.bool true) ?_ fun w' hS' => by cases X <;> go_simp
 refine tk 7 rfl (.bool true) ?_
 refine wpAnyH_done (by kernel_rfl) ?_ _
 go_wp2
 go_ret
 exact ⟨rfl, HB4.out⟩
end Go.Proofs.YtgfbflnhjpbceaaGreatDoor.Nrm
namespace Go.Proofs.YtgfbflnhjpbceaaGreatDoor.Came
open Go.ChangeShapes Go.WideShapes Go.RowKit


theorem texts_at {H : Type} {enc : TypeId × Value → H} {W : World} {fuel : Nat} {cs : List Value} {y : DataW H × List MemPlace}
  (hf : DataW.trod enc Tryz.prog W 0 (fun _ => true) true fuel 23 cs = some y) :
  ∃ (a : Option Addr) (len cap : Nat) (xs : List (List UInt8)), cs = [.slice a len cap] ∧ Ident.SRow W a len xs ∧ len ≤ cap ∧ cap ≤ maxLen ∧ (a = none → cap = 0) ∧ ∀ x ∈ xs, x.length ≤ maxLen := by
 rcases open_strings Tryz.underlying23 Tryz.underlying9 (by kernel_rfl) hf with ⟨hcs, _⟩ | ⟨x, len, cap, ss, hcs, _, hl, hm, hz, _, hcell, hsz⟩
 ·exact ⟨none, 0, 0, [], hcs, Ident.SRow.none_ _ _, Nat.le_refl _, by unfold maxLen; omega, fun _ => rfl, fun x hx => by cases hx⟩
 ·have hz : ss.length = cap := by simpa using hz
  refine ⟨some x, len, cap, (ss.take len).map fun s => s.data.toList, hcs, ⟨by simp; omega, fun h0 => ?_⟩, hl, hm, (fun e => by cases e), fun y hy => ?_⟩
  ·obtain ⟨b, o, spot⟩ := x
   have h0c := hcell 0 (by omega)
   have hspot : spot = none := by simpa [Addr.add] using World.cell?_spot h0c
   subst hspot
   refine ⟨b, o, rfl, ?_, fun j hj => ?_⟩
   ·have := World.block_lt_of_cell? W _ h0c
    rwa [Num.add_none] at this
   ·have hj2 : j < ss.length := by omega
    have e := hcell j hj2
    rw [Num.add_none] at e
    rw [e]
    simp [hj, List.getElem?_eq_getElem hj2, Ident.mk]
  ·simp only [List.mem_map] at hy
   obtain ⟨s, hs, rfl⟩ := hy
   rw [← Lib.size_eq]
   exact hsz s (List.mem_of_mem_take hs)
end Go.Proofs.YtgfbflnhjpbceaaGreatDoor.Came
namespace Go.Proofs.YtgfbflnhjpbceaaGreatDoor.Range
open Go.Lib Num Ident
variable {H : Type}
theorem cells_of_strs {enc : TypeId × Value → H} {P : Program} {w : World} {base : Nat} {sp : Nat → Bool} {held : Bool} {fuel : Nat} {t e : TypeId} {n : Nat} {cs : List Value} {bs : List (List UInt8)} {p : List MemPlace}
  (ht : P.underlying t = some (.array n e)) (he : P.underlying e = some .string) (hce : P.cellsOf e = 1) (hct : P.cellsOf t = n)
  (h : DataW.trod enc P w base sp held fuel t cs = some (.agg (bs.map fun b => .lit (.string b)), p)) : cs = bs.map fun b => Value.string (mk b) := by
 cases fuel with
 | zero => simp [DataW.trod] at h
 | succ fuel =>
  simp only [DataW.trod, ht, hce, hct, Nat.mul_one] at h
  split at h
  ·rename_i hl
   obtain ⟨xs, hm, hx⟩ := Option.map_eq_some_iff.1 h
   have hxs : xs.map (·.1) = bs.map fun b => (DataW.lit (.string b) : DataW H) := by
    have := congrArg Prod.fst hx
    simpa using this
   have hxl : xs.length = n := by simpa using mapM_length hm
   have hzl : bs.length = n := by
    have := congrArg List.length hxs
    simp at this
    omega
   apply List.ext_getElem?
   intro i
   by_cases hi : i < n
   ·obtain ⟨b, hb, hf⟩ := mapM_at hm i i (by simp [hi])
    obtain ⟨s, hc, rfl, _⟩ := DataW.trod_string he hf
    have h1 : cs[i]? = some (.string s) := by
     have := congrArg (·[0]?) hc
     simpa [List.getElem?_take, List.getElem?_drop] using this
    have h2 : (xs.map (·.1))[i]? = some (DataW.lit (.string s.data.toList) : DataW H) := by simp [hb]
    rw [hxs] at h2
    simp only [List.getElem?_map, Option.map_eq_some_iff, DataW.lit.injEq, Lit.string.injEq] at h2
    obtain ⟨z', hz', e2⟩ := h2
    simp only [List.getElem?_map, hz', Option.map_some, h1, e2]
    rfl
   ·rw [List.getElem?_eq_none (by omega), List.getElem?_eq_none (by simp; omega)]
  ·cases h

theorem opsTab_of_head {W : World} {rest : List (String × DataW Unit)} {g : Nat} {t e : TypeId}
  (hg : Tryz.prog.globalNamed "ferrule/rangeexpr.ops" = some g) (hgn : g = 0) (hty : (Tryz.prog.globals[g]?).map (·.type) = some t) (ht : Tryz.prog.underlying t = some (.array 8 e)) (he : Tryz.prog.underlying e = some .string) (hce : Tryz.prog.cellsOf e = 1) (hct : Tryz.prog.cellsOf t = 8)
  (h : laidMet Tryz.prog (("ferrule/rangeexpr.ops", .agg (ops.map fun b => .lit (.string b))) :: rest) W) : OpsTab W := by
 obtain ⟨ps, ⟨g', t', cs, fuel, p, q, hg', ht', hvar, hd, _, _⟩, _⟩ := h
 obtain rfl := Option.some.inj (hg.symm.trans hg')
 obtain rfl := Option.some.inj (hty.symm.trans ht')
 have hc := cells_of_strs ht he hce hct hd
 intro i hi
 have := World.var?_cell hg hvar i
 subst hgn
 rw [this, ← Array.getElem?_toList, hc, List.getElem?_map]
 rw [List.getElem?_eq_getElem (show i < ops.length from hi)]
 simp [List.getD, List.getElem?_eq_getElem (show i < ops.length from hi)]
end Go.Proofs.YtgfbflnhjpbceaaGreatDoor.Range
namespace Go.Proofs.YtgfbflnhjpbceaaGreatDoor.Came
open Go.ChangeShapes Go.WideShapes Go.RowKit Go.Deep


theorem field_read {H : Type} {enc : TypeId × Value → H} {W : World} {n : Nat} {z : Value} {y : DataW H × List MemPlace} (h : DataW.trod enc Tryz.prog W 0 (fun _ => true) true n 22 [z] = some y) : ∃ a : Nat, z = .int .u64 (a : Int) ∧ a < 18446744073709551616 := by
 obtain ⟨m, hm, _, hw⟩ := DataW.trod_int Tryz.underlying22 h
 have hb : 0 ≤ m ∧ m ≤ 18446744073709551615 := by simpa [Lit.wf, IntKind.min, IntKind.max, IntKind.signed, IntKind.bits] using hw
 obtain ⟨a, rfl⟩ := Int.eq_ofNat_of_zero_le hb.1
 simp at hm
 exact ⟨a, hm, by omega⟩

end Go.Proofs.YtgfbflnhjpbceaaGreatDoor.Came
namespace Go.Proofs.YtgfbflnhjpbceaaGreatDoor.Came
open Go.ChangeShapes Go.WideShapes Go.RowKit Go.Deep

theorem ver_at {H : Type} {enc : TypeId × Value → H} {W : World} {fuel : Nat} {l : List Value} {y : DataW H × List MemPlace} (hf : DataW.trod enc Tryz.prog W 0 (fun _ => true) true fuel 25 l = some y) :
  ∃ (v : Semver.Ver) (A : Option Addr) (c : Nat) (B : Option Addr) (d : Nat), l = [.int .u64 (v.a : Int), .int .u64 (v.b : Int), .int .u64 (v.c : Int), .slice A v.pre.length c, .slice B v.build.length d] ∧ Ident.SRow W A v.pre.length v.pre ∧ Ident.SRow W B v.build.length v.build ∧ Prec.Fit v.pre ∧ Prec.Fit v.build ∧ (A = none → c = 0) := by
 have hC : Tryz.prog.cellsOf 25 = 5 := by kernel_rfl
 have cu : Tryz.prog.cellsOf 22 = 1 := by kernel_rfl
 have ct : Tryz.prog.cellsOf 23 = 1 := by kernel_rfl
 obtain ⟨xs, n, _, _, hsz, hlen, hg⟩ := DataW.trod_struct Tryz.underlying25 hf
 have hl : xs.length = 5 := hlen
 rw [hC] at hsz
 match l, hsz with
 | [z0, z1, z2, z3, z4], _ =>
  match xs, hl with
  | [y0, y1, y2, y3, y4], _ =>
   have f0 : DataW.trod enc Tryz.prog W 0 (fun _ => true) true n 22 (([z0, z1, z2, z3, z4].drop 0).take (Tryz.prog.cellsOf 22)) = some y0 := hg 0 _ rfl
   rw [cu] at f0
   have g0 : DataW.trod enc Tryz.prog W 0 (fun _ => true) true n 22 [z0] = some y0 := f0
   have f1 : DataW.trod enc Tryz.prog W 0 (fun _ => true) true n 22 (([z0, z1, z2, z3, z4].drop 1).take (Tryz.prog.cellsOf 22)) = some y1 := hg 1 _ rfl
   rw [cu] at f1
   have g1 : DataW.trod enc Tryz.prog W 0 (fun _ => true) true n 22 [z1] = some y1 := f1
   have f2 : DataW.trod enc Tryz.prog W 0 (fun _ => true) true n 22 (([z0, z1, z2, z3, z4].drop 2).take (Tryz.prog.cellsOf 22)) = some y2 := hg 2 _ rfl
   rw [cu] at f2
   have g2 : DataW.trod enc Tryz.prog W 0 (fun _ => true) true n 22 [z2] = some y2 := f2
   have f3 : DataW.trod enc Tryz.prog W 0 (fun _ => true) true n 23 (([z0, z1, z2, z3, z4].drop 3).take (Tryz.prog.cellsOf 23)) = some y3 := hg 3 _ rfl
   rw [ct] at f3
   have g3 : DataW.trod enc Tryz.prog W 0 (fun _ => true) true n 23 [z3] = some y3 := f3
   have f4 : DataW.trod enc Tryz.prog W 0 (fun _ => true) true n 23 (([z0, z1, z2, z3, z4].drop 4).take (Tryz.prog.cellsOf 23)) = some y4 := hg 4 _ rfl
   rw [ct] at f4
   have g4 : DataW.trod enc Tryz.prog W 0 (fun _ => true) true n 23 [z4] = some y4 := f4
   clear f0 f1 f2 f3 f4 hg
   obtain ⟨a, rfl, _⟩ := field_read g0
   obtain ⟨b, rfl, _⟩ := field_read g1
   obtain ⟨c, rfl, _⟩ := field_read g2
   obtain ⟨A, m1, c1, p, e1, r1, q1, k1, u1, s1⟩ := texts_at g3
   obtain ⟨B, m2, c2, t, e2, r2, q2, k2, _, s2⟩ := texts_at g4
   simp at e1 e2
   subst e1
   subst e2
   obtain rfl := r1.1
   obtain rfl := r2.1
   exact ⟨⟨a, b, c, p, t⟩, A, c1, B, c2, rfl, r1, r2, ⟨Nat.le_trans q1 k1, s1⟩, ⟨Nat.le_trans q2 k2, s2⟩, u1⟩
theorem versionF {H : Type} {enc : TypeId × Value → H} {W : World} {r : Reach} {b0 : Nat} {x : Value} {d : DataW H} {ps : List MemPlace} (hv : Value.okWide Tryz.prog W r b0 25 x)
  (h : DataW.Trod enc Tryz.prog W 0 (fun _ => true) true 25 x d ps) :
  ∃ (v : Semver.Ver) (A : Option Addr) (c : Nat) (B : Option Addr) (d : Nat), x = .agg #[.int .u64 (v.a : Int), .int .u64 (v.b : Int), .int .u64 (v.c : Int), .slice A v.pre.length c, .slice B v.build.length d] ∧ Ident.SRow W A v.pre.length v.pre ∧ Ident.SRow W B v.build.length v.build ∧ Prec.Fit v.pre ∧ Prec.Fit v.build ∧ (A = none → c = 0) := by
 obtain ⟨cs, rfl, _⟩ := okWide_struct Tryz.underlying25 hv
 obtain ⟨fuel, hf⟩ := h
 obtain ⟨l⟩ := cs
 obtain ⟨v, A, c, B, d, e, h1⟩ := ver_at (l := l) hf
 exact ⟨v, A, c, B, d, by rw [e], h1⟩
theorem kind_read {H : Type} {enc : TypeId × Value → H} {W : World} {n : Nat} {z : Value} {y : DataW H × List MemPlace} (h : DataW.trod enc Tryz.prog W 0 (fun _ => true) true n 3 [z] = some y) : ∃ k : Int, z = .int .i64 k := by
 obtain ⟨m, hm, _, _⟩ := DataW.trod_int Tryz.underlying3 h
 simp at hm
 exact ⟨m, hm⟩
theorem list_of {α : Type} [Inhabited α] {P : Nat → α → Prop} : ∀ (n : Nat), (∀ i, i < n → ∃ x, P i x) → ∃ l : List α, l.length = n ∧ ∀ i, i < n → P i (l.getD i default)
 | 0, _ => ⟨[], rfl, fun i hi => by omega⟩
 | n + 1, h => by
  obtain ⟨l, hl, hp⟩ := list_of n fun i hi => h i (by omega)
  obtain ⟨x, hx⟩ := h n (by omega)
  refine ⟨l ++ [x], by simp [hl], fun i hi => ?_⟩
  rcases Nat.lt_or_ge i n with h1 | h1
  ·have e : (l ++ [x]).getD i default = l.getD i default := by simp [List.getD, List.getElem?_append_left (show i < l.length by omega)]
   rw [e]; exact hp i h1
  ·obtain rfl : i = n := by omega
   have e : (l ++ [x]).getD i default = x := by simp [List.getD, ← hl]
   rw [e]; exact hx
end Go.Proofs.YtgfbflnhjpbceaaGreatDoor.Came
namespace Go.Proofs.YtgfbflnhjpbceaaGreatDoor.Came
open Go.ChangeShapes Go.WideShapes Go.RowKit Go.Deep
open Range (Rng noRng RV LenOk LtB InS)
theorem ver_full {H : Type} {enc : TypeId × Value → H} {W : World} {fuel : Nat} {l : List Value} {y : DataW H × List MemPlace} (hf : DataW.trod enc Tryz.prog W 0 (fun _ => true) true fuel 25 l = some y) :
  ∃ (v : Semver.Ver) (A : Option Addr) (c : Nat) (B : Option Addr) (d : Nat), l = [.int .u64 (v.a : Int), .int .u64 (v.b : Int), .int .u64 (v.c : Int), .slice A v.pre.length c, .slice B v.build.length d] ∧ Ident.SRow W A v.pre.length v.pre ∧ Ident.SRow W B v.build.length v.build ∧ Range.FitV v ∧ v.pre.length ≤ c ∧ v.build.length ≤ d := by
 have hC : Tryz.prog.cellsOf 25 = 5 := by kernel_rfl
 have cu : Tryz.prog.cellsOf 22 = 1 := by kernel_rfl
 have ct : Tryz.prog.cellsOf 23 = 1 := by kernel_rfl
 obtain ⟨xs, n, _, _, hsz, hlen, hg⟩ := DataW.trod_struct Tryz.underlying25 hf
 have hl : xs.length = 5 := hlen
 rw [hC] at hsz
 match l, hsz with
 | [z0, z1, z2, z3, z4], _ =>
  match xs, hl with
  | [y0, y1, y2, y3, y4], _ =>
   have f0 : DataW.trod enc Tryz.prog W 0 (fun _ => true) true n 22 (([z0, z1, z2, z3, z4].drop 0).take (Tryz.prog.cellsOf 22)) = some y0 := hg 0 _ rfl
   rw [cu] at f0
   have g0 : DataW.trod enc Tryz.prog W 0 (fun _ => true) true n 22 [z0] = some y0 := f0
   have f1 : DataW.trod enc Tryz.prog W 0 (fun _ => true) true n 22 (([z0, z1, z2, z3, z4].drop 1).take (Tryz.prog.cellsOf 22)) = some y1 := hg 1 _ rfl
   rw [cu] at f1
   have g1 : DataW.trod enc Tryz.prog W 0 (fun _ => true) true n 22 [z1] = some y1 := f1
   have f2 : DataW.trod enc Tryz.prog W 0 (fun _ => true) true n 22 (([z0, z1, z2, z3, z4].drop 2).take (Tryz.prog.cellsOf 22)) = some y2 := hg 2 _ rfl
   rw [cu] at f2
   have g2 : DataW.trod enc Tryz.prog W 0 (fun _ => true) true n 22 [z2] = some y2 := f2
   have f3 : DataW.trod enc Tryz.prog W 0 (fun _ => true) true n 23 (([z0, z1, z2, z3, z4].drop 3).take (Tryz.prog.cellsOf 23)) = some y3 := hg 3 _ rfl
   rw [ct] at f3
   have g3 : DataW.trod enc Tryz.prog W 0 (fun _ => true) true n 23 [z3] = some y3 := f3
   have f4 : DataW.trod enc Tryz.prog W 0 (fun _ => true) true n 23 (([z0, z1, z2, z3, z4].drop 4).take (Tryz.prog.cellsOf 23)) = some y4 := hg 4 _ rfl
   rw [ct] at f4
   have g4 : DataW.trod enc Tryz.prog W 0 (fun _ => true) true n 23 [z4] = some y4 := f4
   clear f0 f1 f2 f3 f4 hg
   obtain ⟨a, rfl, wa⟩ := field_read g0
   obtain ⟨b, rfl, wb⟩ := field_read g1
   obtain ⟨c, rfl, wc⟩ := field_read g2
   obtain ⟨A, m1, c1, p, e1, r1, q1, k1, u1, s1⟩ := texts_at g3
   obtain ⟨B, m2, c2, t, e2, r2, q2, k2, _, s2⟩ := texts_at g4
   simp at e1 e2
   subst e1
   subst e2
   obtain rfl := r1.1
   obtain rfl := r2.1
   exact ⟨⟨a, b, c, p, t⟩, A, c1, B, c2, rfl, r1, r2, ⟨wa, wb, wc, Nat.le_trans q1 k1, Nat.le_trans q2 k2, s1, s2⟩, q1, q2⟩
theorem ins_of {W : World} {A : Option Addr} {n : Nat} {l : List (List UInt8)} (h : Ident.SRow W A n l) : InS (LtB W.heap.size) A n := by
 intro h0
 obtain ⟨b, o, e, hb, _⟩ := h.2 h0
 exact ⟨b, o, e, hb⟩
theorem rng_at {H : Type} {enc : TypeId × Value → H} {W : World} : ∀ (N fuel : Nat) (l : List Value) (y : DataW H × List MemPlace), fuel ≤ N → DataW.trod enc Tryz.prog W 0 (fun _ => true) true fuel 28 l = some y →
  ∃ (r : Rng) (x : RV), l = x.vals ∧ Range.Lies W (LtB W.heap.size) r x ∧ LenOk r
 | 0, fuel, l, y, hN, hf => by
  obtain ⟨xs, n, e, _⟩ := DataW.trod_struct Tryz.underlying28 hf
  omega
 | N + 1, fuel, l, y, hN, hf => by
  have hC : Tryz.prog.cellsOf 28 = 7 := by kernel_rfl
  have ci : Tryz.prog.cellsOf 3 = 1 := by kernel_rfl
  have cv : Tryz.prog.cellsOf 25 = 5 := by kernel_rfl
  have cl : Tryz.prog.cellsOf 26 = 1 := by kernel_rfl
  obtain ⟨xs, n, hfn, _, hsz, hlen, hg⟩ := DataW.trod_struct Tryz.underlying28 hf
  have hl : xs.length = 3 := hlen
  rw [hC] at hsz
  match l, hsz with
  | [z0, z1, z2, z3, z4, z5, z6], _ =>
   match xs, hl with
   | [y0, y1, y2], _ =>
    have f0 : DataW.trod enc Tryz.prog W 0 (fun _ => true) true n 3 (([z0, z1, z2, z3, z4, z5, z6].drop 0).take (Tryz.prog.cellsOf 3)) = some y0 := hg 0 _ rfl
    rw [ci] at f0
    have g0 : DataW.trod enc Tryz.prog W 0 (fun _ => true) true n 3 [z0] = some y0 := f0
    have f1 : DataW.trod enc Tryz.prog W 0 (fun _ => true) true n 25 (([z0, z1, z2, z3, z4, z5, z6].drop 1).take (Tryz.prog.cellsOf 25)) = some y1 := hg 1 _ rfl
    rw [cv] at f1
    have g1 : DataW.trod enc Tryz.prog W 0 (fun _ => true) true n 25 [z1, z2, z3, z4, z5] = some y1 := f1
    have f2 : DataW.trod enc Tryz.prog W 0 (fun _ => true) true n 26 (([z0, z1, z2, z3, z4, z5, z6].drop 6).take (Tryz.prog.cellsOf 26)) = some y2 := hg 2 _ rfl
    rw [cl] at f2
    have g2 : DataW.trod enc Tryz.prog W 0 (fun _ => true) true n 26 [z6] = some y2 := f2
    clear f0 f1 f2 hg
    obtain ⟨k, rfl⟩ := kind_read g0
    obtain ⟨v, A, c, B, d, e, h1, h2, h3, h4, h5⟩ := ver_full g1
    simp only [List.cons.injEq, and_true] at e
    obtain ⟨rfl, rfl, rfl, rfl, rfl⟩ := e
    rcases DataW.trod_slice Tryz.underlying26 g2 with ⟨hz, _⟩ | ⟨a, len, cap, elems, rest, n2, hn2, hz, _, _, hlc, hcm, hel, hi, _, _⟩
    ·simp only [List.cons.injEq, and_true] at hz
     subst hz
     exact ⟨.mk k v [], ⟨k, v, A, c, B, d, none, 0, 0⟩, rfl, Range.Lies.version k v A c B d h1 h2 (ins_of h1) (ins_of h2) h4 h5 h3, .mk k v [] (by simp) (fun y hy => by cases hy)⟩
    ·simp only [List.cons.injEq, and_true] at hz
     subst hz
     rw [hC] at hi
     obtain ⟨ps, hpl, hp⟩ := list_of (α := Rng × RV) (P := fun i (p : Rng × RV) => (Range.Lies W (LtB W.heap.size) p.1 p.2 ∧ LenOk p.1) ∧ ∀ j u, p.2.vals[j]? = some u → W.cell? ((a.add (i * 7)).add j) = some u) len fun i hi' => by
      have h0 := hi i hi'
      rw [List.getElem?_eq_getElem (show i < elems.length by omega), Option.bind_eq_some_iff] at h0
      obtain ⟨cs, hc, ht⟩ := h0
      obtain ⟨_, hcl, hat⟩ := World.cells?_some hc
      obtain ⟨r, x, e, hr, ho⟩ := rng_at N n2 cs _ (by omega) ht
      refine ⟨(r, x), ⟨hr, ho⟩, fun j u hu => ?_⟩
      have hj : j < 7 := (List.getElem?_eq_some_iff.1 hu).1
      rw [hat j hj, e]; exact hu
     have hgd : ∀ j, j < len → (ps.map Prod.fst).getD j noRng = (ps.getD j default).1 := fun j hj => by
      rw [List.getD_eq_getElem?_getD, List.getD_eq_getElem?_getD, List.getElem?_map, List.getElem?_eq_getElem (show j < ps.length by omega)]; rfl
     refine ⟨.mk k v (ps.map Prod.fst), ⟨k, v, A, c, B, d, some a, len, cap⟩, rfl, Range.Lies.mk ⟨k, v, A, c, B, d, some a, len, cap⟩ (ps.map Prod.fst) (fun j => (ps.getD j default).2) (by simp [hpl]) hlc h1 h2 (ins_of h1) (ins_of h2) h4 h5 h3 (fun e => by cases e) (fun h0 => ?_) (fun j hj => ?_), .mk k v _ (by rw [List.length_map, hpl]; unfold maxLen at hcm; omega) (fun q hq => ?_)⟩
     ·have h0 : 0 < len := h0
      obtain ⟨b, o, spot⟩ := a
      have h0c := (hp 0 h0).2 0 _ rfl
      have hspot : spot = none := by simpa [Addr.add] using World.cell?_spot h0c
      subst hspot
      refine ⟨b, o, rfl, ?_, fun j hj i u hu => ?_⟩
      ·have := World.block_lt_of_cell? W _ h0c
       rwa [Num.add_none, Num.add_none] at this
      ·have e := (hp j hj).2 i u hu
       rwa [Num.add_none, Num.add_none] at e
     ·rw [hgd j hj]; exact (hp j hj).1.1
     ·obtain ⟨p, hp1, rfl⟩ := List.mem_map.1 hq
      obtain ⟨j, hj, rfl⟩ := List.getElem_of_mem hp1
      have := (hp j (by omega)).1.2
      simpa [List.getD, List.getElem?_eq_getElem hj] using this
theorem range {H : Type} {enc : TypeId × Value → H} {W : World} {r : Reach} {b0 : Nat} {x : Value} {d : DataW H} {ps : List MemPlace} (hv : Value.okWide Tryz.prog W r b0 28 x)
  (h : DataW.Trod enc Tryz.prog W 0 (fun _ => true) true 28 x d ps) :
  ∃ (r : Rng) (y : RV), x = .agg #[.int .i64 y.kind, .int .u64 (y.v.a : Int), .int .u64 (y.v.b : Int), .int .u64 (y.v.c : Int), .slice y.A y.v.pre.length y.c, .slice y.B y.v.build.length y.d, .slice y.L y.n y.e] ∧ Range.Lies W (LtB W.heap.size) r y ∧ LenOk r := by
 obtain ⟨cs, rfl, _⟩ := okWide_struct Tryz.underlying28 hv
 obtain ⟨fuel, hf⟩ := h
 obtain ⟨l⟩ := cs
 obtain ⟨r, y, e, h1, h2⟩ := rng_at fuel fuel l _ (Nat.le_refl _) hf
 exact ⟨r, y, by rw [e]; rfl, h1, h2⟩
end Go.Proofs.YtgfbflnhjpbceaaGreatDoor.Came
