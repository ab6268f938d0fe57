/-
  What the theorem of the last text needs of these: RgRead, NmAwakeMath, NmJoined, SpAt, NmPcMem. Conditions: as each theorem states.
-/
import Derived.Test.YtgfbflnhjpbceaaGreatDoorAgaB1
import Derived.Test.YtgfbflnhjpbceaaGreatDoorAgaB9
import Derived.Test.YtgfbflnhjpbceaaGreatDoorAgaB16
import Derived.Test.YtgfbflnhjpbceaaGreatDoorAgaB22
import Derived.Test.YtgfbflnhjpbceaaGreatDoorAgaB25
import Derived.Test.YtgfbflnhjpbceaaGreatDoorAgaB27
import Derived.StillTailTactics
import Derived.Deep.CutBlock
import Derived.Deep.DeepCutAuto
import Derived.Deep.RegionHeld3
set_option maxRecDepth 100000
set_option maxHeartbeats 25600000
namespace Go.Proofs.YtgfbflnhjpbceaaGreatDoor.Range
open Go.RowKit Num Ident Semver

def ParPost (w : World) (r : POut) (e : Ending) (w' : World) : Prop :=
 ∃ x : RV, e = .returned (.tuple #[x.agg, .int .i64 (r.2.1 : Int), .int .i64 (r.1 : Int)]) ∧ Lies w' (From w.heap.size) r.2.2 x ∧ Below w.heap.size w w'
theorem par_end {w W : World} {f q : Nat} {r : Rng} {x : RV} (hL : Lies W (From (w.heap.size + 1)) r x) (hb : Below w.heap.size w W) : ParPost w (f, q, r) (.returned (.tuple #[x.agg, .int .i64 (q : Int), .int .i64 (f : Int)])) (setR W w.heap.size x) :=
 ⟨x, rfl, (hL.keep (setR_keep (Nat.not_succ_le_self _) x)).from_ (Nat.le_succ _), hb.trans (setR_below _ (Nat.le_refl _) x)⟩
theorem setR_rd_lt {W : World} {g b : Nat} {A : Option Addr} {n c p : Nat} {x : RV} (h : Rd W b A n c p) (hne : b ≠ g) : Rd (setR W g x) b A n c p := by
 have hb : (setR W g x).heap[b]? = W.heap[b]? := by
  unfold setR
  simp only [Below.heap_setCell _ _ _ _ (show b ≠ Addr.block ⟨g, _, none⟩ from hne)]
 have hz : (setR W g x).heap.size = W.heap.size := by unfold setR; simp
 have kc : ∀ o, (setR W g x).cell? ⟨b, o, none⟩ = W.cell? ⟨b, o, none⟩ := fun o => World.cell?_of_block (w := W) (a := ⟨b, o, none⟩) hb
 exact ⟨by rw [hz]; exact h.lt, fun o => (World.frozen?_of_block (w := W) (a := ⟨b, o, none⟩) hb).trans (h.open_ o), (kc 0).trans h.row, (kc 1).trans h.at_, (kc 2).trans h.end_⟩
theorem KeepS.drew (S : Nat → Prop) (w : World) : KeepS S w w.drew := ⟨Nat.le_refl _, fun _ _ _ _ h => h⟩
theorem RAt.drew {W : World} {g : Nat} {x : RV} (h : RAt W g x) : RAt W.drew g x := h
theorem ParPost.drew {w W : World} {r : POut} {e : Ending} (h : ParPost w r e W) : ParPost w r e W.drew := by
 obtain ⟨x, h1, h2, h3⟩ := h
 exact ⟨x, h1, h2.keep (KeepS.drew _ _), h3.drew⟩
theorem Rd.new (w : World) (A : Option Addr) (n c p : Nat) (t : TypeId) : Rd (w.alloc (.cells #[.slice A n c, .int .i64 (p : Int)] t)) w.heap.size A n c p := by
 refine ⟨by simp, fun o => by simp [go_sem], ?_, ?_, ?_⟩ <;> simp [go_sem]
theorem parse_out (A : Option Addr) (n c : Nat) (l : List UInt8) (p : Int) (w : World) (h : Row w A n l) (ho : p < 0 ∨ (n : Int) < p) :
  Calls Tryz.prog 49 #[.slice A n c, .int .i64 p] w (ParPost w (pparse l p)) := by
 have HE : Hid (pparse l p = (1, 0, noRng)) := by unfold Hid pparse; rw [if_pos (by rw [h.1]; exact ho)]
 have HB : Hid (Below w.heap.size w (w.alloc (.cells #[.int .i64 0, .int .u64 0, .int .u64 0, .int .u64 0, .slice none 0 0, .slice none 0 0, .slice none 0 0] 28))) := (Below.refl _ _).alloc (Nat.le_refl _) _
 rw [HE.out]
 clear h HE
 by_cases h0 : p < 0
 ·go_enter Tryz.func49, Tryz.ntmps49
  go_wp2
  exact bodyPost_ret (v := .tuple #[.agg #[.int .i64 0, .int .u64 0, .int .u64 0, .int .u64 0, .slice none 0 0, .slice none 0 0, .slice none 0 0], .int .i64 0, .int .i64 1]) (by simp [results, Tryz.results49, go_sem]) rfl (⟨zeroRV 0, rfl, Lies.zero _ _ 0, HB.out⟩)
 ·have h1 : (n : Int) < p := by omega
  clear ho
  go_enter Tryz.func49, Tryz.ntmps49
  go_wp2
  exact bodyPost_ret (v := .tuple #[.agg #[.int .i64 0, .int .u64 0, .int .u64 0, .int .u64 0, .slice none 0 0, .slice none 0 0, .slice none 0 0], .int .i64 0, .int .i64 1]) (by simp [results, Tryz.results49, go_sem]) rfl (⟨zeroRV 0, rfl, Lies.zero _ _ 0, HB.out⟩)
theorem parse_in (A : Option Addr) (n c : Nat) (l : List UInt8) (p : Nat) (w : World) (h : Row w A n l) (hc : n ≤ c) (hn : n ≤ 30000000) (hp : p ≤ n) (ht : OpsTab w) :
  Calls Tryz.prog 49 #[.slice A n c, .int .i64 p] w (ParPost w (pparse l p)) := by
 have HL := Lib.hid h.1
 have hp0 : ¬ (p : Int) < 0 := by omega
 have hp1 : ¬ n < p := by omega
 obtain ⟨b, hb⟩ : ∃ b, w.heap.size + 1 = b := ⟨_, rfl⟩
 have HR0 : Hid (Rd ((w.alloc (.cells #[.int .i64 0, .int .u64 0, .int .u64 0, .int .u64 0, .slice none 0 0, .slice none 0 0, .slice none 0 0] 28)).alloc (.cells #[.slice A n c, .int .i64 (p : Int)] 115)) b A n c p) := by have := Rd.new (w.alloc (.cells #[.int .i64 0, .int .u64 0, .int .u64 0, .int .u64 0, .slice none 0 0, .slice none 0 0, .slice none 0 0] 28)) A n c p 115; rw [size_alloc, hb] at this; exact this
 have HB0 : Hid (Below w.heap.size w ((w.alloc (.cells #[.int .i64 0, .int .u64 0, .int .u64 0, .int .u64 0, .slice none 0 0, .slice none 0 0, .slice none 0 0] 28)).alloc (.cells #[.slice A n c, .int .i64 (p : Int)] 115))) := ((Below.refl _ _).alloc (Nat.le_refl _) _).alloc (by simp) _
 have HRow0 : Hid (Row ((w.alloc (.cells #[.int .i64 0, .int .u64 0, .int .u64 0, .int .u64 0, .slice none 0 0, .slice none 0 0, .slice none 0 0] 28)).alloc (.cells #[.slice A n c, .int .i64 (p : Int)] 115)) A n l) := h.kept HB0.out
 have HT0 : Hid (OpsTab ((w.alloc (.cells #[.int .i64 0, .int .u64 0, .int .u64 0, .int .u64 0, .slice none 0 0, .slice none 0 0, .slice none 0 0] 28)).alloc (.cells #[.slice A n c, .int .i64 (p : Int)] 115))) := ht.keep (Keep.of_below HB0.out)
 have H70 : Hid (RAt ((w.alloc (.cells #[.int .i64 0, .int .u64 0, .int .u64 0, .int .u64 0, .slice none 0 0, .slice none 0 0, .slice none 0 0] 28)).alloc (.cells #[.slice A n c, .int .i64 (p : Int)] 115)) w.heap.size (zeroRV 0)) := (RAt.new w 28 (zeroRV 0)).kept ((Below.refl _ _).alloc (Nat.le_refl _) _) (by simp)
 have HPl : Hid (Pl l p (l.drop p)) := ⟨by rw [HL.out]; exact hp, rfl⟩
 have HX : Hid (PartOK 88 b A n c l 0 (exprF (pone 64))) := expr64_ok b A n c l hn hc
 have hne : w.heap.size ≠ b := by omega
 have hbs : b < (((w.alloc (.cells #[.int .i64 0, .int .u64 0, .int .u64 0, .int .u64 0, .slice none 0 0, .slice none 0 0, .slice none 0 0] 28)).alloc (.cells #[.slice A n c, .int .i64 (p : Int)] 115))).heap.size := HR0.out.lt
 obtain ⟨⟨f, s2, r⟩, hk⟩ : ∃ t, exprF (pone 64) (blanks (l.drop p)) = t := ⟨_, rfl⟩
 have HE : Hid (pparse l p = (f, l.length - s2.length, r)) := by
  unfold Hid pparse; rw [if_neg (by rw [HL.out]; omega), Int.toNat_natCast, hk]
 have HKx := Lib.hid hk
 rw [HE.out]
 clear h ht hk
 go_enter Tryz.func49, Tryz.ntmps49
 go_wp2_with fail
 try rw [hb]
 refine (pass_any b A n c p 0 l (l.drop p) _ HR0.out HRow0.out HPl.out hp).mono ?_
 rw [List.drop_zero]
 rintro e W1 ⟨rfl, q1, hq1, hR1, hM1⟩
 have HK1 := Lib.hid (HR0.out.keep hM1)
 have HRow1 := Lib.hid (row_keep HRow0.out HK1.out)
 have HT1 := Lib.hid (HT0.out.keep HK1.out)
 have H71 := Lib.hid (H70.out.moved hM1 hne)
 have HB1 := Lib.hid (HB0.out.trans ((hM1.below_of (Nat.le_of_lt hbs)).mono (by omega)))
 have HR1 := Lib.hid hR1
 have HQ1 := Lib.hid hq1
 have hbs1 : b < W1.heap.size := hR1.lt
 clear hR1 hM1 hq1 HR0 HRow0 HT0 H70 HB0 HK1
 go_wp2_with fail
 refine (HX.out W1 q1 _ HR1.out HRow1.out HT1.out HQ1.out).mono ?_
 rw [HKx.out]
 rintro e W2 ⟨x, q2, rfl, hx, hP2, hR2, hM2⟩
 unfold RV.agg
 simp only at hx hP2 ⊢
 have H72 := Lib.hid (H71.out.moved hM2 hne)
 have HB2 := Lib.hid (HB1.out.trans ((hM2.below_of (Nat.le_of_lt hbs1)).mono (by omega)))
 have HR2 := Lib.hid hR2
 have HX2 : Hid (Lies W2 (From (w.heap.size + 1)) r x) := hx.from_ (by omega)
 have hq2 : q2 = l.length - s2.length := by
  have h1 := hP2.len
  have h2 := hP2.le
  omega
 subst hq2
 clear hx hP2 hR2 hM2 H71 HB1 HR1 HRow1 HT1 HQ1 HKx HX
 obtain ⟨y1, y2, c0, c1, c2, c3, c4, c5, c6⟩ := H72.out
 have HV : Hid (RAt (((((((W2.setCell ⟨w.heap.size, 0, none⟩ (.int .i64 x.kind)).setCell ⟨w.heap.size, 1, none⟩ (.int .u64 (x.v.a : Int))).setCell ⟨w.heap.size, 2, none⟩ (.int .u64 (x.v.b : Int))).setCell ⟨w.heap.size, 3, none⟩ (.int .u64 (x.v.c : Int))).setCell ⟨w.heap.size, 4, none⟩ (.slice x.A x.v.pre.length x.c)).setCell ⟨w.heap.size, 5, none⟩ (.slice x.B x.v.build.length x.d)).setCell ⟨w.heap.size, 6, none⟩ (.slice x.L x.n x.e)) w.heap.size x) := setR_at H72.out
 have HRV : Hid (Rd (((((((W2.setCell ⟨w.heap.size, 0, none⟩ (.int .i64 x.kind)).setCell ⟨w.heap.size, 1, none⟩ (.int .u64 (x.v.a : Int))).setCell ⟨w.heap.size, 2, none⟩ (.int .u64 (x.v.b : Int))).setCell ⟨w.heap.size, 3, none⟩ (.int .u64 (x.v.c : Int))).setCell ⟨w.heap.size, 4, none⟩ (.slice x.A x.v.pre.length x.c)).setCell ⟨w.heap.size, 5, none⟩ (.slice x.B x.v.build.length x.d)).setCell ⟨w.heap.size, 6, none⟩ (.slice x.L x.n x.e)) b A n c (l.length - s2.length)) := setR_rd_lt HR2.out hne.symm
 have HBV : Hid (Below w.heap.size w (((((((W2.setCell ⟨w.heap.size, 0, none⟩ (.int .i64 x.kind)).setCell ⟨w.heap.size, 1, none⟩ (.int .u64 (x.v.a : Int))).setCell ⟨w.heap.size, 2, none⟩ (.int .u64 (x.v.b : Int))).setCell ⟨w.heap.size, 3, none⟩ (.int .u64 (x.v.c : Int))).setCell ⟨w.heap.size, 4, none⟩ (.slice x.A x.v.pre.length x.c)).setCell ⟨w.heap.size, 5, none⟩ (.slice x.B x.v.build.length x.d)).setCell ⟨w.heap.size, 6, none⟩ (.slice x.L x.n x.e))) := HB2.out.trans (setR_below _ (Nat.le_refl _) x)
 have HXV : Hid (Lies (((((((W2.setCell ⟨w.heap.size, 0, none⟩ (.int .i64 x.kind)).setCell ⟨w.heap.size, 1, none⟩ (.int .u64 (x.v.a : Int))).setCell ⟨w.heap.size, 2, none⟩ (.int .u64 (x.v.b : Int))).setCell ⟨w.heap.size, 3, none⟩ (.int .u64 (x.v.c : Int))).setCell ⟨w.heap.size, 4, none⟩ (.slice x.A x.v.pre.length x.c)).setCell ⟨w.heap.size, 5, none⟩ (.slice x.B x.v.build.length x.d)).setCell ⟨w.heap.size, 6, none⟩ (.slice x.L x.n x.e)) (From (w.heap.size + 1)) r x) := HX2.out.keep (setR_keep (Nat.not_succ_le_self _) x)
 go_upto_region 6 with (fail)
 clear y1 y2 c0 c1 c2 c3 c4 c5 c6 H72 HR2 HB2 HX2
 generalize (((((((W2.setCell ⟨w.heap.size, 0, none⟩ (.int .i64 x.kind)).setCell ⟨w.heap.size, 1, none⟩ (.int .u64 (x.v.a : Int))).setCell ⟨w.heap.size, 2, none⟩ (.int .u64 (x.v.b : Int))).setCell ⟨w.heap.size, 3, none⟩ (.int .u64 (x.v.c : Int))).setCell ⟨w.heap.size, 4, none⟩ (.slice x.A x.v.pre.length x.c)).setCell ⟨w.heap.size, 5, none⟩ (.slice x.B x.v.build.length x.d)).setCell ⟨w.heap.size, 6, none⟩ (.slice x.L x.n x.e)) = V at HV HRV HBV HXV ⊢
 have HVd : Hid (RAt V.drew w.heap.size x) := HV.out.drew
 have HRd : Hid (Rd V.drew b A n c (l.length - s2.length)) := HRV.out.drew
 refine wp_region_held_drew (S := fun w' => RAt w' w.heap.size x ∧ w'.cell? ⟨b, 1, none⟩ = some (.int .i64 ((l.length - s2.length : Nat) : Int))) (by kernel_rfl) ⟨HVd.out, HRd.out.at_⟩ (fun hHeld => ?_)
 refine tk 0 rfl (.agg #[.int .i64 x.kind, .int .u64 (x.v.a : Int), .int .u64 (x.v.b : Int), .int .u64 (x.v.c : Int), .slice x.A x.v.pre.length x.c, .slice x.B x.v.build.length x.d, .slice x.L x.n x.e]) ?_ fun w' hS' => by obtain ⟨_, _, x0, x1, x2, x3, x4, x5, x6⟩ := hS'.1; go_simp
 refine tk 1 rfl (.pointer (some ⟨b, 1, none⟩)) ?_
 refine tk 2 rfl (.int .i64 ((l.length - s2.length : Nat) : Int)) ?_ fun w' hS' => by have x := hS'.2; go_simp
 refine tk 3 rfl (.int .i64 (f : Int)) ?_
 refine cl 4 rfl fun K hK => ?_
 obtain ⟨z1, z2, x0, x1, x2, x3, x4, x5, x6⟩ := HV.out
 go_simp
 have HV2 : Hid (RAt (setR V w.heap.size x).drew w.heap.size x) := RAt.drew (setR_at HV.out)
 have HRV2 : Hid (Rd (setR V w.heap.size x).drew b A n c (l.length - s2.length)) := (setR_rd_lt HRV.out hne.symm).drew
 have HP2 : Hid (ParPost w (f, l.length - s2.length, r) (.returned (.tuple #[x.agg, .int .i64 ((l.length - s2.length : Nat) : Int), .int .i64 (f : Int)])) (setR V w.heap.size x).drew) := ParPost.drew (par_end HXV.out HBV.out)
 clear z1 z2 x0 x1 x2 x3 x4 x5 x6 hHeld
 refine hK.out _ _ ⟨HV2.out, HRV2.out.at_⟩ (fun hHeld => ?_)
 clear hK K
 try simp only [Act.put, p1, p2, p3]
 refine tk 5 rfl (.int .i64 ((l.length - s2.length : Nat) : Int)) ?_
 refine tk 6 rfl (.int .i64 (f : Int)) ?_
 refine wpAnyH_done (by kernel_rfl) ?_ _
 change Exit.then _ _ _ _ (setR V w.heap.size x).drew
 generalize (setR V w.heap.size x).drew = U at HV2 HP2 ⊢
 obtain ⟨z1, z2, x0, x1, x2, x3, x4, x5, x6⟩ := HV2.out
 go_wp2
 exact bodyPost_ret (v := .tuple #[.agg #[.int .i64 x.kind, .int .u64 (x.v.a : Int), .int .u64 (x.v.b : Int), .int .u64 (x.v.c : Int), .slice x.A x.v.pre.length x.c, .slice x.B x.v.build.length x.d, .slice x.L x.n x.e], .int .i64 ((l.length - s2.length : Nat) : Int), .int .i64 (f : Int)]) (by simp [results, Tryz.results49, go_sem, x0, x1, x2, x3, x4, x5, x6]) rfl HP2.out

theorem parse_any (A : Option Addr) (n c : Nat) (l : List UInt8) (p : Int) (w : World) (h : Row w A n l) (hc : n ≤ c) (hn : n ≤ 30000000) (ht : OpsTab w) :
  Calls Tryz.prog 49 #[.slice A n c, .int .i64 p] w (ParPost w (pparse l p)) := by
 by_cases ho : p < 0 ∨ (n : Int) < p
 ·exact parse_out A n c l p w h ho
 ·obtain ⟨k, rfl⟩ := Int.eq_ofNat_of_zero_le (show 0 ≤ p by omega)
  exact parse_in A n c l k w h hc hn (by omega) ht
theorem read_any (s : ByteArray) (w : World) (hs : s.size ≤ 30000000) (ht : OpsTab w) :
  Calls Tryz.prog 24 #[.string s] w (ParPost w (pread s.data.toList)) := by
 have HL := Lib.hid (Lib.size_eq s)
 obtain ⟨cc, W, hcc, hcv, hr, hb⟩ := run_bytes (w.alloc (.cells #[.int .i64 0, .int .u64 0, .int .u64 0, .int .u64 0, .slice none 0 0, .slice none 0 0, .slice none 0 0] 28)) s (by unfold maxLen; omega)
 have H7 : Hid (RAt W w.heap.size (zeroRV 0)) := (RAt.new w 28 (zeroRV 0)).kept hb (by simp)
 have HB : Hid (Below w.heap.size w W) := ((Below.refl w.heap.size w).alloc (Nat.le_refl _) _).trans (hb.mono (by simp))
 have HT : Hid (OpsTab W) := ht.keep (Keep.of_below HB.out)
 have hz : w.heap.size + 1 ≤ W.heap.size := by have := hb.size; simpa using this
 rw [size_alloc] at hr hcv
 have HR := Lib.hid hr
 clear hr hb ht
 generalize s.data.toList = l at HL HR
 have HP := Lib.hid (fun A n c W hW hc hn hT => parse_any A n c l 0 W hW hc hn hT)
 have HI : Hid (pread l = if (pparse l 0).1 ≠ 0 then ((pparse l 0).1, (pparse l 0).2.1, noRng) else if (pparse l 0).2.1 ≠ l.length then (13, (pparse l 0).2.1, noRng) else (0, 0, (pparse l 0).2.2)) := rfl
 obtain ⟨⟨f, q, r⟩, hk⟩ : ∃ t, pparse l 0 = t := ⟨_, rfl⟩
 rw [hk] at HP HI
 simp only at HI
 clear hk
 go_enter Tryz.func24, Tryz.ntmps24
 go_wp2_with fail
 refine (HP.out _ _ _ W HR.out hcc hs HT.out).mono ?_
 rintro e W1 ⟨x, rfl, hx, hb1⟩
 unfold RV.agg
 simp only at hx ⊢
 have H71 := Lib.hid (H7.out.kept hb1 (by omega))
 have HB1 := Lib.hid (HB.out.trans (hb1.mono (by omega)))
 have HX : Hid (Lies W1 (From (w.heap.size + 1)) r x) := hx.from_ (by omega)
 obtain ⟨y1, y2, c0, c1, c2, c3, c4, c5, c6⟩ := H71.out
 have HV : Hid (RAt (((((((W1.setCell ⟨w.heap.size, 0, none⟩ (.int .i64 x.kind)).setCell ⟨w.heap.size, 1, none⟩ (.int .u64 (x.v.a : Int))).setCell ⟨w.heap.size, 2, none⟩ (.int .u64 (x.v.b : Int))).setCell ⟨w.heap.size, 3, none⟩ (.int .u64 (x.v.c : Int))).setCell ⟨w.heap.size, 4, none⟩ (.slice x.A x.v.pre.length x.c)).setCell ⟨w.heap.size, 5, none⟩ (.slice x.B x.v.build.length x.d)).setCell ⟨w.heap.size, 6, none⟩ (.slice x.L x.n x.e)) w.heap.size x) := setR_at H71.out
 have HBV : Hid (Below w.heap.size w (((((((W1.setCell ⟨w.heap.size, 0, none⟩ (.int .i64 x.kind)).setCell ⟨w.heap.size, 1, none⟩ (.int .u64 (x.v.a : Int))).setCell ⟨w.heap.size, 2, none⟩ (.int .u64 (x.v.b : Int))).setCell ⟨w.heap.size, 3, none⟩ (.int .u64 (x.v.c : Int))).setCell ⟨w.heap.size, 4, none⟩ (.slice x.A x.v.pre.length x.c)).setCell ⟨w.heap.size, 5, none⟩ (.slice x.B x.v.build.length x.d)).setCell ⟨w.heap.size, 6, none⟩ (.slice x.L x.n x.e))) := HB1.out.trans (setR_below _ (Nat.le_refl _) x)
 have HXV : Hid (Lies (((((((W1.setCell ⟨w.heap.size, 0, none⟩ (.int .i64 x.kind)).setCell ⟨w.heap.size, 1, none⟩ (.int .u64 (x.v.a : Int))).setCell ⟨w.heap.size, 2, none⟩ (.int .u64 (x.v.b : Int))).setCell ⟨w.heap.size, 3, none⟩ (.int .u64 (x.v.c : Int))).setCell ⟨w.heap.size, 4, none⟩ (.slice x.A x.v.pre.length x.c)).setCell ⟨w.heap.size, 5, none⟩ (.slice x.B x.v.build.length x.d)).setCell ⟨w.heap.size, 6, none⟩ (.slice x.L x.n x.e)) (From (w.heap.size + 1)) r x) := HX.out.keep (setR_keep (Nat.not_succ_le_self _) x)
 clear hx hb1 H7 HB HT hcv HR
 go_upto_region 2 with (fail)
 clear y1 y2 c0 c1 c2 c3 c4 c5 c6 H71 HB1 HX
 generalize (((((((W1.setCell ⟨w.heap.size, 0, none⟩ (.int .i64 x.kind)).setCell ⟨w.heap.size, 1, none⟩ (.int .u64 (x.v.a : Int))).setCell ⟨w.heap.size, 2, none⟩ (.int .u64 (x.v.b : Int))).setCell ⟨w.heap.size, 3, none⟩ (.int .u64 (x.v.c : Int))).setCell ⟨w.heap.size, 4, none⟩ (.slice x.A x.v.pre.length x.c)).setCell ⟨w.heap.size, 5, none⟩ (.slice x.B x.v.build.length x.d)).setCell ⟨w.heap.size, 6, none⟩ (.slice x.L x.n x.e)) = V at HV HBV HXV ⊢
 obtain ⟨y1, y2, c0, c1, c2, c3, c4, c5, c6⟩ := HV.out
 by_cases h0 : f = 0
 ·subst h0
  by_cases h1 : q = s.size
  ·have HI2 : Hid (pread l = (0, 0, r)) := HI.out.trans ((if_neg (by simp)).trans (if_neg (by rw [← HL.out]; simpa using h1)))
   have hb1 : ((q : Int) != (s.size : Int)) = false := by simp [h1]
   clear h1 HI
   go_wp2
   exact bodyPost_ret (v := .tuple #[.agg #[.int .i64 x.kind, .int .u64 (x.v.a : Int), .int .u64 (x.v.b : Int), .int .u64 (x.v.c : Int), .slice x.A x.v.pre.length x.c, .slice x.B x.v.build.length x.d, .slice x.L x.n x.e], .int .i64 0, .int .i64 0]) (by simp [results, Tryz.results24, go_sem, c0, c1, c2, c3, c4, c5, c6]) rfl (by rw [HI2.out]; exact par_end (x := x) (f := 0) (q := 0) HXV.out HBV.out)
  ·have HI2 : Hid (pread l = (13, q, noRng)) := HI.out.trans ((if_neg (by simp)).trans (if_pos (by rw [← HL.out]; exact h1)))
   have hb1 : ((q : Int) != (s.size : Int)) = true := by simp; omega
   clear h1 HI
   go_wp2
   exact bodyPost_ret (v := .tuple #[.agg #[.int .i64 0, .int .u64 0, .int .u64 0, .int .u64 0, .slice none 0 0, .slice none 0 0, .slice none 0 0], .int .i64 (q : Int), .int .i64 13]) (by simp [results, Tryz.results24, go_sem, c0, c1, c2, c3, c4, c5, c6]) rfl (by rw [HI2.out]; exact par_end (x := zeroRV 0) (f := 13) (Lies.zero _ _ 0) HBV.out)
 ·have HI2 : Hid (pread l = (f, q, noRng)) := HI.out.trans (if_pos h0)
  have hb1 : ((f : Int) != 0) = true := by simp [h0]
  have hb2 : ((f : Int) == 0) = false := by simp [h0]
  clear h0 HI
  go_wp2
  exact bodyPost_ret (v := .tuple #[.agg #[.int .i64 0, .int .u64 0, .int .u64 0, .int .u64 0, .slice none 0 0, .slice none 0 0, .slice none 0 0], .int .i64 (q : Int), .int .i64 (f : Int)]) (by simp [results, Tryz.results24, go_sem, c0, c1, c2, c3, c4, c5, c6]) rfl (by rw [HI2.out]; exact par_end (x := zeroRV 0) (Lies.zero _ _ 0) HBV.out)
end Go.Proofs.YtgfbflnhjpbceaaGreatDoor.Range
namespace Go.Proofs.YtgfbflnhjpbceaaGreatDoor.Nrm
open Go.RowKit Num Ident Semver Prec Span
open Range (Rng noRng goodR goodL fits wt wtL)
def exA : List UInt8 := (⟨#[94, 49, 46, 50, 46, 48, 44, 32, 33, 61, 49, 46, 51, 46, 48]⟩ : ByteArray).data.toList
def exT : List UInt8 := (⟨#[62, 61, 49, 46, 50, 46, 48, 44, 32, 60, 50, 46, 48, 46, 48, 45, 48, 44, 32, 33, 61, 49, 46, 51, 46, 48]⟩ : ByteArray).data.toList
def v120 : Ver := ⟨1, 2, 0, [], []⟩
def v130 : Ver := ⟨1, 3, 0, [], []⟩
def rA : Rng := .mk 9 noVer [.mk 7 v120 [], .mk 6 v130 []]
def oA : List Sp := [⟨aheadOf v120, aheadOf v130⟩, ⟨behindOf v130, ⟨1, firstV 2 0 0⟩⟩]
theorem exA_read : Range.pread exA = (0, 0, rA) := by rfl
theorem rA_good : goodR rA 0 = true := by decide
theorem oA_norm : Span.Norm oA := (goodS_norm oA).1 (by decide)
theorem oA_chain : Chain oA := fun i hi => by
 have : i = 0 := by have : oA.length = 2 := rfl; omega
 subst this; decide
theorem oA_set : SetOf rA oA := by
 refine ⟨oA_norm, fun c => ?_⟩
 rw [row_sem oA oA_norm (by simp [oA]) oA_chain c]
 show (stand (aheadOf v120) c ≤ 0 ∧ stand c ⟨1, firstV 2 0 0⟩ < 0 ∧ ∀ s ∈ [(⟨aheadOf v120, aheadOf v130⟩ : Sp)], ¬ inOne ⟨aheadOf s.hi.v, behindOf s.hi.v⟩ c) ↔ inC rA c
 have hv : goodV v120 = true := by decide
 unfold rA
 rw [inC_and]
 simp only [List.mem_cons, List.mem_nil_iff, or_false, forall_eq_or_imp, forall_eq]
 rw [inC_ver (by omega) (by omega), inC_ver (by omega) (by omega)]
 have h7 : inK 7 v120 c ↔ stand (aheadOf v120) c ≤ 0 ∧ stand c ⟨1, firstV 2 0 0⟩ < 0 := Iff.rfl
 have h6 : inK 6 v130 c ↔ ¬ inOne ⟨aheadOf v130, behindOf v130⟩ c := Iff.rfl
 rw [h7, h6]
 have hw : stand (aheadOf v120) c ≤ 0 ∧ stand c ⟨1, firstV 2 0 0⟩ < 0 → inOne ⟨low, high⟩ c := fun h => within (s := ⟨aheadOf v120, ⟨1, firstV 2 0 0⟩⟩) (ahead_right hv) (by decide) h
 constructor
 ·rintro ⟨a, b, d⟩
  exact ⟨hw ⟨a, b⟩, ⟨hw ⟨a, b⟩, a, b⟩, hw ⟨a, b⟩, d⟩
 ·rintro ⟨_, ⟨_, a, b⟩, _, d⟩
  exact ⟨a, b, d⟩
theorem oA_text : Range.textR (plainR oA) = exT := by decide +kernel
end Go.Proofs.YtgfbflnhjpbceaaGreatDoor.Nrm
namespace Go.Proofs.YtgfbflnhjpbceaaGreatDoor.Nrm
open Go.RowKit Num Ident Semver Prec Span
open Range (Rng noRng goodR goodL fits RV RAt RgRow LtB wt wtL wtL_len wt_mem KeepS zeroRV)
def RngPost (w : World) (S : Nat → Prop) (r : Rng) (e : Ending) (w' : World) : Prop := ∃ x : RV, e = .returned x.agg ∧ Range.Lies w' S r x ∧ Below w.heap.size w w'
theorem keepR {w W : World} {S : Nat → Prop} (hS : ∀ g, S g → g < w.heap.size) (hb : Below w.heap.size w W) (x : RV) : KeepS S w (Range.setR W w.heap.size x) :=
 (KeepS.of_below hb).trans (Range.setR_keep (fun h => Nat.lt_irrefl _ (hS _ h)) x)
theorem lies_lt {w : World} {S : Nat → Prop} {L : Option Addr} {n : Nat} {l : List Rng} (h : RgRow w S L n l) : RgRow w (fun g => S g ∧ g < w.heap.size) L n l := by
 obtain ⟨f, h1, h2, h3⟩ := h
 refine ⟨f, h1, fun h0 => ?_, fun j hj => (h3 j hj).mono fun g hS hg => ⟨hS, hg⟩⟩
 obtain ⟨b, o, e, hb, hc⟩ := h2 h0
 exact ⟨b, o, e, ⟨hb, (hc 0 h0).lt⟩, hc⟩
theorem joined_any (k : Int) (L : Option Addr) (n e : Nat) (l : List Rng) (S : Nat → Prop) (w : World) (hl0 : RgRow w S L n l) (he : n ≤ e) (hnil : L = none → e = 0) (hn : n ≤ 1000000) :
  Calls Tryz.prog 40 #[.int .i64 k, .slice L n e] w (RngPost w S (few k l)) := by
 have hl := lies_lt hl0
 have HL := Lib.hid hl
 have HNil := Lib.hid hnil
 have hln : l.length = n := by obtain ⟨f, h1, _⟩ := hl; exact h1
 have HB : Hid (Below w.heap.size w (w.alloc (.cells #[.int .i64 0, .int .u64 0, .int .u64 0, .int .u64 0, .slice none 0 0, .slice none 0 0, .slice none 0 0] 28))) := (Below.refl _ _).alloc (Nat.le_refl _) _
 have HR : Hid (RAt (w.alloc (.cells #[.int .i64 0, .int .u64 0, .int .u64 0, .int .u64 0, .slice none 0 0, .slice none 0 0, .slice none 0 0] 28)) w.heap.size (zeroRV 0)) := RAt.new w _ (zeroRV 0)
 have HM : Hid (∀ (w' : World) (q : Rng) (x : RV), Range.Lies w' (fun g => S g ∧ g < w.heap.size) q x → Range.Lies w' S q x) := fun w' q x h => h.mono fun g hS _ => hS.1
 clear hl hl0 hnil
 go_enter Tryz.func40, Tryz.ntmps40
 go_upto_region 1 with (fail)
 generalize (w.alloc (.cells #[.int .i64 0, .int .u64 0, .int .u64 0, .int .u64 0, .slice none 0 0, .slice none 0 0, .slice none 0 0] 28)) = W at HB HR ⊢
 obtain ⟨y1, y2, c0, c1, c2, c3, c4, c5, c6⟩ := HR.out
 simp only [zeroRV] at c0 c1 c2 c3 c4 c5 c6
 by_cases h0 : n = 0
 ·obtain rfl : l = [] := List.eq_nil_of_length_eq_zero (hln.trans h0)
  have q0 : ((n : Int) == 0) = true := by simp [h0]
  clear h0
  have HK9 := Lib.hid (Range.setR_at (x := (zeroRV 0)) HR.out)
  have HB9 : Hid (Below w.heap.size w (Range.setR W w.heap.size (zeroRV 0))) := HB.out.trans ((Range.setR_below w.heap.size (Nat.le_refl _) (zeroRV 0)).mono (Nat.le_refl _))
  have HS9 : Hid (Range.Lies (Range.setR W w.heap.size (zeroRV 0)) S (few k []) (zeroRV 0)) := by rw [few_none]; exact Range.Lies.zero _ _ 0
  go_wp2
  change bodyPost _ _ _ _ _ (Range.setR W w.heap.size (zeroRV 0))
  generalize Range.setR W w.heap.size (zeroRV 0) = W9 at HK9 HB9 HS9 ⊢
  obtain ⟨_, _, z0, z1, z2, z3, z4, z5, z6⟩ := HK9.out
  exact bodyPost_ret (v := .agg #[.int .i64 (zeroRV 0).kind, .int .u64 ((zeroRV 0).v.a : Int), .int .u64 ((zeroRV 0).v.b : Int), .int .u64 ((zeroRV 0).v.c : Int), .slice (zeroRV 0).A (zeroRV 0).v.pre.length (zeroRV 0).c, .slice (zeroRV 0).B (zeroRV 0).v.build.length (zeroRV 0).d, .slice (zeroRV 0).L (zeroRV 0).n (zeroRV 0).e]) (by simp [results, Tryz.results40, go_sem, z0, z1, z2, z3, z4, z5, z6]) rfl ⟨(zeroRV 0), rfl, HS9.out, HB9.out⟩
 ·have q0 : ((n : Int) == 0) = false := by simp [h0]
  by_cases h1 : n = 1
  ·obtain ⟨q, rfl⟩ := List.length_eq_one_iff.1 (hln.trans h1)
   obtain ⟨b, o, y, hLe, hSb, hcl, hy⟩ := HL.out.one (show 0 < n by omega)
   have hy' : Range.Lies w (fun g => S g ∧ g < w.heap.size) q y := hy
   simp only [Nat.zero_mul, Nat.add_zero] at hcl
   obtain ⟨e0, e1, e2, e3, e4, e5, e6⟩ := (hcl.keep (KeepS.of_below (S := fun g => S g ∧ g < w.heap.size) HB.out) hSb).cells
   have q1 : ((n : Int) == 1) = true := by simp [h1]
   have hne : b ≠ w.heap.size := Nat.ne_of_lt hSb.2
   rw [hLe]
   clear h0 hcl hy hLe hSb
   have HK9 := Lib.hid (Range.setR_at (x := y) HR.out)
   have HB9 : Hid (Below w.heap.size w (Range.setR W w.heap.size y)) := HB.out.trans ((Range.setR_below w.heap.size (Nat.le_refl _) y).mono (Nat.le_refl _))
   have HS9 : Hid (Range.Lies (Range.setR W w.heap.size y) S (few k [q]) y) := by rw [few_one]; exact HM.out _ _ _ (hy'.keep (keepR (fun g h => h.2) HB.out y))
   go_wp2
   change bodyPost _ _ _ _ _ (Range.setR W w.heap.size y)
   generalize Range.setR W w.heap.size y = W9 at HK9 HB9 HS9 ⊢
   obtain ⟨_, _, z0, z1, z2, z3, z4, z5, z6⟩ := HK9.out
   exact bodyPost_ret (v := .agg #[.int .i64 y.kind, .int .u64 (y.v.a : Int), .int .u64 (y.v.b : Int), .int .u64 (y.v.c : Int), .slice y.A y.v.pre.length y.c, .slice y.B y.v.build.length y.d, .slice y.L y.n y.e]) (by simp [results, Tryz.results40, go_sem, z0, z1, z2, z3, z4, z5, z6]) rfl ⟨y, rfl, HS9.out, HB9.out⟩
  ·have q1 : ((n : Int) == 1) = false := beq_eq_false_iff_ne.2 (by omega)
   have h2 : 2 ≤ l.length := by omega
   clear h0 h1
   have HK9 := Lib.hid (Range.setR_at (x := (⟨k, noVer, none, 0, none, 0, L, n, e⟩ : RV)) HR.out)
   have HB9 : Hid (Below w.heap.size w (Range.setR W w.heap.size (⟨k, noVer, none, 0, none, 0, L, n, e⟩ : RV))) := HB.out.trans ((Range.setR_below w.heap.size (Nat.le_refl _) (⟨k, noVer, none, 0, none, 0, L, n, e⟩ : RV)).mono (Nat.le_refl _))
   have HS9 : Hid (Range.Lies (Range.setR W w.heap.size (⟨k, noVer, none, 0, none, 0, L, n, e⟩ : RV)) S (few k l) (⟨k, noVer, none, 0, none, 0, L, n, e⟩ : RV)) := by rw [few_more k h2]; exact HM.out _ _ _ (Range.Lies.many k (HL.out.keep (keepR (fun g h => h.2) HB.out (⟨k, noVer, none, 0, none, 0, L, n, e⟩ : RV))) he HNil.out)
   go_wp2
   change bodyPost _ _ _ _ _ (Range.setR W w.heap.size (⟨k, noVer, none, 0, none, 0, L, n, e⟩ : RV))
   generalize Range.setR W w.heap.size (⟨k, noVer, none, 0, none, 0, L, n, e⟩ : RV) = W9 at HK9 HB9 HS9 ⊢
   obtain ⟨_, _, z0, z1, z2, z3, z4, z5, z6⟩ := HK9.out
   exact bodyPost_ret (v := .agg #[.int .i64 k, .int .u64 0, .int .u64 0, .int .u64 0, .slice none 0 0, .slice none 0 0, .slice L n e]) (by simp [results, Tryz.results40, go_sem, z0, z1, z2, z3, z4, z5, z6, noVer]) rfl ⟨(⟨k, noVer, none, 0, none, 0, L, n, e⟩ : RV), rfl, HS9.out, HB9.out⟩
end Go.Proofs.YtgfbflnhjpbceaaGreatDoor.Nrm
namespace Go.Proofs.YtgfbflnhjpbceaaGreatDoor.Span
open Go.RowKit Num Ident Semver Prec

theorem sp_at (l : List RSp) (i : Nat) : (l.map RSp.sp).getD i default = (l.getD i default).sp := by
 by_cases h : i < l.length
 ·simp [List.getD, List.getElem?_eq_getElem h]
 ·simp [List.getD, List.getElem?_eq_none (Nat.le_of_not_lt h)]; rfl
def SpAt (w : World) (b o : Nat) (s : RSp) : Prop := ∀ i v, s.vals[i]? = some v → w.cell? ⟨b, o + i, none⟩ = some v
theorem SpAt.kept {w w' : World} {b o : Nat} {s : RSp} (h : SpAt w b o s) (hb : Below w.heap.size w w') (hlt : b < w.heap.size) : SpAt w' b o s := fun i v hv => (hb.cell (p := ⟨b, o + i, none⟩) hlt).trans (h i v hv)
theorem SpAt.cells {w : World} {b o : Nat} {s : RSp} (h : SpAt w b o s) : w.cell? ⟨b, o, none⟩ = some (.int .i64 s.lo.kind) ∧ w.cell? ⟨b, o + 1, none⟩ = some (.int .u64 (s.lo.v.a : Int)) ∧ w.cell? ⟨b, o + 2, none⟩ = some (.int .u64 (s.lo.v.b : Int)) ∧ w.cell? ⟨b, o + 3, none⟩ = some (.int .u64 (s.lo.v.c : Int)) ∧ w.cell? ⟨b, o + 4, none⟩ = some (.slice s.lo.A s.lo.v.pre.length s.lo.c) ∧ w.cell? ⟨b, o + 5, none⟩ = some (.slice s.lo.B s.lo.v.build.length s.lo.d) ∧ w.cell? ⟨b, o + 6, none⟩ = some (.int .i64 s.hi.kind) ∧ w.cell? ⟨b, o + 7, none⟩ = some (.int .u64 (s.hi.v.a : Int)) ∧ w.cell? ⟨b, o + 8, none⟩ = some (.int .u64 (s.hi.v.b : Int)) ∧ w.cell? ⟨b, o + 9, none⟩ = some (.int .u64 (s.hi.v.c : Int)) ∧ w.cell? ⟨b, o + 10, none⟩ = some (.slice s.hi.A s.hi.v.pre.length s.hi.c) ∧ w.cell? ⟨b, o + 11, none⟩ = some (.slice s.hi.B s.hi.v.build.length s.hi.d) :=
 ⟨h 0 _ rfl, h 1 _ rfl, h 2 _ rfl, h 3 _ rfl, h 4 _ rfl, h 5 _ rfl, h 6 _ rfl, h 7 _ rfl, h 8 _ rfl, h 9 _ rfl, h 10 _ rfl, h 11 _ rfl⟩
end Go.Proofs.YtgfbflnhjpbceaaGreatDoor.Span
namespace Go.Proofs.YtgfbflnhjpbceaaGreatDoor.Nrm
open Go.RowKit Num Ident Semver Prec Span
open Range (Rng noRng goodR goodL fits RV RAt RgRow LtB InS wt wtL wtL_len wt_mem KeepS zeroRV)
def verRV (k : Int) (r : RCut) : RV := ⟨k, r.v, r.A, r.c, r.B, r.d, none, 0, 0⟩
def Strs (w : World) (B : Nat) (g : Nat) : Prop := B ≤ g ∧ (w.heap.size < g ∨ ∃ c, w.heap[g]? = some (.cells c 9 (0, 0)))
theorem strs_not (w : World) (B : Nat) : ¬ Strs w B w.heap.size := by
 rintro ⟨_, h | ⟨c, h⟩⟩
 ·omega
 ·rw [Array.getElem?_eq_none (Nat.le_refl _)] at h; cases h
theorem lies_ver {w W : World} {B : Nat} {r : RCut} (h : OwnC w B r) (hb : Below w.heap.size w W) (hg : goodV r.v = true) (k : Int) : Range.Lies W (Strs w B) (.mk k r.v []) (verRV k r) := by
 have hl := h.lies.kept hb
 refine Range.Lies.version k r.v r.A r.c r.B r.d hl.pre hl.build (fun h0 => ?_) (by rw [h.build]; exact InS.none_ _ _) h.cap (by rw [h.build]; exact Nat.zero_le _) (Range.fit_good hg)
 rcases h.own.2 with ⟨e1, _⟩ | ⟨g, cap, cur, e1, hg0, hgh, _⟩
 ·injection e1 with e1 e2 e3; omega
 ·injection e1 with e1 e2 e3
  exact ⟨g, 0, e1, hg0, .inr ⟨cur, hgh⟩⟩
def rvs (qs : List (Int × RCut)) : List RV := qs.map fun q => verRV q.1 q.2
def rgs (qs : List (Int × RCut)) : List Rng := qs.map fun q => Rng.mk q.1 q.2.v []
def loQ (r : RCut) : List (Int × RCut) := if r.kind = 1 then [(1, r)] else if r.kind = 2 then [(2, r)] else []
def hiQ (r : RCut) : List (Int × RCut) := if r.kind = 1 then [(4, r)] else if r.kind = 2 then [(3, r)] else []
def neQ (l : List RSp) : List (Int × RCut) := l.map fun s => (6, s.hi)
theorem loQ_part (r : RCut) : rgs (loQ r) = loPart r.cut := by
 unfold loQ loPart
 by_cases h1 : r.kind = 1
 ·rw [if_pos h1, if_pos (show r.cut.kind = 1 from h1)]; rfl
 ·by_cases h2 : r.kind = 2
  ·rw [if_neg h1, if_pos h2, if_neg (show ¬ r.cut.kind = 1 from h1), if_pos (show r.cut.kind = 2 from h2)]; rfl
  ·rw [if_neg h1, if_neg h2, if_neg (show ¬ r.cut.kind = 1 from h1), if_neg (show ¬ r.cut.kind = 2 from h2)]; rfl
theorem hiQ_part (r : RCut) : rgs (hiQ r) = hiPart r.cut := by
 unfold hiQ hiPart
 by_cases h1 : r.kind = 1
 ·rw [if_pos h1, if_pos (show r.cut.kind = 1 from h1)]; rfl
 ·by_cases h2 : r.kind = 2
  ·rw [if_neg h1, if_pos h2, if_neg (show ¬ r.cut.kind = 1 from h1), if_pos (show r.cut.kind = 2 from h2)]; rfl
  ·rw [if_neg h1, if_neg h2, if_neg (show ¬ r.cut.kind = 1 from h1), if_neg (show ¬ r.cut.kind = 2 from h2)]; rfl
theorem neQ_part (l : List RSp) : rgs (neQ l) = (l.map RSp.sp).map neOf := by
 unfold rgs neQ
 rw [List.map_map, List.map_map]; rfl
def allQ (l : List RSp) (p : Nat) : List (Int × RCut) := loQ (l.getD 0 default).lo ++ hiQ (l.getD p default).hi ++ neQ (l.take p)
theorem allQ_parts {l : List RSp} {p : Nat} (h : l.length = p + 1) : rgs (allQ l p) = parts (l.map RSp.sp) := by
 have e : rgs (allQ l p) = rgs (loQ (l.getD 0 default).lo) ++ rgs (hiQ (l.getD p default).hi) ++ rgs (neQ (l.take p)) := by
  unfold allQ rgs; rw [List.map_append, List.map_append]
 rw [e, loQ_part, hiQ_part, neQ_part]
 unfold parts lastOf
 rw [List.length_map, h, Nat.add_sub_cancel, sp_at, sp_at, List.map_take]; rfl
theorem loQ_mem {r : RCut} {q : Int × RCut} (h : q ∈ loQ r) : q.2 = r := by
 unfold loQ at h
 split at h
 ·rw [List.mem_singleton] at h; subst h; rfl
 ·split at h
  ·rw [List.mem_singleton] at h; subst h; rfl
  ·cases h
theorem hiQ_mem {r : RCut} {q : Int × RCut} (h : q ∈ hiQ r) : q.2 = r := by
 unfold hiQ at h
 split at h
 ·rw [List.mem_singleton] at h; subst h; rfl
 ·split at h
  ·rw [List.mem_singleton] at h; subst h; rfl
  ·cases h
theorem allQ_own {w : World} {B p : Nat} {l : List RSp} (h : l.length = p + 1) (ho : ∀ s ∈ l, OwnsS w B s) : ∀ q ∈ allQ l p, OwnC w B q.2 := by
 intro q hq
 unfold allQ at hq
 rcases List.mem_append.1 hq with hq | hq
 ·rcases List.mem_append.1 hq with hq | hq
  ·rw [loQ_mem hq]; exact (ho _ (getS_mem (by omega))).1
  ·rw [hiQ_mem hq]; exact (ho _ (getS_mem (by omega))).2
 ·unfold neQ at hq
  obtain ⟨s, hs, rfl⟩ := List.mem_map.1 hq
  exact (ho s (List.mem_of_mem_take hs)).2
theorem allQ_good {l : List RSp} {p : Nat} (h : l.length = p + 1) (hN : Span.Norm (l.map RSp.sp)) (hc : Chain (l.map RSp.sp)) : ∀ q ∈ allQ l p, goodV q.2.v = true := by
 intro q hq
 have hm : Rng.mk q.1 q.2.v [] ∈ parts (l.map RSp.sp) := by
  rw [← allQ_parts h]; exact List.mem_map_of_mem (f := fun q : Int × RCut => Rng.mk q.1 q.2.v []) hq
 obtain ⟨k, v, e, _, _, hv⟩ := parts_ver hN (by intro e; have := congrArg List.length e; simp [h] at this) hc _ hm
 injection e with _ e2 _
 rw [e2]; exact hv
theorem At6B.grown {w w' : World} {row : Option Nat} {b : Nat} {u0 u1 u2 u3 u4 u5 : Value} (h : At6B w b u0 u1 u2 u3 u4 u5) (hg : w.grownBy w' row) (hne : some b ≠ row) : At6B w' b u0 u1 u2 u3 u4 u5 := by
 obtain ⟨h1, h2, c0, c1, c2, c3, c4, c5⟩ := h
 have k := hg.block b h1 hne
 have kc : ∀ o, w'.cell? ⟨b, o, none⟩ = w.cell? ⟨b, o, none⟩ := fun o => World.cell?_of_block (w := w) (a := ⟨b, o, none⟩) k
 exact ⟨Nat.lt_of_lt_of_le h1 hg.size, fun o => (World.frozen?_of_block (w := w) (a := ⟨b, o, none⟩) k).trans (h2 o), (kc 0).trans c0, (kc 1).trans c1, (kc 2).trans c2, (kc 3).trans c3, (kc 4).trans c4, (kc 5).trans c5⟩
def CutIn (W : World) (b : Nat) (r : RCut) : Prop := At6B W b (.int .i64 r.kind) (.int .u64 (r.v.a : Int)) (.int .u64 (r.v.b : Int)) (.int .u64 (r.v.c : Int)) (.slice r.A r.v.pre.length r.c) (.slice r.B r.v.build.length r.d)
structure PcAt (w W : World) (p5 p6 : Nat) (lo hi : RCut) (v : Value) (qs : List (Int × RCut)) : Prop where
 own : W.ownsRow (w.heap.size + 1) 28 7 v qs.length ((rvs qs).flatMap RV.vals)
 a5 : CutIn W p5 lo
 a6 : CutIn W p6 hi
 res : RAt W w.heap.size (zeroRV 0)
 bel : Below w.heap.size w W
 apart : ∀ g, v.ownBlock = some g → g ≠ p5 ∧ g ≠ p6
theorem PcAt.start {w W : World} {p5 p6 : Nat} {lo hi : RCut} (a5 : CutIn W p5 lo) (a6 : CutIn W p6 hi) (res : RAt W w.heap.size (zeroRV 0)) (bel : Below w.heap.size w W) : PcAt w W p5 p6 lo hi (.slice none 0 0) [] :=
 ⟨World.ownsRow_nil _ _ _ _, a5, a6, res, bel, fun g h => by cases h⟩
theorem PcAt.kept {w W W' : World} {p5 p6 : Nat} {lo hi : RCut} {v : Value} {qs : List (Int × RCut)} (h : PcAt w W p5 p6 lo hi v qs) (hb : Below W.heap.size W W') : PcAt w W' p5 p6 lo hi v qs :=
 ⟨own_below h.own hb, Span.At6B.kept h.a5 hb h.a5.1, Span.At6B.kept h.a6 hb h.a6.1, h.res.kept hb h.res.1, h.bel.trans (hb.mono h.bel.size), h.apart⟩
theorem PcAt.more {w W W' : World} {p5 p6 : Nat} {lo hi : RCut} {v v' : Value} {qs : List (Int × RCut)} (h : PcAt w W p5 p6 lo hi v qs) (k : Int) (r : RCut) (ho : W'.ownsRow (w.heap.size + 1) 28 7 v' (qs.length + 1) ((rvs qs ++ [verRV k r]).flatMap RV.vals)) (hg : W.grownBy W' v.ownBlock)
  (hat : v'.ownBlock = v.ownBlock ∨ v'.ownBlock = some W.heap.size) : PcAt w W' p5 p6 lo hi v' (qs ++ [(k, r)]) := by
 have ne5 : some p5 ≠ v.ownBlock := fun e => (h.apart p5 e.symm).1 rfl
 have ne6 : some p6 ≠ v.ownBlock := fun e => (h.apart p6 e.symm).2 rfl
 have ner : some w.heap.size ≠ v.ownBlock := fun e => by have := (h.own.lt _ e.symm).1; omega
 refine ⟨?_, At6B.grown h.a5 hg ne5, At6B.grown h.a6 hg ne6, h.res.grown hg ner, h.bel.trans ((Below.refl _ _).grown hg h.bel.size fun g e => by have := (h.own.lt _ e).1; omega), fun g e => ?_⟩
 ·rw [List.length_append]
  have e : rvs (qs ++ [(k, r)]) = rvs qs ++ [verRV k r] := by unfold rvs; rw [List.map_append]; rfl
  rw [e]; exact ho
 ·rcases hat with e2 | e2
  ·exact h.apart g (e2 ▸ e)
  ·rw [e2] at e
   injection e with e
   have h5 := h.a5.1
   have h6 := h.a6.1
   exact ⟨by omega, by omega⟩
theorem PcAt.row {w W : World} {p5 p6 B : Nat} {lo hi : RCut} {v : Value} {qs : List (Int × RCut)} (h : PcAt w W p5 p6 lo hi v qs) (hB : B ≤ w.heap.size) (ho : ∀ q ∈ qs, OwnC w B q.2) (hg : ∀ q ∈ qs, goodV q.2.v = true) :
  ∃ L e, v = .slice L qs.length e ∧ qs.length ≤ e ∧ (L = none → e = 0) ∧ RgRow W (Strs w B) L qs.length (rgs qs) := by
 refine Range.RgRow.of_own h.own (fun g hg => ⟨by omega, .inl (by omega)⟩) (by unfold rvs; rw [List.length_map]) (by unfold rgs; rw [List.length_map]) fun j hj => ?_
 have hm : qs[j] ∈ qs := List.getElem_mem hj
 have e1 : (rgs qs).getD j noRng = .mk qs[j].1 qs[j].2.v [] := by
  unfold rgs; rw [List.getD_eq_getElem?_getD, List.getElem?_map, List.getElem?_eq_getElem hj]; rfl
 have e2 : (rvs qs).getD j default = verRV qs[j].1 qs[j].2 := by
  unfold rvs; rw [List.getD_eq_getElem?_getD, List.getElem?_map, List.getElem?_eq_getElem hj]; rfl
 rw [e1, e2]
 exact lies_ver (ho _ hm) h.bel (hg _ hm) _
end Go.Proofs.YtgfbflnhjpbceaaGreatDoor.Nrm
