/-
  What the theorem of the last text needs of these: RgIn, RgOne. Conditions: as each theorem states.
-/
import Derived.Test.YtgfbflnhjpbceaaGreatDoorAgaB1
import Derived.Test.YtgfbflnhjpbceaaGreatDoorAgaB26
set_option maxRecDepth 100000
set_option maxHeartbeats 25600000
namespace Go.Proofs.YtgfbflnhjpbceaaGreatDoor.Range
open Go.RowKit Num Ident Semver

def insideF (deep : Int) (m : Nat) (pf : List UInt8 → Out) (s : List UInt8) : Out := if deep = 64 then (8, s, noRng) else pf (blanks (s.drop m))
theorem insideE (b : Nat) (A : Option Addr) (n c : Nat) (l : List UInt8) (p : Nat) (s mark : List UInt8) (deep : Int) (pf : List UInt8 → Out) (w : World) (hR : Rd w b A n c p) (hr : Row w A n l) (hs : Pl l p s) (ht : OpsTab w) (hd : 0 ≤ deep ∧ deep ≤ 64) (hst : stands mark s = true) (hp : deep ≠ 64 → PartOK 88 b A n c l (deep + 1) pf) :
  Calls Tryz.prog 169 #[.pointer (some ⟨b, 0, none⟩), .string (mk mark), .int .i64 deep, .func (.func 88) #[.pointer (some ⟨b, 0, none⟩)] #[]] w (RgPost b A n c l w (insideF deep mark.length pf s)) := by
 have hpm : p + mark.length ≤ n := by
  have h1 := stands_len hst
  rw [hs.len, hr.1] at h1
  have h2 := hs.le
  rw [hr.1] at h2
  omega
 have hbw := hR.lt
 have HP := Lib.hid hs
 have HL := Lib.hid hr.1
 have HR := Lib.hid hR
 have HRow := Lib.hid hr
 have HT := Lib.hid ht
 have H7 : Hid (RAt (w.alloc (.cells #[.int .i64 0, .int .u64 0, .int .u64 0, .int .u64 0, .slice none 0 0, .slice none 0 0, .slice none 0 0] 28)) w.heap.size (zeroRV 0)) := RAt.new w 28 (zeroRV 0)
 have HM : Hid (Moved b w (w.alloc (.cells #[.int .i64 0, .int .u64 0, .int .u64 0, .int .u64 0, .slice none 0 0, .slice none 0 0, .slice none 0 0] 28))) := (Moved.refl b w).alloc hbw _
 have HR0 : Hid (Rd (w.alloc (.cells #[.int .i64 0, .int .u64 0, .int .u64 0, .int .u64 0, .slice none 0 0, .slice none 0 0, .slice none 0 0] 28)) b A n c p) := hR.alloc _
 have HRow0 : Hid (Row (w.alloc (.cells #[.int .i64 0, .int .u64 0, .int .u64 0, .int .u64 0, .slice none 0 0, .slice none 0 0, .slice none 0 0] 28)) A n l) := hr.kept ((Below.refl _ _).alloc (Nat.le_refl _) _)
 have HT0 : Hid (OpsTab (w.alloc (.cells #[.int .i64 0, .int .u64 0, .int .u64 0, .int .u64 0, .slice none 0 0, .slice none 0 0, .slice none 0 0] 28))) := ht.keep (Keep.of_below ((Below.refl _ _).alloc (Nat.le_refl _) _))
 have hne : w.heap.size ≠ b := by omega
 have hmf : ∀ (fn : Fn) (first cap : Array Value) (w : World), (Instr.makeFunc fn first cap).run Tryz.prog w = .ok (.func fn first cap) w := fun _ _ _ _ => rfl
 clear hR hr hs ht
 by_cases h64 : deep = 64
 ·have HF : Hid (insideF deep mark.length pf s = (8, s, noRng)) := if_pos h64
  subst h64
  clear hp hst
  obtain ⟨y1, y2, c0, c1, c2, c3, c4, c5, c6⟩ := H7.out
  rw [HF.out]
  go_enter Tryz.func169, Tryz.ntmps169
  go_wp2
  exact bodyPost_ret (v := .tuple #[.agg #[.int .i64 0, .int .u64 0, .int .u64 0, .int .u64 0, .slice none 0 0, .slice none 0 0, .slice none 0 0], .int .i64 8]) (by simp [results, Tryz.results169, go_sem]) rfl (⟨zeroRV 0, p, rfl, Lies.zero _ _ 0, HP.out, HR0.out, HM.out⟩)
 ·have HF : Hid (insideF deep mark.length pf s = pf (blanks (s.drop mark.length))) := if_neg h64
  have HPP := Lib.hid (hp h64)
  have hb1 : (deep == 64) = false := by simp [h64]
  have hd1 := hd.1
  have hd2 := hd.2
  obtain ⟨s2, hs2⟩ : ∃ s2, blanks (s.drop mark.length) = s2 := ⟨_, rfl⟩
  obtain ⟨t, ht⟩ : ∃ t, pf s2 = t := ⟨_, rfl⟩
  rw [HF.out, hs2, ht]
  have HS2 := Lib.hid hs2
  have HTT := Lib.hid ht
  clear hp hst h64 hd hs2 ht
  go_enter Tryz.func169, Tryz.ntmps169
  go_wp2_with fail
  have hsz : ((mk mark).size : Int) = (mark.length : Int) := rfl
  first
   | refine (pass_any b A n c p mark.length l s _ HR0.out HRow0.out HP.out hpm).mono ?_
   | (rw [hsz]; refine (pass_any b A n c p mark.length l s _ HR0.out HRow0.out HP.out hpm).mono ?_)
  rintro e W2 ⟨rfl, q2, hq2, hR2, hM2⟩
  rw [HS2.out] at hq2
  have HR2 := Lib.hid hR2
  have HP2 := Lib.hid hq2
  have H72 := Lib.hid (H7.out.moved hM2 hne)
  have HK2 := Lib.hid (HR0.out.keep hM2)
  have HRow2 := Lib.hid (row_keep HRow0.out HK2.out)
  have HT2 := Lib.hid (HT0.out.keep HK2.out)
  have HM2 := Lib.hid (HM.out.trans hM2)
  have hz2 : w.heap.size < W2.heap.size := H72.out.1
  clear hR2 hq2 hM2 HK2 HR0 HM H7 HRow0 HT0 HF
  go_wp2_with fail
  refine (HPP.out W2 q2 s2 HR2.out HRow2.out HT2.out HP2.out).mono ?_
  rw [HTT.out]
  rintro e W3 ⟨x, q3, rfl, hx, hP3, hR3, hM3⟩
  unfold RV.agg
  have HX : Hid (Lies W3 (From (w.heap.size + 1)) t.2.2 x) := hx.from_ hz2
  have HP3 := Lib.hid hP3
  have HR3 := Lib.hid hR3
  have HM3 := Lib.hid (HM2.out.trans hM3)
  have H73 := Lib.hid (H72.out.moved hM3 hne)
  clear hx hP3 hR3 hM3
  obtain ⟨y1, y2, c0, c1, c2, c3, c4, c5, c6⟩ := H73.out
  go_wp2
  exact bodyPost_ret (v := .tuple #[.agg #[.int .i64 x.kind, .int .u64 (x.v.a : Int), .int .u64 (x.v.b : Int), .int .u64 (x.v.c : Int), .slice x.A x.v.pre.length x.c, .slice x.B x.v.build.length x.d, .slice x.L x.n x.e], .int .i64 (t.1 : Int)]) (by simp [results, Tryz.results169, go_sem, c0, c1, c2, c3, c4, c5, c6]) rfl (rg_end (x := x) (f := t.1) (s := t.2.1) (r := t.2.2) hbw HX.out HP3.out HR3.out HM3.out)
theorem insideO (b : Nat) (A : Option Addr) (n c : Nat) (l : List UInt8) (p : Nat) (s mark : List UInt8) (deep : Int) (pf : List UInt8 → Out) (w : World) (hR : Rd w b A n c p) (hr : Row w A n l) (hs : Pl l p s) (ht : OpsTab w) (hd : 0 ≤ deep ∧ deep ≤ 64) (hst : stands mark s = true) (hp : deep ≠ 64 → PartOK 142 b A n c l (deep + 1) pf) :
  Calls Tryz.prog 169 #[.pointer (some ⟨b, 0, none⟩), .string (mk mark), .int .i64 deep, .func (.func 142) #[.pointer (some ⟨b, 0, none⟩)] #[]] w (RgPost b A n c l w (insideF deep mark.length pf s)) := by
 have hpm : p + mark.length ≤ n := by
  have h1 := stands_len hst
  rw [hs.len, hr.1] at h1
  have h2 := hs.le
  rw [hr.1] at h2
  omega
 have hbw := hR.lt
 have HP := Lib.hid hs
 have HL := Lib.hid hr.1
 have HR := Lib.hid hR
 have HRow := Lib.hid hr
 have HT := Lib.hid ht
 have H7 : Hid (RAt (w.alloc (.cells #[.int .i64 0, .int .u64 0, .int .u64 0, .int .u64 0, .slice none 0 0, .slice none 0 0, .slice none 0 0] 28)) w.heap.size (zeroRV 0)) := RAt.new w 28 (zeroRV 0)
 have HM : Hid (Moved b w (w.alloc (.cells #[.int .i64 0, .int .u64 0, .int .u64 0, .int .u64 0, .slice none 0 0, .slice none 0 0, .slice none 0 0] 28))) := (Moved.refl b w).alloc hbw _
 have HR0 : Hid (Rd (w.alloc (.cells #[.int .i64 0, .int .u64 0, .int .u64 0, .int .u64 0, .slice none 0 0, .slice none 0 0, .slice none 0 0] 28)) b A n c p) := hR.alloc _
 have HRow0 : Hid (Row (w.alloc (.cells #[.int .i64 0, .int .u64 0, .int .u64 0, .int .u64 0, .slice none 0 0, .slice none 0 0, .slice none 0 0] 28)) A n l) := hr.kept ((Below.refl _ _).alloc (Nat.le_refl _) _)
 have HT0 : Hid (OpsTab (w.alloc (.cells #[.int .i64 0, .int .u64 0, .int .u64 0, .int .u64 0, .slice none 0 0, .slice none 0 0, .slice none 0 0] 28))) := ht.keep (Keep.of_below ((Below.refl _ _).alloc (Nat.le_refl _) _))
 have hne : w.heap.size ≠ b := by omega
 have hmf : ∀ (fn : Fn) (first cap : Array Value) (w : World), (Instr.makeFunc fn first cap).run Tryz.prog w = .ok (.func fn first cap) w := fun _ _ _ _ => rfl
 clear hR hr hs ht
 by_cases h64 : deep = 64
 ·have HF : Hid (insideF deep mark.length pf s = (8, s, noRng)) := if_pos h64
  subst h64
  clear hp hst
  obtain ⟨y1, y2, c0, c1, c2, c3, c4, c5, c6⟩ := H7.out
  rw [HF.out]
  go_enter Tryz.func169, Tryz.ntmps169
  go_wp2
  exact bodyPost_ret (v := .tuple #[.agg #[.int .i64 0, .int .u64 0, .int .u64 0, .int .u64 0, .slice none 0 0, .slice none 0 0, .slice none 0 0], .int .i64 8]) (by simp [results, Tryz.results169, go_sem]) rfl (⟨zeroRV 0, p, rfl, Lies.zero _ _ 0, HP.out, HR0.out, HM.out⟩)
 ·have HF : Hid (insideF deep mark.length pf s = pf (blanks (s.drop mark.length))) := if_neg h64
  have HPP := Lib.hid (hp h64)
  have hb1 : (deep == 64) = false := by simp [h64]
  have hd1 := hd.1
  have hd2 := hd.2
  obtain ⟨s2, hs2⟩ : ∃ s2, blanks (s.drop mark.length) = s2 := ⟨_, rfl⟩
  obtain ⟨t, ht⟩ : ∃ t, pf s2 = t := ⟨_, rfl⟩
  rw [HF.out, hs2, ht]
  have HS2 := Lib.hid hs2
  have HTT := Lib.hid ht
  clear hp hst h64 hd hs2 ht
  go_enter Tryz.func169, Tryz.ntmps169
  go_wp2_with fail
  have hsz : ((mk mark).size : Int) = (mark.length : Int) := rfl
  first
   | refine (pass_any b A n c p mark.length l s _ HR0.out HRow0.out HP.out hpm).mono ?_
   | (rw [hsz]; refine (pass_any b A n c p mark.length l s _ HR0.out HRow0.out HP.out hpm).mono ?_)
  rintro e W2 ⟨rfl, q2, hq2, hR2, hM2⟩
  rw [HS2.out] at hq2
  have HR2 := Lib.hid hR2
  have HP2 := Lib.hid hq2
  have H72 := Lib.hid (H7.out.moved hM2 hne)
  have HK2 := Lib.hid (HR0.out.keep hM2)
  have HRow2 := Lib.hid (row_keep HRow0.out HK2.out)
  have HT2 := Lib.hid (HT0.out.keep HK2.out)
  have HM2 := Lib.hid (HM.out.trans hM2)
  have hz2 : w.heap.size < W2.heap.size := H72.out.1
  clear hR2 hq2 hM2 HK2 HR0 HM H7 HRow0 HT0 HF
  go_wp2_with fail
  refine (HPP.out W2 q2 s2 HR2.out HRow2.out HT2.out HP2.out).mono ?_
  rw [HTT.out]
  rintro e W3 ⟨x, q3, rfl, hx, hP3, hR3, hM3⟩
  unfold RV.agg
  have HX : Hid (Lies W3 (From (w.heap.size + 1)) t.2.2 x) := hx.from_ hz2
  have HP3 := Lib.hid hP3
  have HR3 := Lib.hid hR3
  have HM3 := Lib.hid (HM2.out.trans hM3)
  have H73 := Lib.hid (H72.out.moved hM3 hne)
  clear hx hP3 hR3 hM3
  obtain ⟨y1, y2, c0, c1, c2, c3, c4, c5, c6⟩ := H73.out
  go_wp2
  exact bodyPost_ret (v := .tuple #[.agg #[.int .i64 x.kind, .int .u64 (x.v.a : Int), .int .u64 (x.v.b : Int), .int .u64 (x.v.c : Int), .slice x.A x.v.pre.length x.c, .slice x.B x.v.build.length x.d, .slice x.L x.n x.e], .int .i64 (t.1 : Int)]) (by simp [results, Tryz.results169, go_sem, c0, c1, c2, c3, c4, c5, c6]) rfl (rg_end (x := x) (f := t.1) (s := t.2.1) (r := t.2.2) hbw HX.out HP3.out HR3.out HM3.out)
theorem bracket_ok (b : Nat) (A : Option Addr) (n c : Nat) (l : List UInt8) (p : Nat) (s : List UInt8) (deep : Int) (pf : List UInt8 → Out) (w : World) (hR : Rd w b A n c p) (hr : Row w A n l) (hs : Pl l p s) (ht : OpsTab w) (hc : n ≤ c) (hd : 0 ≤ deep ∧ deep ≤ 64) (hst : stands [40] s = true) (hp : deep ≠ 64 → PartOK 88 b A n c l (deep + 1) pf) :
  Calls Tryz.prog 158 #[.pointer (some ⟨b, 0, none⟩), .int .i64 deep] w (RgPost b A n c l w (shutF (insideF deep 1 pf s))) := by
 have hbw := hR.lt
 have HP := Lib.hid hs
 have HL := Lib.hid hr.1
 have HR := Lib.hid hR
 have HRow := Lib.hid hr
 have HT := Lib.hid ht
 have H7 : Hid (RAt (w.alloc (.cells #[.int .i64 0, .int .u64 0, .int .u64 0, .int .u64 0, .slice none 0 0, .slice none 0 0, .slice none 0 0] 28)) w.heap.size (zeroRV 0)) := RAt.new w 28 (zeroRV 0)
 have HM : Hid (Moved b w (w.alloc (.cells #[.int .i64 0, .int .u64 0, .int .u64 0, .int .u64 0, .slice none 0 0, .slice none 0 0, .slice none 0 0] 28))) := (Moved.refl b w).alloc hbw _
 have HR0 : Hid (Rd (w.alloc (.cells #[.int .i64 0, .int .u64 0, .int .u64 0, .int .u64 0, .slice none 0 0, .slice none 0 0, .slice none 0 0] 28)) b A n c p) := hR.alloc _
 have HRow0 : Hid (Row (w.alloc (.cells #[.int .i64 0, .int .u64 0, .int .u64 0, .int .u64 0, .slice none 0 0, .slice none 0 0, .slice none 0 0] 28)) A n l) := hr.kept ((Below.refl _ _).alloc (Nat.le_refl _) _)
 have HT0 : Hid (OpsTab (w.alloc (.cells #[.int .i64 0, .int .u64 0, .int .u64 0, .int .u64 0, .slice none 0 0, .slice none 0 0, .slice none 0 0] 28))) := ht.keep (Keep.of_below ((Below.refl _ _).alloc (Nat.le_refl _) _))
 have hne : w.heap.size ≠ b := by omega
 have hmf : ∀ (fn : Fn) (first cap : Array Value) (w : World), (Instr.makeFunc fn first cap).run Tryz.prog w = .ok (.func fn first cap) w := fun _ _ _ _ => rfl
 clear hR hr hs ht
 obtain ⟨⟨f, s1, r⟩, hk⟩ : ∃ t, insideF deep 1 pf s = t := ⟨_, rfl⟩
 rw [hk]
 have HKI := Lib.hid hk
 clear hk
 go_enter Tryz.func158, Tryz.ntmps158
 go_wp2_with fail
 refine (insideE b A n c l p s [40] deep pf _ HR0.out HRow0.out HP.out HT0.out hd hst hp).mono ?_
 have e1 : insideF deep ([40] : List UInt8).length pf s = (f, s1, r) := HKI.out
 rw [e1]
 rintro e W1 ⟨x, q1, rfl, hx, hP1, hR1, hM1⟩
 unfold RV.agg
 simp only at hx hP1 ⊢
 have HX := Lib.hid hx
 rw [size_alloc] at HX
 have HP1 := Lib.hid hP1
 have HR1 := Lib.hid hR1
 have HM1 := Lib.hid (HM.out.trans hM1)
 have H71 := Lib.hid (H7.out.moved hM1 hne)
 have hz1 : w.heap.size < W1.heap.size := H71.out.1
 have HK1 := Lib.hid (HR.out.keep HM1.out)
 have HRow1 := Lib.hid (row_keep HRow.out HK1.out)
 clear hx hP1 hR1 hM1 HR0 HM H7 HRow0 HT0 hp hst
 by_cases h0 : f = 0
 ·subst h0
  have HF : Hid (shutF (0, s1, r) = if stands [41] s1 = true then (0, blanks (s1.drop 1), r) else (lackN s1, s1, noRng)) := if_neg (by simp)
  have hR2 : Hid (Rd (W1.alloc (.cells #[.int .i64 x.kind, .int .u64 (x.v.a : Int), .int .u64 (x.v.b : Int), .int .u64 (x.v.c : Int), .slice x.A x.v.pre.length x.c, .slice x.B x.v.build.length x.d, .slice x.L x.n x.e] 28)) b A n c q1) := HR1.out.alloc _
  have hM2 : Hid (Moved b w (W1.alloc (.cells #[.int .i64 x.kind, .int .u64 (x.v.a : Int), .int .u64 (x.v.b : Int), .int .u64 (x.v.c : Int), .slice x.A x.v.pre.length x.c, .slice x.B x.v.build.length x.d, .slice x.L x.n x.e] 28))) := HM1.out.alloc hbw _
  have h72 : Hid (RAt (W1.alloc (.cells #[.int .i64 x.kind, .int .u64 (x.v.a : Int), .int .u64 (x.v.b : Int), .int .u64 (x.v.c : Int), .slice x.A x.v.pre.length x.c, .slice x.B x.v.build.length x.d, .slice x.L x.n x.e] 28)) w.heap.size (zeroRV 0)) := H71.out.kept ((Below.refl W1.heap.size W1).alloc (Nat.le_refl _) _) hz1
  have ha2 : Hid (RAt (W1.alloc (.cells #[.int .i64 x.kind, .int .u64 (x.v.a : Int), .int .u64 (x.v.b : Int), .int .u64 (x.v.c : Int), .slice x.A x.v.pre.length x.c, .slice x.B x.v.build.length x.d, .slice x.L x.n x.e] 28)) W1.heap.size x) := RAt.new W1 28 x
  have hX2 : Hid (Lies (W1.alloc (.cells #[.int .i64 x.kind, .int .u64 (x.v.a : Int), .int .u64 (x.v.b : Int), .int .u64 (x.v.c : Int), .slice x.A x.v.pre.length x.c, .slice x.B x.v.build.length x.d, .slice x.L x.n x.e] 28)) (From (w.heap.size + 1)) r x) := HX.out.keep (KeepS.alloc _ _)
  have hRow2 : Hid (Row (W1.alloc (.cells #[.int .i64 x.kind, .int .u64 (x.v.a : Int), .int .u64 (x.v.b : Int), .int .u64 (x.v.c : Int), .slice x.A x.v.pre.length x.c, .slice x.B x.v.build.length x.d, .slice x.L x.n x.e] 28)) A n l) := HRow1.out.kept ((Below.refl _ _).alloc (Nat.le_refl _) _)
  clear HR1 HM1 H71 HX HRow1 HK1
  go_wp2_with fail
  refine (stands_any b A n c q1 l s1 [41] _ hR2.out hRow2.out hc HP1.out (by decide)).mono ?_
  rintro e W3 ⟨rfl, hr3, hm3⟩
  have HR3 := Lib.hid hr3
  have HM3 := Lib.hid (hM2.out.trans hm3)
  have H73 := Lib.hid (h72.out.moved hm3 hne)
  have HA3 := Lib.hid (ha2.out.moved hm3 (by omega))
  have HX3 : Hid (Lies W3 (From (w.heap.size + 1)) r x) := hX2.out.keep (KeepS.moved hm3 (fun h => by unfold From at h; omega))
  have HRow3 := Lib.hid (row_keep HRow.out (HR.out.keep HM3.out))
  clear hr3 hm3 hR2 hM2 h72 ha2 hX2 hRow2
  cases hst1 : stands [41] s1 with
  | true =>
   have HF2 : Hid (shutF (0, s1, r) = (0, blanks (s1.drop 1), r)) := HF.out.trans (if_pos hst1)
   have hpm : q1 + 1 ≤ n := by
    have h1 := stands_len hst1
    rw [HP1.out.len, HL.out] at h1
    have h2 := HP1.out.le
    rw [HL.out] at h2
    simp only [List.length_singleton] at h1
    omega
   clear hst1
   go_wp2_with fail
   refine (pass_any b A n c q1 1 l s1 _ HR3.out HRow3.out HP1.out hpm).mono ?_
   rintro e W4 ⟨rfl, q4, hq4, hr4, hm4⟩
   have HR4 := Lib.hid hr4
   have HP4 := Lib.hid hq4
   have HM4 := Lib.hid (HM3.out.trans hm4)
   have H74 := Lib.hid (H73.out.moved hm4 hne)
   have HA4 := Lib.hid (HA3.out.moved hm4 (by omega))
   have HX4 : Hid (Lies W4 (From (w.heap.size + 1)) r x) := HX3.out.keep (KeepS.moved hm4 (fun h => by unfold From at h; omega))
   clear hr4 hq4 hm4 HR3 HM3 H73 HA3 HX3 HRow3
   obtain ⟨y1, y2, c0, c1, c2, c3, c4, c5, c6⟩ := H74.out
   obtain ⟨_, _, d0, d1, d2, d3, d4, d5, d6⟩ := HA4.out
   go_wp2
   exact bodyPost_ret (v := .tuple #[.agg #[.int .i64 x.kind, .int .u64 (x.v.a : Int), .int .u64 (x.v.b : Int), .int .u64 (x.v.c : Int), .slice x.A x.v.pre.length x.c, .slice x.B x.v.build.length x.d, .slice x.L x.n x.e], .int .i64 0]) (by simp [results, Tryz.results158, go_sem, c0, c1, c2, c3, c4, c5, c6]) rfl (by rw [HF2.out]; exact rg_end (x := x) (f := 0) hbw HX4.out HP4.out HR4.out HM4.out)
  | false =>
   have HF2 : Hid (shutF (0, s1, r) = (lackN s1, s1, noRng)) := HF.out.trans (if_neg (by rw [hst1]; simp))
   clear hst1
   go_wp2_with fail
   refine (lack_any b A n c q1 l s1 _ HR3.out HRow3.out HP1.out).mono ?_
   rintro e W4 ⟨rfl, hr4, hm4⟩
   have HR4 := Lib.hid hr4
   have HM4 := Lib.hid (HM3.out.trans hm4)
   have H74 := Lib.hid (H73.out.moved hm4 hne)
   clear hr4 hm4 HR3 HM3 H73 HA3 HX3 HRow3
   obtain ⟨y1, y2, c0, c1, c2, c3, c4, c5, c6⟩ := H74.out
   go_wp2
   exact bodyPost_ret (v := .tuple #[.agg #[.int .i64 0, .int .u64 0, .int .u64 0, .int .u64 0, .slice none 0 0, .slice none 0 0, .slice none 0 0], .int .i64 (lackN s1 : Int)]) (by simp [results, Tryz.results158, go_sem, c0, c1, c2, c3, c4, c5, c6]) rfl (by rw [HF2.out]; exact rg_end (x := zeroRV 0) hbw (Lies.zero _ _ 0) HP1.out HR4.out HM4.out)
 ·have HF : Hid (shutF (f, s1, r) = (f, s1, noRng)) := if_pos h0
  have hb1 : ((f : Int) != 0) = true := by simp [h0]
  have hb2 : ((f : Int) == 0) = false := by simp [h0]
  clear h0
  obtain ⟨y1, y2, c0, c1, c2, c3, c4, c5, c6⟩ := H71.out
  have hw1 : W1.heap.size ≠ w.heap.size := by omega
  go_wp2
  exact bodyPost_ret (v := .tuple #[.agg #[.int .i64 0, .int .u64 0, .int .u64 0, .int .u64 0, .slice none 0 0, .slice none 0 0, .slice none 0 0], .int .i64 (f : Int)]) (by simp [results, Tryz.results158, go_sem, c0, c1, c2, c3, c4, c5, c6, y1]) rfl (by rw [HF.out]; exact (rg_end (x := zeroRV 0) hbw (Lies.zero _ _ 0) HP1.out HR1.out HM1.out).alloc hbw _)
theorem not_ok (b : Nat) (A : Option Addr) (n c : Nat) (l : List UInt8) (p : Nat) (s : List UInt8) (deep : Int) (pf : List UInt8 → Out) (w : World) (hR : Rd w b A n c p) (hr : Row w A n l) (hs : Pl l p s) (ht : OpsTab w) (hd : 0 ≤ deep ∧ deep ≤ 64) (hst : stands [33] s = true) (hp : deep ≠ 64 → PartOK 142 b A n c l (deep + 1) pf) :
  Calls Tryz.prog 159 #[.pointer (some ⟨b, 0, none⟩), .int .i64 deep] w (RgPost b A n c l w (notF (insideF deep 1 pf s))) := by
 have hbw := hR.lt
 have HP := Lib.hid hs
 have HL := Lib.hid hr.1
 have HR := Lib.hid hR
 have HRow := Lib.hid hr
 have HT := Lib.hid ht
 have H7 : Hid (RAt (w.alloc (.cells #[.int .i64 0, .int .u64 0, .int .u64 0, .int .u64 0, .slice none 0 0, .slice none 0 0, .slice none 0 0] 28)) w.heap.size (zeroRV 0)) := RAt.new w 28 (zeroRV 0)
 have HM : Hid (Moved b w (w.alloc (.cells #[.int .i64 0, .int .u64 0, .int .u64 0, .int .u64 0, .slice none 0 0, .slice none 0 0, .slice none 0 0] 28))) := (Moved.refl b w).alloc hbw _
 have HR0 : Hid (Rd (w.alloc (.cells #[.int .i64 0, .int .u64 0, .int .u64 0, .int .u64 0, .slice none 0 0, .slice none 0 0, .slice none 0 0] 28)) b A n c p) := hR.alloc _
 have HRow0 : Hid (Row (w.alloc (.cells #[.int .i64 0, .int .u64 0, .int .u64 0, .int .u64 0, .slice none 0 0, .slice none 0 0, .slice none 0 0] 28)) A n l) := hr.kept ((Below.refl _ _).alloc (Nat.le_refl _) _)
 have HT0 : Hid (OpsTab (w.alloc (.cells #[.int .i64 0, .int .u64 0, .int .u64 0, .int .u64 0, .slice none 0 0, .slice none 0 0, .slice none 0 0] 28))) := ht.keep (Keep.of_below ((Below.refl _ _).alloc (Nat.le_refl _) _))
 have hne : w.heap.size ≠ b := by omega
 have hmf : ∀ (fn : Fn) (first cap : Array Value) (w : World), (Instr.makeFunc fn first cap).run Tryz.prog w = .ok (.func fn first cap) w := fun _ _ _ _ => rfl
 clear hR hr hs ht
 obtain ⟨⟨f, s1, r⟩, hk⟩ : ∃ t, insideF deep 1 pf s = t := ⟨_, rfl⟩
 rw [hk]
 have HKI := Lib.hid hk
 clear hk
 go_enter Tryz.func159, Tryz.ntmps159
 go_wp2_with fail
 refine (insideO b A n c l p s [33] deep pf _ HR0.out HRow0.out HP.out HT0.out hd hst hp).mono ?_
 have e1 : insideF deep ([33] : List UInt8).length pf s = (f, s1, r) := HKI.out
 rw [e1]
 rintro e W1 ⟨x, q1, rfl, hx, hP1, hR1, hM1⟩
 unfold RV.agg
 simp only at hx hP1 ⊢
 have HX := Lib.hid hx
 rw [size_alloc] at HX
 have HP1 := Lib.hid hP1
 have HR1 := Lib.hid hR1
 have HM1 := Lib.hid (HM.out.trans hM1)
 have H71 := Lib.hid (H7.out.moved hM1 hne)
 have hz1 : w.heap.size < W1.heap.size := H71.out.1
 have HK1 := Lib.hid (HR.out.keep HM1.out)
 have HRow1 := Lib.hid (row_keep HRow.out HK1.out)
 clear hx hP1 hR1 hM1 HR0 HM H7 HRow0 HT0 hp hst
 by_cases h0 : f = 0
 ·subst h0
  have HF : Hid (notF (0, s1, r) = (0, s1, .mk 11 noVer [r])) := if_neg (by simp)
  obtain ⟨V, hV⟩ : ∃ V, setR W1 w.heap.size ⟨11, noVer, none, 0, none, 0, some ⟨W1.heap.size + 1, 0, none⟩, 1, 1⟩ = V := ⟨_, rfl⟩
  have hVs : V.heap.size = W1.heap.size := by rw [← hV]; unfold setR; simp
  have hXV : Hid (Lies V (From (w.heap.size + 1)) r x) := by rw [← hV]; exact HX.out.keep (setR_keep (Nat.not_succ_le_self _) _)
  have hX2 : Hid (Lies ((V.alloc (.cells #[.int .i64 x.kind, .int .u64 (x.v.a : Int), .int .u64 (x.v.b : Int), .int .u64 (x.v.c : Int), .slice x.A x.v.pre.length x.c, .slice x.B x.v.build.length x.d, .slice x.L x.n x.e] 28)).alloc (.cells #[.int .i64 x.kind, .int .u64 (x.v.a : Int), .int .u64 (x.v.b : Int), .int .u64 (x.v.c : Int), .slice x.A x.v.pre.length x.c, .slice x.B x.v.build.length x.d, .slice x.L x.n x.e] 28)) (From (w.heap.size + 1)) r x) := (hXV.out.keep (KeepS.alloc _ _)).keep (KeepS.alloc _ _)
  have hrow : Hid (RgRow ((V.alloc (.cells #[.int .i64 x.kind, .int .u64 (x.v.a : Int), .int .u64 (x.v.b : Int), .int .u64 (x.v.c : Int), .slice x.A x.v.pre.length x.c, .slice x.B x.v.build.length x.d, .slice x.L x.n x.e] 28)).alloc (.cells #[.int .i64 x.kind, .int .u64 (x.v.a : Int), .int .u64 (x.v.b : Int), .int .u64 (x.v.c : Int), .slice x.A x.v.pre.length x.c, .slice x.B x.v.build.length x.d, .slice x.L x.n x.e] 28)) (From (w.heap.size + 1)) (some ⟨W1.heap.size + 1, 0, none⟩) 1 [r]) := by
   refine ⟨fun _ => x, rfl, fun _ => ⟨W1.heap.size + 1, 0, rfl, by unfold From; omega, fun k hk i u hu => ?_⟩, fun k hk => ?_⟩
   ·obtain rfl : k = 0 := by omega
    have := news_new (V.alloc (.cells #[.int .i64 x.kind, .int .u64 (x.v.a : Int), .int .u64 (x.v.b : Int), .int .u64 (x.v.c : Int), .slice x.A x.v.pre.length x.c, .slice x.B x.v.build.length x.d, .slice x.L x.n x.e] 28)) x.vals 28 i u hu
    rw [size_alloc, add_none, hVs] at this
    rw [Nat.zero_mul, Nat.add_zero]; exact this
   ·obtain rfl : k = 0 := by omega
    exact hX2.out
  have hR2 : Hid (Rd ((V.alloc (.cells #[.int .i64 x.kind, .int .u64 (x.v.a : Int), .int .u64 (x.v.b : Int), .int .u64 (x.v.c : Int), .slice x.A x.v.pre.length x.c, .slice x.B x.v.build.length x.d, .slice x.L x.n x.e] 28)).alloc (.cells #[.int .i64 x.kind, .int .u64 (x.v.a : Int), .int .u64 (x.v.b : Int), .int .u64 (x.v.c : Int), .slice x.A x.v.pre.length x.c, .slice x.B x.v.build.length x.d, .slice x.L x.n x.e] 28)) b A n c q1) := by rw [← hV]; exact ((setR_rd HR1.out hbw _).alloc _).alloc _
  have hM2 : Hid (Moved b w ((V.alloc (.cells #[.int .i64 x.kind, .int .u64 (x.v.a : Int), .int .u64 (x.v.b : Int), .int .u64 (x.v.c : Int), .slice x.A x.v.pre.length x.c, .slice x.B x.v.build.length x.d, .slice x.L x.n x.e] 28)).alloc (.cells #[.int .i64 x.kind, .int .u64 (x.v.a : Int), .int .u64 (x.v.b : Int), .int .u64 (x.v.c : Int), .slice x.A x.v.pre.length x.c, .slice x.B x.v.build.length x.d, .slice x.L x.n x.e] 28))) := by rw [← hV]; exact ((setR_moved HM1.out hbw (Nat.le_refl _) _).alloc hbw _).alloc hbw _
  have hfin : Hid (RgPost b A n c l w (0, s1, .mk 11 noVer [r]) (.returned (.tuple #[(RV.agg ⟨11, noVer, none, 0, none, 0, some ⟨W1.heap.size + 1, 0, none⟩, 1, 1⟩), .int .i64 0])) ((V.alloc (.cells #[.int .i64 x.kind, .int .u64 (x.v.a : Int), .int .u64 (x.v.b : Int), .int .u64 (x.v.c : Int), .slice x.A x.v.pre.length x.c, .slice x.B x.v.build.length x.d, .slice x.L x.n x.e] 28)).alloc (.cells #[.int .i64 x.kind, .int .u64 (x.v.a : Int), .int .u64 (x.v.b : Int), .int .u64 (x.v.c : Int), .slice x.A x.v.pre.length x.c, .slice x.B x.v.build.length x.d, .slice x.L x.n x.e] 28))) :=
   ⟨⟨11, noVer, none, 0, none, 0, some ⟨W1.heap.size + 1, 0, none⟩, 1, 1⟩, q1, rfl, (Lies.many 11 hrow.out (Nat.le_refl _) (fun h => by cases h)).from_ (Nat.le_succ _), HP1.out, hR2.out, hM2.out⟩
  rw [← hV] at hfin
  clear hV hVs hXV hX2 hrow hR2 hM2
  obtain ⟨y1, y2, c0, c1, c2, c3, c4, c5, c6⟩ := H71.out
  have hw1 : W1.heap.size ≠ w.heap.size := by omega
  have hw2 : W1.heap.size + 1 ≠ w.heap.size := by omega
  have y3 : w.heap.size < W1.heap.size + 1 := by omega
  go_wp2
  exact bodyPost_ret (v := .tuple #[.agg #[.int .i64 11, .int .u64 0, .int .u64 0, .int .u64 0, .slice none 0 0, .slice none 0 0, .slice (some ⟨W1.heap.size + 1, 0, none⟩) 1 1], .int .i64 0]) (by simp [results, Tryz.results159, go_sem, c0, c1, c2, c3, c4, c5, c6, y1, y3]) rfl (by rw [HF.out]; exact hfin.out)
 ·have HF : Hid (notF (f, s1, r) = (f, s1, noRng)) := if_pos h0
  have hb1 : ((f : Int) != 0) = true := by simp [h0]
  have hb2 : ((f : Int) == 0) = false := by simp [h0]
  clear h0
  obtain ⟨y1, y2, c0, c1, c2, c3, c4, c5, c6⟩ := H71.out
  have hw1 : W1.heap.size ≠ w.heap.size := by omega
  go_wp2
  exact bodyPost_ret (v := .tuple #[.agg #[.int .i64 0, .int .u64 0, .int .u64 0, .int .u64 0, .slice none 0 0, .slice none 0 0, .slice none 0 0], .int .i64 (f : Int)]) (by simp [results, Tryz.results159, go_sem, c0, c1, c2, c3, c4, c5, c6, y1]) rfl (by rw [HF.out]; exact (rg_end (x := zeroRV 0) hbw (Lies.zero _ _ 0) HP1.out HR1.out HM1.out).alloc hbw _)
end Go.Proofs.YtgfbflnhjpbceaaGreatDoor.Range
namespace Go.Proofs.YtgfbflnhjpbceaaGreatDoor.Range
open Go.RowKit Num Ident Semver

def oneD (deep : Int) (pe po : List UInt8 → Out) (s : List UInt8) : Out :=
 if stands [42] s = true then (0, blanks (s.drop 1), noRng)
 else if stands [40] s = true then shutF (insideF deep 1 pe s)
 else if (opOf s).2 = [] ∧ stands [33] s = true then notF (insideF deep 1 po s)
 else verAt (opOf s).1 (blanks (s.drop (opOf s).2.length))
theorem pone_oneD (k : Nat) (d : Int) (h : d + k = 64) (s : List UInt8) : pone k s = oneD d (exprF (pone (k - 1))) (pone (k - 1)) s := by
 cases k with
 | zero =>
  have hd : d = 64 := by omega
  subst hd
  rw [pone_zero]
  unfold oneF oneD insideF
  rfl
 | succ k =>
  have hd : d ≠ 64 := by omega
  rw [pone_succ, Nat.add_sub_cancel]
  unfold oneF oneD insideF
  rw [if_neg hd, if_neg hd]
theorem op_stands (s : List UInt8) : stands (opOf s).2 s = true := by
 have hop : ∀ (l : List (List UInt8)) (k : Int), stands (opFrom s l k).2 s = true := by
  intro l
  induction l with
  | nil => intro k; exact stands_nil s
  | cons t r ih =>
   intro k
   rw [opFrom]
   split
   ·rename_i h; exact h
   ·exact ih _
 exact hop _ _
theorem mk_empty : (mk []).toList.isEmpty = true := (empty_iff _).2 rfl
theorem mk_some {t : List UInt8} (h : t ≠ []) : (mk t).toList.isEmpty = false := (empty_no _).2 fun e => h (List.eq_nil_of_length_eq_zero e)
theorem mk_eq0 : ((mk []).toList == (⟨#[]⟩ : ByteArray).toList) = true := by rw [show (⟨#[]⟩ : ByteArray) = mk [] from rfl]; simp
theorem mk_ne0 {t : List UInt8} (h : t ≠ []) : ((mk t).toList == (⟨#[]⟩ : ByteArray).toList) = false := by
 rw [Lib.toList_data, Lib.toList_data, beq_eq_false_iff_ne]; exact h
theorem one_ok (b : Nat) (A : Option Addr) (n c : Nat) (l : List UInt8) (deep : Int) (pe po : List UInt8 → Out) (hc : n ≤ c) (hd : 0 ≤ deep ∧ deep ≤ 64) (he : deep ≠ 64 → PartOK 88 b A n c l (deep + 1) pe) (ho : deep ≠ 64 → PartOK 142 b A n c l (deep + 1) po) : PartOK 142 b A n c l deep (oneD deep pe po) := by
 intro w p s hR hr ht hs
 have hbw := hR.lt
 have HP := Lib.hid hs
 have HL := Lib.hid hr.1
 have HR := Lib.hid hR
 have HRow := Lib.hid hr
 have HT := Lib.hid ht
 have H7 : Hid (RAt (w.alloc (.cells #[.int .i64 0, .int .u64 0, .int .u64 0, .int .u64 0, .slice none 0 0, .slice none 0 0, .slice none 0 0] 28)) w.heap.size (zeroRV 0)) := RAt.new w 28 (zeroRV 0)
 have HM : Hid (Moved b w (w.alloc (.cells #[.int .i64 0, .int .u64 0, .int .u64 0, .int .u64 0, .slice none 0 0, .slice none 0 0, .slice none 0 0] 28))) := (Moved.refl b w).alloc hbw _
 have HR0 : Hid (Rd (w.alloc (.cells #[.int .i64 0, .int .u64 0, .int .u64 0, .int .u64 0, .slice none 0 0, .slice none 0 0, .slice none 0 0] 28)) b A n c p) := hR.alloc _
 have HRow0 : Hid (Row (w.alloc (.cells #[.int .i64 0, .int .u64 0, .int .u64 0, .int .u64 0, .slice none 0 0, .slice none 0 0, .slice none 0 0] 28)) A n l) := hr.kept ((Below.refl _ _).alloc (Nat.le_refl _) _)
 have HT0 : Hid (OpsTab (w.alloc (.cells #[.int .i64 0, .int .u64 0, .int .u64 0, .int .u64 0, .slice none 0 0, .slice none 0 0, .slice none 0 0] 28))) := ht.keep (Keep.of_below ((Below.refl _ _).alloc (Nat.le_refl _) _))
 have hne : w.heap.size ≠ b := by omega
 have hmf : ∀ (fn : Fn) (first cap : Array Value) (w : World), (Instr.makeFunc fn first cap).run Tryz.prog w = .ok (.func fn first cap) w := fun _ _ _ _ => rfl
 clear hR hr hs ht
 have hpn : p ≤ n := by have := HP.out.le; rw [HL.out] at this; exact this
 have HLE : Hid (∀ t : List UInt8, stands t s = true → p + t.length ≤ n) := fun t h => by
  have h1 := stands_len h
  rw [HP.out.len, HL.out] at h1
  omega
 have HOS := Lib.hid (HLE.out _ (op_stands s))
 have HOL : Hid ((opOf s).2.length ≤ 10) := by
  have := opFrom_kind s
  rcases this with ⟨_, h⟩ | ⟨_, h⟩ | ⟨_, h⟩ | ⟨_, h⟩ | ⟨_, h⟩ | ⟨_, h⟩ | ⟨_, h⟩ | ⟨_, h⟩ | ⟨_, h⟩ <;> (unfold Hid; rw [h]; decide)
 obtain ⟨t, htt⟩ : ∃ t, oneD deep pe po s = t := ⟨_, rfl⟩
 rw [htt]
 have HT_ : Hid ((if stands [42] s = true then (0, blanks (s.drop 1), noRng) else if stands [40] s = true then shutF (insideF deep 1 pe s) else if (opOf s).2 = [] ∧ stands [33] s = true then notF (insideF deep 1 po s) else verAt (opOf s).1 (blanks (s.drop (opOf s).2.length))) = t) := htt
 clear htt
 have HOP := Lib.hid (fun W h1 h2 h3 => op_any b A n c p l s W h1 h2 hc HP.out h3)
 obtain ⟨⟨kd, o⟩, hop⟩ : ∃ z, opOf s = z := ⟨_, rfl⟩
 rw [hop] at HOP HT_ HOS HOL
 simp only at HOP HT_ HOS HOL
 clear hop
 go_enter Tryz.func142, Tryz.ntmps142
 go_wp2_with fail
 refine (HOP.out _ HR0.out HRow0.out HT0.out).mono ?_
 rintro e W1 ⟨rfl, hR, hM⟩
 have HM1 := Lib.hid (HM.out.trans hM)
 have H71 := Lib.hid (H7.out.moved hM hne)
 have HR1 := Lib.hid hR
 have HRow1 := Lib.hid (row_keep HRow.out (HR.out.keep HM1.out))
 have HT1 := Lib.hid (HT.out.keep (HR.out.keep HM1.out))
 clear hR hM HR0 HM H7 HRow0 HT0
 go_wp2_with fail
 refine (stands_any b A n c p l s [42] _ HR1.out HRow1.out hc HP.out (by decide)).mono ?_
 rintro e W2 ⟨rfl, hR, hM⟩
 have HM2 := Lib.hid (HM1.out.trans hM)
 have H72 := Lib.hid (H71.out.moved hM hne)
 have HR2 := Lib.hid hR
 have HRow2 := Lib.hid (row_keep HRow.out (HR.out.keep HM2.out))
 have HT2 := Lib.hid (HT.out.keep (HR.out.keep HM2.out))
 clear hR hM HR1 HM1 H71 HRow1 HT1
 cases h42 : stands [42] s with
 | true =>
  have HF : Hid (t = (0, blanks (s.drop 1), noRng)) := HT_.out.symm.trans (if_pos h42)
  have hpm := HLE.out [42] h42
  clear h42
  go_wp2_with fail
  refine (pass_any b A n c p 1 l s _ HR2.out HRow2.out HP.out hpm).mono ?_
  rintro e W3 ⟨rfl, q3, hP, hR, hM⟩
  have HM3 := Lib.hid (HM2.out.trans hM)
  have H73 := Lib.hid (H72.out.moved hM hne)
  have HR3 := Lib.hid hR
  have HP3 := Lib.hid hP
  clear hR hM hP
  obtain ⟨y1, y2, c0, c1, c2, c3, c4, c5, c6⟩ := H73.out
  go_wp2
  exact bodyPost_ret (v := .tuple #[.agg #[.int .i64 0, .int .u64 0, .int .u64 0, .int .u64 0, .slice none 0 0, .slice none 0 0, .slice none 0 0], .int .i64 0]) (by simp [results, Tryz.results142, go_sem, c0, c1, c2, c3, c4, c5, c6]) rfl (by rw [HF.out]; exact rg_end (x := zeroRV 0) (f := 0) hbw (Lies.zero _ _ 0) HP3.out HR3.out HM3.out)
 | false =>
  have HT2_ : Hid ((if stands [40] s = true then shutF (insideF deep 1 pe s) else if o = [] ∧ stands [33] s = true then notF (insideF deep 1 po s) else verAt kd (blanks (s.drop o.length))) = t) := (if_neg (by rw [h42]; simp)).symm.trans HT_.out
  clear h42 HT_
  go_wp2_with fail
  refine (stands_any b A n c p l s [40] _ HR2.out HRow2.out hc HP.out (by decide)).mono ?_
  rintro e W3 ⟨rfl, hR, hM⟩
  have HM3 := Lib.hid (HM2.out.trans hM)
  have H73 := Lib.hid (H72.out.moved hM hne)
  have HR3 := Lib.hid hR
  have HRow3 := Lib.hid (row_keep HRow.out (HR.out.keep HM3.out))
  have HT3 := Lib.hid (HT.out.keep (HR.out.keep HM3.out))
  clear hR hM HR2 HM2 H72 HRow2 HT2
  cases h40 : stands [40] s with
  | true =>
   have HF : Hid (shutF (insideF deep 1 pe s) = t) := (if_pos h40).symm.trans HT2_.out
   have HST := Lib.hid h40
   clear h40
   go_wp2_with fail
   refine (bracket_ok b A n c l p s deep pe _ HR3.out HRow3.out HP.out HT3.out hc hd HST.out he).mono ?_
   rw [HF.out]
   rintro e W4 ⟨x, q4, rfl, hx, hP, hR, hM⟩
   unfold RV.agg
   have hz : w.heap.size < W3.heap.size := H73.out.1
   have HX : Hid (Lies W4 (From (w.heap.size + 1)) t.2.2 x) := hx.from_ hz
   have HPx := Lib.hid hP
   have HRx := Lib.hid hR
   have HMx := Lib.hid (HM3.out.trans hM)
   have H7x := Lib.hid (H73.out.moved hM hne)
   clear hx hP hR hM
   obtain ⟨y1, y2, c0, c1, c2, c3, c4, c5, c6⟩ := H7x.out
   go_wp2
   exact bodyPost_ret (v := .tuple #[.agg #[.int .i64 x.kind, .int .u64 (x.v.a : Int), .int .u64 (x.v.b : Int), .int .u64 (x.v.c : Int), .slice x.A x.v.pre.length x.c, .slice x.B x.v.build.length x.d, .slice x.L x.n x.e], .int .i64 (t.1 : Int)]) (by simp [results, Tryz.results142, go_sem, c0, c1, c2, c3, c4, c5, c6]) rfl (rg_end (x := x) (f := t.1) (s := t.2.1) (r := t.2.2) hbw HX.out HPx.out HRx.out HMx.out)
  | false =>
   have HT3_ : Hid ((if o = [] ∧ stands [33] s = true then notF (insideF deep 1 po s) else verAt kd (blanks (s.drop o.length))) = t) := (if_neg (by rw [h40]; simp)).symm.trans HT2_.out
   clear h40 HT2_
   have HVER : Hid (∀ (W : World) (q : Nat) (s2 : List UInt8), Rd W b A n c q → Row W A n l → Pl l q s2 → Calls Tryz.prog 160 #[.pointer (some ⟨b, 0, none⟩), .int .i64 kd] W (RgPost b A n c l W (verAt kd s2))) := fun W q s2 h1 h2 h3 => ver_any b A n c q l s2 kd W h1 h2 hc h3
   have hsz : ((mk o).size : Int) = (o.length : Int) := rfl
   have hpo := HOS.out
   by_cases ho0 : o = []
   ·subst ho0
    have he1 := mk_empty
    have he2 := mk_eq0
    go_wp2_with fail
    refine (stands_any b A n c p l s [33] _ HR3.out HRow3.out hc HP.out (by decide)).mono ?_
    rintro e W4 ⟨rfl, hR, hM⟩
    have HM4 := Lib.hid (HM3.out.trans hM)
    have H74 := Lib.hid (H73.out.moved hM hne)
    have HR4 := Lib.hid hR
    have HRow4 := Lib.hid (row_keep HRow.out (HR.out.keep HM4.out))
    have HT4 := Lib.hid (HT.out.keep (HR.out.keep HM4.out))
    clear hR hM HR3 HM3 H73 HRow3 HT3
    cases h33 : stands [33] s with
    | true =>
     have HF : Hid (notF (insideF deep 1 po s) = t) := (if_pos ⟨by first | rfl | trivial, h33⟩).symm.trans HT3_.out
     have HST := Lib.hid h33
     clear h33
     go_wp2_with fail
     refine (not_ok b A n c l p s deep po _ HR4.out HRow4.out HP.out HT4.out hd HST.out ho).mono ?_
     rw [HF.out]
     rintro e W5 ⟨x, q5, rfl, hx, hP, hR, hM⟩
     unfold RV.agg
     have hz : w.heap.size < W4.heap.size := H74.out.1
     have HX : Hid (Lies W5 (From (w.heap.size + 1)) t.2.2 x) := hx.from_ hz
     have HPx := Lib.hid hP
     have HRx := Lib.hid hR
     have HMx := Lib.hid (HM4.out.trans hM)
     have H7x := Lib.hid (H74.out.moved hM hne)
     clear hx hP hR hM
     obtain ⟨y1, y2, c0, c1, c2, c3, c4, c5, c6⟩ := H7x.out
     go_wp2
     exact bodyPost_ret (v := .tuple #[.agg #[.int .i64 x.kind, .int .u64 (x.v.a : Int), .int .u64 (x.v.b : Int), .int .u64 (x.v.c : Int), .slice x.A x.v.pre.length x.c, .slice x.B x.v.build.length x.d, .slice x.L x.n x.e], .int .i64 (t.1 : Int)]) (by simp [results, Tryz.results142, go_sem, c0, c1, c2, c3, c4, c5, c6]) rfl (rg_end (x := x) (f := t.1) (s := t.2.1) (r := t.2.2) hbw HX.out HPx.out HRx.out HMx.out)
    | false =>
     have HF : Hid (verAt kd (blanks (s.drop ([] : List UInt8).length)) = t) := (if_neg (by rw [h33]; simp)).symm.trans HT3_.out
     clear h33
     obtain ⟨s2, hs2⟩ : ∃ s2, blanks (s.drop ([] : List UInt8).length) = s2 := ⟨_, rfl⟩
     rw [hs2] at HF
     go_wp2_with fail
     first
      | refine (pass_any b A n c p ([] : List UInt8).length l s _ HR4.out HRow4.out HP.out hpo).mono ?_
      | (rw [hsz]; refine (pass_any b A n c p ([] : List UInt8).length l s _ HR4.out HRow4.out HP.out hpo).mono ?_)
     rintro e W5 ⟨rfl, q5, hP, hR, hM⟩
     rw [hs2] at hP
     have HP5 := Lib.hid hP
     have HM5 := Lib.hid (HM4.out.trans hM)
     have H75 := Lib.hid (H74.out.moved hM hne)
     have HR5 := Lib.hid hR
     have HRow5 := Lib.hid (row_keep HRow.out (HR.out.keep HM5.out))
     clear hR hM hP hs2
     go_wp2_with fail
     refine (HVER.out W5 q5 s2 HR5.out HRow5.out HP5.out).mono ?_
     rw [HF.out]
     rintro e W6 ⟨x, q6, rfl, hx, hP, hR, hM⟩
     unfold RV.agg
     have hz : w.heap.size < W5.heap.size := H75.out.1
     have HX : Hid (Lies W6 (From (w.heap.size + 1)) t.2.2 x) := hx.from_ hz
     have HPx := Lib.hid hP
     have HRx := Lib.hid hR
     have HMx := Lib.hid (HM5.out.trans hM)
     have H7x := Lib.hid (H75.out.moved hM hne)
     clear hx hP hR hM
     obtain ⟨y1, y2, c0, c1, c2, c3, c4, c5, c6⟩ := H7x.out
     go_wp2
     exact bodyPost_ret (v := .tuple #[.agg #[.int .i64 x.kind, .int .u64 (x.v.a : Int), .int .u64 (x.v.b : Int), .int .u64 (x.v.c : Int), .slice x.A x.v.pre.length x.c, .slice x.B x.v.build.length x.d, .slice x.L x.n x.e], .int .i64 (t.1 : Int)]) (by simp [results, Tryz.results142, go_sem, c0, c1, c2, c3, c4, c5, c6]) rfl (rg_end (x := x) (f := t.1) (s := t.2.1) (r := t.2.2) hbw HX.out HPx.out HRx.out HMx.out)
   ·have he1 := mk_some ho0
    have he2 := mk_ne0 ho0
    have HF : Hid (verAt kd (blanks (s.drop o.length)) = t) := (if_neg (fun h => ho0 h.1)).symm.trans HT3_.out
    clear ho0
    obtain ⟨s2, hs2⟩ : ∃ s2, blanks (s.drop o.length) = s2 := ⟨_, rfl⟩
    rw [hs2] at HF
    go_wp2_with fail
    first
     | refine (pass_any b A n c p o.length l s _ HR3.out HRow3.out HP.out hpo).mono ?_
     | (rw [hsz]; refine (pass_any b A n c p o.length l s _ HR3.out HRow3.out HP.out hpo).mono ?_)
    rintro e W4 ⟨rfl, q4, hP, hR, hM⟩
    rw [hs2] at hP
    have HP4 := Lib.hid hP
    have HM4 := Lib.hid (HM3.out.trans hM)
    have H74 := Lib.hid (H73.out.moved hM hne)
    have HR4 := Lib.hid hR
    have HRow4 := Lib.hid (row_keep HRow.out (HR.out.keep HM4.out))
    clear hR hM hP hs2
    go_wp2_with fail
    refine (HVER.out W4 q4 s2 HR4.out HRow4.out HP4.out).mono ?_
    rw [HF.out]
    rintro e W5 ⟨x, q5, rfl, hx, hP, hR, hM⟩
    unfold RV.agg
    have hz : w.heap.size < W4.heap.size := H74.out.1
    have HX : Hid (Lies W5 (From (w.heap.size + 1)) t.2.2 x) := hx.from_ hz
    have HPx := Lib.hid hP
    have HRx := Lib.hid hR
    have HMx := Lib.hid (HM4.out.trans hM)
    have H7x := Lib.hid (H74.out.moved hM hne)
    clear hx hP hR hM
    obtain ⟨y1, y2, c0, c1, c2, c3, c4, c5, c6⟩ := H7x.out
    go_wp2
    exact bodyPost_ret (v := .tuple #[.agg #[.int .i64 x.kind, .int .u64 (x.v.a : Int), .int .u64 (x.v.b : Int), .int .u64 (x.v.c : Int), .slice x.A x.v.pre.length x.c, .slice x.B x.v.build.length x.d, .slice x.L x.n x.e], .int .i64 (t.1 : Int)]) (by simp [results, Tryz.results142, go_sem, c0, c1, c2, c3, c4, c5, c6]) rfl (rg_end (x := x) (f := t.1) (s := t.2.1) (r := t.2.2) hbw HX.out HPx.out HRx.out HMx.out)
theorem pone_ok (b : Nat) (A : Option Addr) (n c : Nat) (l : List UInt8) (hn : n ≤ 30000000) (hc : n ≤ c) : ∀ (k : Nat) (d : Int), 0 ≤ d → d + k = 64 → PartOK 142 b A n c l d (pone k) := by
 have hev : ∀ (k : Nat) (d : Int), PartOK 142 b A n c l d (pone k) → PartOK 88 b A n c l d (exprF (pone k)) := fun k d h => by
  have h1 := every_ok b A n c l d (pone k) hn hc (pone_prog k) (pone_piece k) h
  exact expr_ok b A n c l d (everyF (pone k)) hn hc (everyF_prog (pone_prog k)) (everyF_piece (pone_piece k)) h1
 intro k
 induction k with
 | zero =>
  intro d hd0 hd
  have hd64 : d = 64 := by omega
  subst hd64
  have h := one_ok b A n c l 64 (exprF (pone (0 - 1))) (pone (0 - 1)) hc ⟨by omega, by omega⟩ (fun h => absurd rfl h) (fun h => absurd rfl h)
  intro W q t h1 h2 h3 h4
  rw [pone_oneD 0 64 (by omega)]
  exact h W q t h1 h2 h3 h4
 | succ k ih =>
  intro d hd0 hd
  have hk := ih (d + 1) (by omega) (by omega)
  have h := one_ok b A n c l d (exprF (pone (k + 1 - 1))) (pone (k + 1 - 1)) hc ⟨by omega, by omega⟩ (fun _ => hev k (d + 1) hk) (fun _ => hk)
  intro W q t h1 h2 h3 h4
  rw [pone_oneD (k + 1) d (by omega)]
  exact h W q t h1 h2 h3 h4
theorem expr64_ok (b : Nat) (A : Option Addr) (n c : Nat) (l : List UInt8) (hn : n ≤ 30000000) (hc : n ≤ c) : PartOK 88 b A n c l 0 (exprF (pone 64)) := by
 have h1 := every_ok b A n c l 0 (pone 64) hn hc (pone_prog 64) (pone_piece 64) (pone_ok b A n c l hn hc 64 0 (by omega) (by omega))
 exact expr_ok b A n c l 0 (everyF (pone 64)) hn hc (everyF_prog (pone_prog 64)) (everyF_piece (pone_piece 64)) h1
end Go.Proofs.YtgfbflnhjpbceaaGreatDoor.Range
