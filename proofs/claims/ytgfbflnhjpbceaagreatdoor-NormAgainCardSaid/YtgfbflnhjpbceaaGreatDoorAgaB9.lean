/-
  What the theorem of the last text needs of these: RgVer, RgTell, RgMark, RgWeight, RgSev. Conditions: as each theorem states.
-/
import Derived.Test.YtgfbflnhjpbceaaGreatDoorAgaB1
import Derived.Test.YtgfbflnhjpbceaaGreatDoorAgaB4
import Derived.Test.YtgfbflnhjpbceaaGreatDoorAgaB5
import Derived.Test.YtgfbflnhjpbceaaGreatDoorAgaB6
import Derived.Test.YtgfbflnhjpbceaaGreatDoorAgaB8
import Derived.Deep.QuietTactic
import Derived.BigQuiet
import Derived.Deep.CutBlock
import Derived.Deep.DeepCutAuto
import Derived.Deep.RegionHeld3
set_option maxRecDepth 100000
set_option maxHeartbeats 25600000
namespace Go.Proofs.YtgfbflnhjpbceaaGreatDoor.Range
open Go.RowKit Num Ident Semver

theorem fit_good {v : Ver} (h : goodV v = true) : FitV v := by
 unfold goodV at h
 rw [Bool.and_eq_true, Bool.and_eq_true] at h
 obtain ⟨h1, h2, h3⟩ := h
 have hh := of_decide_eq_true h1
 unfold maxField at hh
 have b1 := goodFrom_bound _ _ h2
 have b2 := goodFrom_bound _ _ h3
 have l1 : v.pre.length ≤ 16 := by
  by_cases e : v.pre = []
  ·rw [e]; simp
  ·have := b1.1 e; omega
 have l2 : v.build.length ≤ 16 := by
  by_cases e : v.build = []
  ·rw [e]; simp
  ·have := b2.1 e; omega
 exact ⟨by omega, by omega, by omega, by unfold maxLen; omega, by unfold maxLen; omega, fun x hx => by have := b1.2 x hx; unfold maxLen; omega, fun x hx => by have := b2.2 x hx; unfold maxLen; omega⟩
theorem vparse_at (l s : List UInt8) (p : Nat) (h : Pl l p s) : vparse l p = ((vparse s 0).1, p + (vparse s 0).2.1, (vparse s 0).2.2) := by
 have h1 := vparse_place (l.take p) s
 have h2 : (l.take p).length = p := by rw [List.length_take]; have := h.le; omega
 have h3 : l.take p ++ s = l := by rw [h.eq, List.take_append_drop]
 rw [h2, h3] at h1
 exact h1
theorem At5.moved {W W' : World} {b B : Nat} {u0 u1 u2 u3 u4 : Value} (h : At5 W B u0 u1 u2 u3 u4) (hm : Moved b W W') (hne : B ≠ b) : At5 W' B u0 u1 u2 u3 u4 := by
 obtain ⟨h1, h2, c0, c1, c2, c3, c4⟩ := h
 have k := hm.block B h1 hne
 have kc : ∀ o, W'.cell? ⟨B, o, none⟩ = W.cell? ⟨B, o, none⟩ := fun o => World.cell?_of_block (w := W) (a := ⟨B, o, none⟩) k
 exact ⟨Nat.lt_of_lt_of_le h1 hm.size, fun o => (World.frozen?_of_block (w := W) (a := ⟨B, o, none⟩) k).trans (h2 o), (kc 0).trans c0, (kc 1).trans c1, (kc 2).trans c2, (kc 3).trans c3, (kc 4).trans c4⟩
theorem moved_set5 {b bv : Nat} {u w : World} (h : Moved b u w) (hb : b < u.heap.size) (hv : u.heap.size ≤ bv) (v0 v1 v2 v3 v4 : Value) : Moved b u (set5 w bv v0 v1 v2 v3 v4) := by
 unfold set5
 exact ((((h.set hb (p := ⟨bv, 0, none⟩) hv _).set hb (p := ⟨bv, 1, none⟩) hv _).set hb (p := ⟨bv, 2, none⟩) hv _).set hb (p := ⟨bv, 3, none⟩) hv _).set hb (p := ⟨bv, 4, none⟩) hv _
theorem rd_set5 {w : World} {b bv : Nat} {A : Option Addr} {n c p : Nat} (h : Rd w b A n c p) (hv : b < bv) (v0 v1 v2 v3 v4 : Value) : Rd (set5 w bv v0 v1 v2 v3 v4) b A n c p := by
 unfold set5
 exact ((((h.set (q := ⟨bv, 0, none⟩) hv _).set (q := ⟨bv, 1, none⟩) hv _).set (q := ⟨bv, 2, none⟩) hv _).set (q := ⟨bv, 3, none⟩) hv _).set (q := ⟨bv, 4, none⟩) hv _
theorem at7_set5 {w : World} {B bv : Nat} {u0 u1 u2 u3 u4 u5 u6 : Value} (h : At7 w B u0 u1 u2 u3 u4 u5 u6) (hv : B < bv) (v0 v1 v2 v3 v4 : Value) : At7 (set5 w bv v0 v1 v2 v3 v4) B u0 u1 u2 u3 u4 u5 u6 := by
 unfold set5
 exact h.kept (B := bv) (((((((Below.refl bv w).setCell (p := ⟨bv, 0, none⟩) (Nat.le_refl _) _).setCell (p := ⟨bv, 1, none⟩) (Nat.le_refl _) _).setCell (p := ⟨bv, 2, none⟩) (Nat.le_refl _) _).setCell (p := ⟨bv, 3, none⟩) (Nat.le_refl _) _).setCell (p := ⟨bv, 4, none⟩) (Nat.le_refl _) _)) hv
theorem ver_block {w W : World} {b bv : Nat} (hbw : b < w.heap.size) {A : Option Addr} {n c p : Nat} {v : Ver} {A1 B1 : Option Addr} {c1 d1 : Nat} (hR : Rd W b A n c p) (hM : Moved b w W) (hA : SRow W A1 v.pre.length v.pre) (hB : SRow W B1 v.build.length v.build) (h5 : At5 W bv (.int .u64 0) (.int .u64 0) (.int .u64 0) (.slice none 0 0) (.slice none 0 0)) (hv : w.heap.size < bv) (h7 : At7 W w.heap.size (.int .i64 0) (.int .u64 0) (.int .u64 0) (.int .u64 0) (.slice none 0 0) (.slice none 0 0) (.slice none 0 0)) :
  At5 (set5 W bv (.int .u64 (v.a : Int)) (.int .u64 (v.b : Int)) (.int .u64 (v.c : Int)) (.slice A1 v.pre.length c1) (.slice B1 v.build.length d1)) bv (.int .u64 (v.a : Int)) (.int .u64 (v.b : Int)) (.int .u64 (v.c : Int)) (.slice A1 v.pre.length c1) (.slice B1 v.build.length d1) ∧ Rd (set5 W bv (.int .u64 (v.a : Int)) (.int .u64 (v.b : Int)) (.int .u64 (v.c : Int)) (.slice A1 v.pre.length c1) (.slice B1 v.build.length d1)) b A n c p ∧ Moved b w (set5 W bv (.int .u64 (v.a : Int)) (.int .u64 (v.b : Int)) (.int .u64 (v.c : Int)) (.slice A1 v.pre.length c1) (.slice B1 v.build.length d1)) ∧ SRow (set5 W bv (.int .u64 (v.a : Int)) (.int .u64 (v.b : Int)) (.int .u64 (v.c : Int)) (.slice A1 v.pre.length c1) (.slice B1 v.build.length d1)) A1 v.pre.length v.pre ∧ SRow (set5 W bv (.int .u64 (v.a : Int)) (.int .u64 (v.b : Int)) (.int .u64 (v.c : Int)) (.slice A1 v.pre.length c1) (.slice B1 v.build.length d1)) B1 v.build.length v.build ∧ At7 (set5 W bv (.int .u64 (v.a : Int)) (.int .u64 (v.b : Int)) (.int .u64 (v.c : Int)) (.slice A1 v.pre.length c1) (.slice B1 v.build.length d1)) w.heap.size (.int .i64 0) (.int .u64 0) (.int .u64 0) (.int .u64 0) (.slice none 0 0) (.slice none 0 0) (.slice none 0 0) := by
 obtain ⟨hvl, hvf, g0, g1, g2, g3, g4⟩ := h5
 have h5 : At5 W bv (.int .u64 0) (.int .u64 0) (.int .u64 0) (.slice none 0 0) (.slice none 0 0) := ⟨hvl, hvf, g0, g1, g2, g3, g4⟩
 have hb : b < bv := by
  by_cases h : b < w.heap.size
  ·omega
  ·exact absurd hbw h
 exact ⟨h5.set5 _ _ _ _ _, rd_set5 hR hb _ _ _ _ _, moved_set5 hM hbw (Nat.le_of_lt hv) _ _ _ _ _, hA.set5 g0 g1 g2 g3 g4 (by simp) (by simp) (by simp) (by simp) (by simp) _ _ _ _ _, hB.set5 g0 g1 g2 g3 g4 (by simp) (by simp) (by simp) (by simp) (by simp) _ _ _ _ _, at7_set5 h7 hv _ _ _ _ _⟩
theorem ver_any (b : Nat) (A : Option Addr) (n c p : Nat) (l s : List UInt8) (kind : Int) (w : World) (hR : Rd w b A n c p) (hr : Row w A n l) (hc : n ≤ c) (hs : Pl l p s) :
  Calls Tryz.prog 160 #[.pointer (some ⟨b, 0, none⟩), .int .i64 kind] w (RgPost b A n c l w (verAt kind s)) := by
 have hm := hr.2.1
 unfold maxLen at hm
 have hbw := hR.lt
 have HP := Lib.hid hs
 have HL := Lib.hid hr.1
 have HRw := Lib.hid hR
 have HRow := Lib.hid hr
 have H7 : Hid (At7 (w.alloc (.cells #[.int .i64 0, .int .u64 0, .int .u64 0, .int .u64 0, .slice none 0 0, .slice none 0 0, .slice none 0 0] 28)) w.heap.size (.int .i64 0) (.int .u64 0) (.int .u64 0) (.int .u64 0) (.slice none 0 0) (.slice none 0 0) (.slice none 0 0)) := At7.new _ _ _ _ _ _ _ _ _
 have HR0 : Hid (Rd (w.alloc (.cells #[.int .i64 0, .int .u64 0, .int .u64 0, .int .u64 0, .slice none 0 0, .slice none 0 0, .slice none 0 0] 28)) b A n c p) := hR.alloc _
 have HM : Hid (Moved b w (w.alloc (.cells #[.int .i64 0, .int .u64 0, .int .u64 0, .int .u64 0, .slice none 0 0, .slice none 0 0, .slice none 0 0] 28))) := (Moved.refl b w).alloc hbw _
 have HRow0 : Hid (Row (w.alloc (.cells #[.int .i64 0, .int .u64 0, .int .u64 0, .int .u64 0, .slice none 0 0, .slice none 0 0, .slice none 0 0] 28)) A n l) := hr.kept ((Below.refl _ _).alloc (Nat.le_refl _) _)
 clear hR hr hs
 go_enter Tryz.func160, Tryz.ntmps160
 go_wp2_with fail
 refine (oneOf_any b A n c p l s digits _ HR0.out HRow0.out HP.out).mono ?_
 rintro e W0 ⟨rfl, hR1, hM1⟩
 replace HRow0 := Lib.hid (row_keep HRow0.out (HR0.out.keep hM1))
 replace H7 := Lib.hid (At7.moved H7.out hM1 (by omega))
 replace HM := Lib.hid (HM.out.trans hM1)
 replace HR0 := Lib.hid hR1
 have hz : w.heap.size < W0.heap.size := H7.out.1
 clear hR1 hM1
 cases hst : oneOf digits s with
 | false =>
  have HV : Hid (verAt kind s = (lackN s, s, noRng)) := by unfold Hid verAt; rw [hst]; rfl
  go_wp2_with fail
  refine (lack_any b A n c p l s _ HR0.out HRow0.out HP.out).mono ?_
  rintro e W1 ⟨rfl, hR1, hM1⟩
  have H71 := Lib.hid (At7.moved H7.out hM1 (by omega))
  have HMM := Lib.hid (HM.out.trans hM1)
  have HRR := Lib.hid hR1
  have hne := Nat.ne_of_gt hbw
  clear hR1 hM1
  obtain ⟨y1, y2, c0, c1, c2, c3, c4, c5, c6⟩ := H71.out
  go_wp2
  exact bodyPost_ret (v := .tuple #[.agg #[.int .i64 0, .int .u64 0, .int .u64 0, .int .u64 0, .slice none 0 0, .slice none 0 0, .slice none 0 0], .int .i64 (lackN s : Int)]) (by simp [results, Tryz.results160, go_sem, c0, c1, c2, c3, c4, c5, c6]) rfl (by rw [HV.out]; exact rg_end (x := zeroRV 0) hbw (Lies.zero _ _ 0) HP.out HRR.out HMM.out)
 | true =>
  have HPA : Hid (∀ W, Row W A n l → Calls Tryz.prog 171 #[.slice A n c, .int .i64 (p : Int)] W (VerPostF W ((vparse s 0).1, p + (vparse s 0).2.1, (vparse s 0).2.2))) := fun W hW => by
   have := Semver.parse_anyF A n c l (p : Int) W hW hc
   rw [vparse_at l s p HP.out] at this
   exact this
  have HQ := Lib.hid (vparse_end s 0)
  have HV : Hid (verAt kind s = if (vparse s 0).1 ≠ 0 then ((vparse s 0).1, s.drop (vparse s 0).2.1, noRng) else (0, blanks (s.drop (vparse s 0).2.1), .mk kind (vparse s 0).2.2 [])) := by
   unfold Hid verAt; rw [if_pos hst]
  have HG : Hid (∀ q v, vparse s 0 = (0, q, v) → FitV v) := fun q v h => fit_good (vparse_read h).1
  obtain ⟨⟨f, q, v⟩, hk⟩ : ∃ t, vparse s 0 = t := ⟨_, rfl⟩
  rw [hk] at HPA HV HQ HG
  simp only at HPA HV HQ
  clear hk
  go_upto_region 3 with (fail)
  go_cut [6, 7, 8] (fun v6 v7 v8 wx => ∃ bv A1 c1 B1 d1, v6 = .pointer (some ⟨bv, 0, none⟩) ∧ v7 = .int .i64 ((p + q : Nat) : Int) ∧ v8 = .int .i64 (f : Int) ∧ w.heap.size < bv ∧ v.pre.length ≤ c1 ∧ v.build.length ≤ d1 ∧ At5 wx bv (.int .u64 (v.a : Int)) (.int .u64 (v.b : Int)) (.int .u64 (v.c : Int)) (.slice A1 v.pre.length c1) (.slice B1 v.build.length d1) ∧ Rd wx b A n c p ∧ Moved b w wx ∧ SRow wx A1 v.pre.length v.pre ∧ SRow wx B1 v.build.length v.build ∧ At7 wx w.heap.size (.int .i64 0) (.int .u64 0) (.int .u64 0) (.int .u64 0) (.slice none 0 0) (.slice none 0 0) (.slice none 0 0) ∧ Fresh (w.heap.size + 1) A1 v.pre.length ∧ Fresh (w.heap.size + 1) B1 v.build.length)
  case first =>
   have H0 : Hid (Rd W0.drew b A n c p) := HR0.out.drew
   have HW0 : Hid (Row W0.drew A n l) := HRow0.out
   have HM0 : Hid (Moved b w W0.drew) := HM.out.drew
   have H70 : Hid (At7 W0.drew w.heap.size (.int .i64 0) (.int .u64 0) (.int .u64 0) (.int .u64 0) (.slice none 0 0) (.slice none 0 0) (.slice none 0 0)) := H7.out
   have hz0 : w.heap.size < W0.drew.heap.size := hz
   refine wp_region_held_drew (S := fun w' => w'.cell? ⟨b, 0, none⟩ = some (.slice A n c) ∧ w'.cell? ⟨b, 1, none⟩ = some (.int .i64 (p : Int))) (by kernel_rfl) ⟨H0.out.row, H0.out.at_⟩ (fun hHeld => ?_)
   refine tk 0 rfl (.pointer (some ⟨b, 0, none⟩)) ?_
   refine tk 1 rfl (.pointer (some ⟨b, 0, none⟩)) ?_
   refine tk 2 rfl (.pointer (some ⟨b, 0, none⟩)) ?_
   refine tk 3 rfl (.slice A n c) ?_ fun w' hS' => by have x := hS'.1; go_simp
   refine tk 4 rfl (.pointer (some ⟨b, 0, none⟩)) ?_
   refine tk 5 rfl (.pointer (some ⟨b, 0, none⟩)) ?_
   refine tk 6 rfl (.pointer (some ⟨b, 1, none⟩)) ?_
   refine tk 7 rfl (.int .i64 (p : Int)) ?_ fun w' hS' => by have x := hS'.2; go_simp
   refine wpAnyH_ready (rs := [8, 13]) (by kernel_rfl) (by simp) ?_
   refine AllReadyH.cons (o := { dst := some 24, op := Op.call { callee := Callee.value (Operand.func 171), args := #[Operand.tmp 19, Operand.tmp 23], argTypes := #[68, 3] }, type := 184, pos := _, after := _, guard := none }) rfl (fun K hK => ?_) (AllReadyH.cons (o := { dst := some 6, op := Op.alloc 25, type := 0, pos := _, after := _, guard := none }) rfl (fun K hK => ?_) AllReadyH.nil)
   ·go_simp
    refine (HPA.out _ HW0.out).mono ?_
    rintro e W1 ⟨A1, c1, B1, d1, rfl, hc1, hd1, hr1, hr2, hb1, hf1, hf2⟩
    simp only at hc1 hd1 hr1 hr2 hf1 hf2 ⊢
    have HR1 : Hid (Rd W1 b A n c p) := H0.out.kept hb1 H0.out.lt
    have HM1 : Hid (Moved b w W1) := HM0.out.below hb1 HM0.out.size hbw
    have HA1 := Lib.hid hr1
    have HB1 := Lib.hid hr2
    have H71 := Lib.hid (H70.out.kept hb1 hz0)
    have hz1 : w.heap.size < W1.heap.size := Nat.lt_of_lt_of_le hz0 hb1.size
    have HF1 : Hid (Fresh (w.heap.size + 1) A1 v.pre.length) := hf1.mono hz0
    have HF2 : Hid (Fresh (w.heap.size + 1) B1 v.build.length) := hf2.mono hz0
    clear hr1 hr2 hb1 hf1 hf2
    clear hHeld
    refine hK.out _ _ ⟨HR1.out.row, HR1.out.at_⟩ (fun hHeld => ?_)
    clear hK K
    try simp only [Act.put, p1, p2, p3]
    refine tk 9 rfl (.tuple #[.agg #[.int .u64 (v.a : Int), .int .u64 (v.b : Int), .int .u64 (v.c : Int), .slice A1 v.pre.length c1, .slice B1 v.build.length d1], .int .i64 ((p + q : Nat) : Int), .int .i64 (f : Int)]) ?_
    refine tk 10 rfl (.agg #[.int .u64 (v.a : Int), .int .u64 (v.b : Int), .int .u64 (v.c : Int), .slice A1 v.pre.length c1, .slice B1 v.build.length d1]) ?_
    refine tk 11 rfl (.int .i64 ((p + q : Nat) : Int)) ?_
    refine tk 12 rfl (.int .i64 (f : Int)) ?_
    refine cl 13 rfl fun K hK => ?_
    go_simp
    have H5 : Hid (At5 (W1.alloc (.cells #[.int .u64 (v.a : Int), .int .u64 (v.b : Int), .int .u64 (v.c : Int), .slice A1 v.pre.length c1, .slice B1 v.build.length d1] 25)) W1.heap.size (.int .u64 (v.a : Int)) (.int .u64 (v.b : Int)) (.int .u64 (v.c : Int)) (.slice A1 v.pre.length c1) (.slice B1 v.build.length d1)) := At5.new _ _ _ _ _ _ _
    have HV2 : Hid (w.heap.size < W1.heap.size) := hz1
    clear hHeld
    refine hK.out _ _ ⟨(HR1.out.alloc (.cells #[.int .u64 0, .int .u64 0, .int .u64 0, .slice none 0 0, .slice none 0 0] 25)).row, (HR1.out.alloc (.cells #[.int .u64 0, .int .u64 0, .int .u64 0, .slice none 0 0, .slice none 0 0] 25)).at_⟩ (fun hHeld => ?_)
    clear hK K
    try simp only [Act.put, p1, p2, p3]
    refine cl 14 rfl fun K hK => ?_
    go_simp
    have HR2 : Hid (Rd (W1.alloc (.cells #[.int .u64 (v.a : Int), .int .u64 (v.b : Int), .int .u64 (v.c : Int), .slice A1 v.pre.length c1, .slice B1 v.build.length d1] 25)) b A n c p) := HR1.out.alloc _
    have HM2 : Hid (Moved b w (W1.alloc (.cells #[.int .u64 (v.a : Int), .int .u64 (v.b : Int), .int .u64 (v.c : Int), .slice A1 v.pre.length c1, .slice B1 v.build.length d1] 25))) := HM1.out.alloc hbw _
    have HA2 := Lib.hid (HA1.out.kept ((Below.refl W1.heap.size W1).alloc (Nat.le_refl _) (.cells #[.int .u64 (v.a : Int), .int .u64 (v.b : Int), .int .u64 (v.c : Int), .slice A1 v.pre.length c1, .slice B1 v.build.length d1] 25)))
    have HB2 := Lib.hid (HB1.out.kept ((Below.refl W1.heap.size W1).alloc (Nat.le_refl _) (.cells #[.int .u64 (v.a : Int), .int .u64 (v.b : Int), .int .u64 (v.c : Int), .slice A1 v.pre.length c1, .slice B1 v.build.length d1] 25)))
    have H72 := Lib.hid (H71.out.kept ((Below.refl W1.heap.size W1).alloc (Nat.le_refl _) (.cells #[.int .u64 (v.a : Int), .int .u64 (v.b : Int), .int .u64 (v.c : Int), .slice A1 v.pre.length c1, .slice B1 v.build.length d1] 25)) hz1)
    clear hHeld
    refine hK.out _ _ ⟨HR2.out.row, HR2.out.at_⟩ (fun hHeld => ?_)
    clear hK K
    try simp only [Act.put, p1, p2, p3]
    refine tk 15 rfl (.int .i64 ((p + q : Nat) : Int)) ?_
    refine tk 16 rfl (.int .i64 (f : Int)) ?_
    refine wpAnyH_done (by kernel_rfl) ?_ _
    go_wp2
    go_meet
    exact ⟨_, A1, c1, B1, d1, rfl, rfl, rfl, HV2.out, hc1, hd1, H5.out, HR2.out, HM2.out, HA2.out, HB2.out, H72.out, HF1.out, HF2.out⟩
   ·go_simp
    have H5a : Hid (At5 ((W0.alloc (.cells #[.int .u64 0, .int .u64 0, .int .u64 0, .slice none 0 0, .slice none 0 0] 25)).drew) W0.heap.size (.int .u64 0) (.int .u64 0) (.int .u64 0) (.slice none 0 0) (.slice none 0 0)) := (At5.new W0 25 (.int .u64 0) (.int .u64 0) (.int .u64 0) (.slice none 0 0) (.slice none 0 0))
    have HV2 : Hid (w.heap.size < W0.heap.size) := hz
    have HRa : Hid (Rd ((W0.alloc (.cells #[.int .u64 0, .int .u64 0, .int .u64 0, .slice none 0 0, .slice none 0 0] 25)).drew) b A n c p) := (HR0.out.alloc _).drew
    have HMa : Hid (Moved b w ((W0.alloc (.cells #[.int .u64 0, .int .u64 0, .int .u64 0, .slice none 0 0, .slice none 0 0] 25)).drew)) := (HM.out.alloc hbw _).drew
    have HWa : Hid (Row ((W0.alloc (.cells #[.int .u64 0, .int .u64 0, .int .u64 0, .slice none 0 0, .slice none 0 0] 25)).drew) A n l) := row_keep (HRow0.out.kept ((Below.refl _ _).alloc (Nat.le_refl _) _)) (Keep.drew _)
    have H7a : Hid (At7 ((W0.alloc (.cells #[.int .u64 0, .int .u64 0, .int .u64 0, .slice none 0 0, .slice none 0 0] 25)).drew) w.heap.size (.int .i64 0) (.int .u64 0) (.int .u64 0) (.int .u64 0) (.slice none 0 0) (.slice none 0 0) (.slice none 0 0)) := H7.out.kept ((Below.refl W0.heap.size W0).alloc (Nat.le_refl _) (.cells #[.int .u64 0, .int .u64 0, .int .u64 0, .slice none 0 0, .slice none 0 0] 25)).drew hz
    have hza : W0.heap.size < ((W0.alloc (.cells #[.int .u64 0, .int .u64 0, .int .u64 0, .slice none 0 0, .slice none 0 0] 25)).drew).heap.size := by show _ < (W0.heap.push _).size; simp
    clear hHeld
    refine hK.out _ _ ⟨HRa.out.row, HRa.out.at_⟩ (fun hHeld => ?_)
    clear hK K
    try simp only [Act.put, p1, p2, p3]
    refine cl 8 rfl fun K hK => ?_
    go_simp
    refine (HPA.out _ HWa.out).mono ?_
    rintro e W1 ⟨A1, c1, B1, d1, rfl, hc1, hd1, hr1, hr2, hb1, hf1, hf2⟩
    simp only at hc1 hd1 hr1 hr2 hf1 hf2 ⊢
    have HR2 : Hid (Rd W1 b A n c p) := HRa.out.kept hb1 HRa.out.lt
    have HM2 : Hid (Moved b w W1) := HMa.out.below hb1 HMa.out.size hbw
    have HA2 := Lib.hid hr1
    have HB2 := Lib.hid hr2
    have H72 := Lib.hid (H7a.out.kept hb1 (Nat.lt_trans HV2.out hza))
    have H5 := Lib.hid (H5a.out.kept hb1 hza)
    have HF1 : Hid (Fresh (w.heap.size + 1) A1 v.pre.length) := hf1.mono (Nat.le_trans HV2.out (Nat.le_of_lt hza))
    have HF2 : Hid (Fresh (w.heap.size + 1) B1 v.build.length) := hf2.mono (Nat.le_trans HV2.out (Nat.le_of_lt hza))
    clear hr1 hr2 hb1 hf1 hf2
    clear hHeld
    refine hK.out _ _ ⟨HR2.out.row, HR2.out.at_⟩ (fun hHeld => ?_)
    clear hK K
    try simp only [Act.put, p1, p2, p3]
    refine tk 9 rfl (.tuple #[.agg #[.int .u64 (v.a : Int), .int .u64 (v.b : Int), .int .u64 (v.c : Int), .slice A1 v.pre.length c1, .slice B1 v.build.length d1], .int .i64 ((p + q : Nat) : Int), .int .i64 (f : Int)]) ?_
    refine tk 10 rfl (.agg #[.int .u64 (v.a : Int), .int .u64 (v.b : Int), .int .u64 (v.c : Int), .slice A1 v.pre.length c1, .slice B1 v.build.length d1]) ?_
    refine tk 11 rfl (.int .i64 ((p + q : Nat) : Int)) ?_
    refine tk 12 rfl (.int .i64 (f : Int)) ?_
    obtain ⟨hvl, hvf, g0, g1, g2, g3, g4⟩ := H5.out
    refine cl 14 rfl fun K hK => ?_
    go_simp
    obtain ⟨k1, k2, k3, k4, k5, k6⟩ := ver_block hbw (v := v) (c1 := c1) (d1 := d1) HR2.out HM2.out HA2.out HB2.out H5.out HV2.out H72.out
    have HK5 := Lib.hid k1
    have HKR := Lib.hid k2
    have HKM := Lib.hid k3
    have HKA := Lib.hid k4
    have HKB := Lib.hid k5
    have HK7 := Lib.hid k6
    clear k1 k2 k3 k4 k5 k6
    clear hHeld
    refine hK.out _ _ ⟨HKR.out.row, HKR.out.at_⟩ (fun hHeld => ?_)
    clear hK K
    try simp only [Act.put, p1, p2, p3]
    refine tk 15 rfl (.int .i64 ((p + q : Nat) : Int)) ?_
    refine tk 16 rfl (.int .i64 (f : Int)) ?_
    refine wpAnyH_done (by kernel_rfl) ?_ _
    go_wp2
    go_meet
    exact ⟨_, A1, c1, B1, d1, rfl, rfl, rfl, HV2.out, hc1, hd1, HK5.out, HKR.out, HKM.out, HKA.out, HKB.out, HK7.out, HF1.out, HF2.out⟩
  case rest =>
   obtain ⟨bv, A1, c1, B1, d1, rfl, rfl, rfl, hbv, hc1, hd1, h5, hR2, hM2, hA2, hB2, h72, hf1, hf2⟩ := hcut
   have HF1 : Hid (InS (From (w.heap.size + 1)) A1 v.pre.length) := hf1
   have HF2 : Hid (InS (From (w.heap.size + 1)) B1 v.build.length) := hf2
   clear hf1 hf2
   have HA2 := Lib.hid hA2
   have HB2 := Lib.hid hB2
   have H52 := Lib.hid h5
   have H72 := Lib.hid h72
   have HR2 := Lib.hid hR2
   have HM2 := Lib.hid hM2
   clear hA2 hB2 h5 h72 hR2 hM2
   have HPQ : Hid (Pl l (p + q) (s.drop q)) := HP.out.drop (by have := HP.out.len; have h2 := HP.out.le; have h3 := HQ.out; omega)
   have hpq : p + q ≤ n := by have := HPQ.out.le; rw [HL.out] at this; exact this
   have hne : w.heap.size ≠ b := by omega
   obtain ⟨r1, r2, r3, r4, _⟩ := HR2.out
   obtain ⟨y1, y2, c0, c1', c2, c3, c4, c5, c6⟩ := H72.out
   by_cases h0 : f = 0
   ·subst h0
    have HV2 : Hid (verAt kind s = (0, blanks (s.drop q), .mk kind v [])) := HV.out.trans (if_neg (by simp))
    have HG2 : Hid (FitV v) := HG.out q v rfl
    clear HV HG
    have HR3 : Hid (Rd (wc.setCell ⟨b, 1, none⟩ (.int .i64 ((p : Int) + (q : Int)))) b A n c (p + q)) := HR2.out.move (p + q)
    have HM3 : Hid (Moved b w (wc.setCell ⟨b, 1, none⟩ (.int .i64 ((p : Int) + (q : Int))))) := HM2.out.move _
    have HK3 : Hid (KeepS (From (w.heap.size + 1)) wc (wc.setCell ⟨b, 1, none⟩ (.int .i64 ((p : Int) + (q : Int))))) := KeepS.moved (Moved.at_ _) (fun h => by unfold From at h; omega)
    have HRow3 : Hid (Row (wc.setCell ⟨b, 1, none⟩ (.int .i64 ((p : Int) + (q : Int)))) A n l) := row_keep HRow.out (HRw.out.keep HM3.out)
    go_wp2_with fail
    refine (pass_any b A n c (p + q) 0 l (s.drop q) _ HR3.out HRow3.out HPQ.out hpq).mono ?_
    rintro e W4 ⟨rfl, q4, hq4, hR4, hM4⟩
    rw [List.drop_zero] at hq4
    have HP4 := Lib.hid hq4
    have HM4 := Lib.hid (HM3.out.trans hM4)
    have HK4 := Lib.hid (HK3.out.trans (KeepS.moved hM4 (fun h => by unfold From at h; omega)))
    have HR4 := Lib.hid hR4
    have HA4 := Lib.hid (srow_keepS HA2.out HK4.out HF1.out)
    have HB4 := Lib.hid (srow_keepS HB2.out HK4.out HF2.out)
    have H54 := Lib.hid (At5.moved (At5.moved H52.out (Moved.at_ (.int .i64 ((p : Int) + (q : Int)))) (by omega)) hM4 (by omega))
    have H74 : Hid (RAt W4 w.heap.size (zeroRV 0)) := RAt.moved (RAt.moved (x := zeroRV 0) H72.out (Moved.at_ (.int .i64 ((p : Int) + (q : Int)))) hne) hM4 hne
    clear hq4 hR4 hM4 HR3 HM3 HK3 HRow3 HR2 HM2 HA2 HB2 H52 H72 r1 r2 r3 r4 y1 y2 c0 c1' c2 c3 c4 c5 c6
    obtain ⟨y1, y2, c0, c1', c2, c3, c4, c5, c6⟩ := H74.out
    obtain ⟨_, _, g0, g1, g2, g3, g4⟩ := H54.out
    have hbe := Nat.ne_of_gt hbv
    go_wp2
    exact bodyPost_ret (v := .tuple #[.agg #[.int .i64 kind, .int .u64 (v.a : Int), .int .u64 (v.b : Int), .int .u64 (v.c : Int), .slice A1 v.pre.length c1, .slice B1 v.build.length d1, .slice none 0 0], .int .i64 0]) (by simp [results, Tryz.results160, go_sem, c0, c1', c2, c3, c4, c5, c6]) rfl (by rw [HV2.out]; exact rg_end (x := ⟨kind, v, A1, c1, B1, d1, none, 0, 0⟩) hbw (Lies.version kind v A1 c1 B1 d1 HA4.out HB4.out HF1.out HF2.out hc1 hd1 HG2.out) HP4.out HR4.out HM4.out)
   ·have hb1 : ((f : Int) != 0) = true := by simp [h0]
    have hb2 : ((f : Int) == 0) = false := by simp [h0]
    have HV2 : Hid (verAt kind s = (f, s.drop q, noRng)) := HV.out.trans (if_pos h0)
    clear h0
    go_wp2
    exact bodyPost_ret (v := .tuple #[.agg #[.int .i64 0, .int .u64 0, .int .u64 0, .int .u64 0, .slice none 0 0, .slice none 0 0, .slice none 0 0], .int .i64 (f : Int)]) (by simp [results, Tryz.results160, go_sem, c0, c1', c2, c3, c4, c5, c6]) rfl (by rw [HV2.out]; exact rg_end (x := zeroRV 0) hbw (Lies.zero _ _ 0) HPQ.out (HR2.out.move (p + q)) (HM2.out.move _))
end Go.Proofs.YtgfbflnhjpbceaaGreatDoor.Range
namespace Go.Proofs.YtgfbflnhjpbceaaGreatDoor.Range
open Go.RowKit Num Ident Semver

theorem ofVersion_any (k : Int) (w : World) : Calls Tryz.prog 90 #[.int .i64 k] w fun e w' => e = .returned (.bool (ofVersion k)) ∧ w' = w := by
 unfold ofVersion
 go_enter Tryz.func90, Tryz.ntmps90
 by_cases h1 : 1 ≤ k
 ·by_cases h2 : k ≤ 8
  ·go_wp2; go_ret
   exact ⟨by simp [h1, h2], rfl⟩
  ·go_wp2; go_ret
   exact ⟨by simp [h2], rfl⟩
 ·go_wp2; go_ret
  exact ⟨by simp; omega, rfl⟩
theorem bracketed_any (o k : Int) (w : World) : Calls Tryz.prog 55 #[.int .i64 o, .int .i64 k] w fun e w' => e = .returned (.bool (bracketed o k)) ∧ w' = w := by
 unfold bracketed
 go_enter Tryz.func55, Tryz.ntmps55
 by_cases h1 : k = 10
 ·go_wp2; go_ret
  exact ⟨by simp [h1], rfl⟩
 ·by_cases h2 : k = 9
  ·by_cases h3 : o = 10
   ·go_wp2; go_ret
    exact ⟨by simp [h2, h3], rfl⟩
   ·go_wp2; go_ret
    exact ⟨by simp [h2, h3], rfl⟩
  ·go_wp2; go_ret
   exact ⟨by simp [h1, h2], rfl⟩
theorem opens_any (o k : Int) (w : World) : Calls Tryz.prog 78 #[.int .i64 o, .int .i64 k] w fun e w' => e = .returned (.int .i64 (opens o k : Int)) ∧ w' = w := by
 have HO : Hid (opens o k = (if o = 11 then 1 else 0) + (if bracketed o k = true then 1 else 0)) := rfl
 go_enter Tryz.func78, Tryz.ntmps78
 by_cases h1 : o = 11
 ·subst h1
  go_wp2_with fail
  refine (bracketed_any 11 k _).mono ?_
  rintro e w' ⟨rfl, rfl⟩
  cases hb : bracketed 11 k with
  | true => go_wp2; go_ret; exact ⟨by rw [HO.out, hb]; rfl, rfl⟩
  | false => go_wp2; go_ret; exact ⟨by rw [HO.out, hb]; rfl, rfl⟩
 ·go_wp2_with fail
  refine (bracketed_any o k _).mono ?_
  rintro e w' ⟨rfl, rfl⟩
  cases hb : bracketed o k with
  | true => go_wp2; go_ret; exact ⟨by rw [HO.out, hb, if_neg h1]; rfl, rfl⟩
  | false => go_wp2; go_ret; exact ⟨by rw [HO.out, hb, if_neg h1]; rfl, rfl⟩
theorem within_any (b o : Nat) (x : RV) (w : World) (hc : CellsAt w b o x) (hn : x.n ≤ x.e) (hk : (x.kind = 9 ∨ x.kind = 10) ∨ x.kind = 11 ∧ x.n = 1 ∨ (x.kind ≠ 9 ∧ x.kind ≠ 10 ∧ x.kind ≠ 11) ∧ x.n = 0) :
  Calls Tryz.prog 53 #[.pointer (some ⟨b, o, none⟩)] w fun e w' => (∃ A c, e = .returned (.slice A x.n c) ∧ x.n ≤ c ∧ (0 < x.n → A = x.L)) ∧ Below w.heap.size w w' := by
 obtain ⟨x0, x1, x2, x3, x4, x5, x6⟩ := hc.cells
 obtain ⟨kind, v, A, c, B, d, L, n, e⟩ := x
 simp only at x0 x1 x2 x3 x4 x5 x6 hn hk ⊢
 go_enter Tryz.func53, Tryz.ntmps53
 rcases hk with (rfl | rfl) | ⟨rfl, rfl⟩ | ⟨⟨h1, h2, h3⟩, rfl⟩
 ·go_wp2; go_ret
  exact ⟨⟨L, e, rfl, hn, fun _ => rfl⟩, Below.refl _ _⟩
 ·go_wp2; go_ret
  exact ⟨⟨L, e, rfl, hn, fun _ => rfl⟩, Below.refl _ _⟩
 ·go_upto_region 6 with (fail)
  go_region
  go_wp2; go_ret
  exact ⟨⟨L, e, rfl, hn, fun _ => rfl⟩, (Below.refl w.heap.size w).drew⟩
 ·go_wp2; go_ret
  exact ⟨⟨none, 0, rfl, Nat.le_refl _, fun h => absurd h (Nat.lt_irrefl _)⟩, Below.refl _ _⟩
theorem ahead_any (g o : Nat) (b p : Nat) (outer k : Int) (i : Nat) (w : World) (h0 : w.cell? ⟨g, o, none⟩ = some (.pointer (some ⟨b, p, none⟩))) (h1 : w.cell? ⟨g, o + 1, none⟩ = some (.int .i64 (i : Int))) (h2 : w.cell? ⟨b, p, none⟩ = some (.int .i64 outer)) :
  Calls Tryz.prog 54 #[.pointer (some ⟨g, o, none⟩), .int .i64 k] w fun e w' => e = .returned (.string (mk (aheadR outer k i))) ∧ w' = w := by
 unfold aheadR
 go_enter Tryz.func54, Tryz.ntmps54
 by_cases a1 : outer = 11 ∧ k = 5
 ·obtain ⟨rfl, rfl⟩ := a1
  go_wp2; go_ret
  exact ⟨rfl, rfl⟩
 ·rw [if_neg a1]
  have a2 : outer = 11 → ¬ k = 5 := fun h h' => a1 ⟨h, h'⟩
  clear a1
  by_cases a3 : i = 0
  ·subst a3
   by_cases a4 : outer = 11
   ·have a5 := a2 a4
    go_wp2; go_ret
    exact ⟨rfl, rfl⟩
   ·go_wp2; go_ret
    exact ⟨rfl, rfl⟩
  ·rw [if_neg a3]
   have a3' : ¬ (i : Int) = 0 := by omega
   by_cases a4 : outer = 11
   ·have a5 := a2 a4
    subst a4
    go_wp2; go_ret
    exact ⟨rfl, rfl⟩
   ·by_cases a6 : outer = 10
    ·subst a6
     go_wp2; go_ret
     exact ⟨rfl, rfl⟩
    ·rw [if_neg a6]
     go_wp2; go_ret
     exact ⟨rfl, rfl⟩
end Go.Proofs.YtgfbflnhjpbceaaGreatDoor.Range
namespace Go.Proofs.YtgfbflnhjpbceaaGreatDoor.Range
open Go.RowKit Num Ident Semver
theorem good_short {v : Ver} (h : goodV v = true) : shortB v.pre = true ∧ shortB v.build = true := by
 unfold goodV at h
 rw [Bool.and_eq_true, Bool.and_eq_true] at h
 obtain ⟨_, h2, h3⟩ := h
 have b1 := goodFrom_bound _ _ h2
 have b2 := goodFrom_bound _ _ h3
 refine ⟨(shortB_iff _).2 ⟨?_, fun x hx => Nat.le_trans (b1.2 x hx) (by omega)⟩, (shortB_iff _).2 ⟨?_, fun x hx => Nat.le_trans (b2.2 x hx) (by omega)⟩⟩
 ·by_cases e : v.pre = []
  ·rw [e]; simp
  ·have := b1.1 e; omega
 ·by_cases e : v.build = []
  ·rw [e]; simp
  ·have := b2.1 e; omega
theorem mark_of {k : Int} (v : Ver) (h1 : 1 ≤ k) (h2 : k ≤ 8) : markR k v = ops.getD (k - 1).toNat [] ++ vtext v := by
 unfold markR ofVersion
 rw [if_neg (by omega), if_neg (by omega), if_neg (by omega), if_pos (by simp; omega)]
theorem mark_any (x : RV) (w : World) (hr1 : SRow w x.A x.v.pre.length x.v.pre) (hr2 : SRow w x.B x.v.build.length x.v.build) (hc1 : x.v.pre.length ≤ x.c) (hc2 : x.v.build.length ≤ x.d)
  (hk : x.kind = 0 ∨ (x.kind = 9 ∨ x.kind = 10) ∨ x.kind = 11 ∨ (1 ≤ x.kind ∧ x.kind ≤ 8 ∧ goodV x.v = true)) (hlen : (markR x.kind x.v).length ≤ 100000000) (ht : OpsTab w) (htab : Tab w) :
  Calls Tryz.prog 51 #[x.agg] w fun e w' => e = .returned (.string (mk (markR x.kind x.v))) ∧ Below w.heap.size w w' := by
 have HB : Hid (Below w.heap.size w (w.alloc (.cells #[.int .i64 x.kind, .int .u64 (x.v.a : Int), .int .u64 (x.v.b : Int), .int .u64 (x.v.c : Int), .slice x.A x.v.pre.length x.c, .slice x.B x.v.build.length x.d, .slice x.L x.n x.e] 28))) := (Below.refl _ _).alloc (Nat.le_refl _) _
 have HRA : Hid (RAt (w.alloc (.cells #[.int .i64 x.kind, .int .u64 (x.v.a : Int), .int .u64 (x.v.b : Int), .int .u64 (x.v.c : Int), .slice x.A x.v.pre.length x.c, .slice x.B x.v.build.length x.d, .slice x.L x.n x.e] 28)) w.heap.size x) := RAt.new w _ x
 have HT : Hid (OpsTab (w.alloc (.cells #[.int .i64 x.kind, .int .u64 (x.v.a : Int), .int .u64 (x.v.b : Int), .int .u64 (x.v.c : Int), .slice x.A x.v.pre.length x.c, .slice x.B x.v.build.length x.d, .slice x.L x.n x.e] 28))) := ht.keep (Keep.of_below HB.out)
 have HTX : Hid (goodV x.v = true → ∀ W, Below w.heap.size w W → Calls Tryz.prog 91 #[.agg #[.int .u64 (x.v.a : Int), .int .u64 (x.v.b : Int), .int .u64 (x.v.c : Int), .slice x.A x.v.pre.length x.c, .slice x.B x.v.build.length x.d]] W fun e w' => e = .returned (.string (mk (vtext x.v))) ∧ Below W.heap.size W w') := fun hg W hb => by
  have f := fit_good hg
  have s := good_short hg
  exact vtext_any x.v x.A x.c x.B x.d W f.a f.b f.c (hr1.kept hb) (hr2.kept hb) hc1 hc2 s.1 s.2 (htab.kept hb)
 clear hr1 hr2 hc1 hc2 ht htab
 unfold RV.agg
 go_enter Tryz.func51, Tryz.ntmps51
 go_upto_region 1 with (fail)
 generalize w.alloc (.cells #[.int .i64 x.kind, .int .u64 (x.v.a : Int), .int .u64 (x.v.b : Int), .int .u64 (x.v.c : Int), .slice x.A x.v.pre.length x.c, .slice x.B x.v.build.length x.d, .slice x.L x.n x.e] 28) = W at HB HRA HT ⊢
 obtain ⟨y1, y2, c0, c1, c2, c3, c4, c5, c6⟩ := HRA.out
 rcases hk with hk | (hk | hk) | hk | ⟨h1, h2, h3⟩
 ·rw [hk] at c0
  have HM : Hid (markR x.kind x.v = [42]) := by rw [hk]; rfl
  clear hk
  go_wp2; go_ret
  exact ⟨by rw [HM.out]; rfl, HB.out⟩
 ·rw [hk] at c0
  have HM : Hid (markR x.kind x.v = []) := by rw [hk]; rfl
  clear hk
  go_wp2; go_ret
  exact ⟨by rw [HM.out]; rfl, HB.out⟩
 ·rw [hk] at c0
  have HM : Hid (markR x.kind x.v = []) := by rw [hk]; rfl
  clear hk
  go_wp2; go_ret
  exact ⟨by rw [HM.out]; rfl, HB.out⟩
 ·rw [hk] at c0
  have HM : Hid (markR x.kind x.v = [33]) := by rw [hk]; rfl
  clear hk
  go_wp2; go_ret
  exact ⟨by rw [HM.out]; rfl, HB.out⟩
 ·have HM := Lib.hid (mark_of x.v h1 h2)
  obtain ⟨k, hk⟩ : ∃ k : Nat, (x.kind - 1).toNat = k := ⟨_, rfl⟩
  have hk8 : k < 8 := by omega
  have hk1 : x.kind = (k : Int) + 1 := by omega
  have hw1 : IntKind.i64.wrap (x.kind - 1) = (k : Int) := by rw [IntKind.wrap_i64] <;> omega
  have n0 : ¬ x.kind = 0 := by omega
  have n9 : ¬ x.kind = 9 := by omega
  have n10 : ¬ x.kind = 10 := by omega
  have n11 : ¬ x.kind = 11 := by omega
  have HOV : Hid (ofVersion x.kind = true) := by unfold Hid ofVersion; simp; omega
  have HTX := Lib.hid (HTX.out h3)
  rw [hk] at HM
  have hk8i : (k : Int) < 8 := by omega
  have hsz : (mk (ops.getD k [])).size + (mk (vtext x.v)).size ≤ 9223372036854775807 := by
   rw [HM.out, List.length_append] at hlen
   rw [mk_size, mk_size]; omega
  clear hlen
  have q9 : (x.kind == 9) = false := by simp [n9]
  have q10 : (x.kind == 10) = false := by simp [n10]
  clear hk h1 h2 h3 hk1
  go_wp2_with fail
  refine (ofVersion_any x.kind W).mono ?_
  rintro e w' ⟨rfl, rfl⟩
  rw [HOV.out]
  go_upto_region 8 with (fail)
  have HBd : Hid (Below w.heap.size w w'.drew) := HB.out.drew
  have HRAd : Hid (RAt w'.drew w.heap.size x) := HRA.out
  have HTd : Hid (OpsTab w'.drew) := HT.out
  clear HB HRA HT
  refine wp_region_held_drew (S := fun w' => RAt w' w.heap.size x ∧ OpsTab w') (by kernel_rfl) ⟨HRAd.out, HTd.out⟩ (fun hHeld => ?_)
  refine tk 0 rfl (.pointer (some ⟨w.heap.size, 0, none⟩)) ?_
  refine tk 1 rfl (.int .i64 x.kind) ?_ fun w' hS' => by obtain ⟨y1, y2, c0, c1, c2, c3, c4, c5, c6⟩ := hS'.1; go_simp
  refine tk 2 rfl (.int .i64 (k : Int)) ?_
  refine tk 3 rfl (.pointer (some ⟨0, k, none⟩)) ?_
  refine tk 4 rfl (.string (mk (ops.getD k []))) ?_ fun w' hS' => by have x4 := hS'.2 k hk8; go_simp
  refine tk 5 rfl (.pointer (some ⟨w.heap.size, 1, none⟩)) ?_
  refine tk 6 rfl (.agg #[.int .u64 (x.v.a : Int), .int .u64 (x.v.b : Int), .int .u64 (x.v.c : Int), .slice x.A x.v.pre.length x.c, .slice x.B x.v.build.length x.d]) ?_ fun w' hS' => by obtain ⟨y1, y2, c0, c1, c2, c3, c4, c5, c6⟩ := hS'.1; go_simp
  refine cl 7 rfl fun K hK => ?_
  go_simp
  refine (HTX.out _ HBd.out).mono ?_
  rintro e wm1 ⟨rfl, hb⟩
  have HB2 := Lib.hid (HBd.out.trans (hb.mono HBd.out.size))
  have HRA1 : Hid (RAt wm1 w.heap.size x) := HRAd.out.kept hb HRAd.out.1
  have HT1 : Hid (OpsTab wm1) := HTd.out.keep (Keep.of_below hb)
  clear hb hHeld
  refine hK.out _ _ ⟨HRA1.out, HT1.out⟩ (fun hHeld => ?_)
  clear hK K
  try simp only [Act.put, p1, p2, p3]
  refine tk 8 rfl (.string (mk (ops.getD k []) ++ mk (vtext x.v))) ?_ fun w' hS' => by go_simp; exact hsz
  refine tk 9 rfl (.string (mk (ops.getD k []) ++ mk (vtext x.v))) ?_
  refine wpAnyH_done (by kernel_rfl) ?_ _
  go_wp2
  go_ret
  exact ⟨by rw [HM.out, ← mk_cat]; rfl, HB2.out⟩
end Go.Proofs.YtgfbflnhjpbceaaGreatDoor.Range
namespace Go.Proofs.YtgfbflnhjpbceaaGreatDoor.Range
open Go.RowKit Num Ident Semver
mutual
def wt : Rng → Nat
 | .mk _ _ l => 1 + wtL l
def wtL : List Rng → Nat
 | [] => 0
 | r :: rs => wt r + wtL rs
end
theorem wt_eq (r : Rng) : wt r = 1 + wtL r.subs := by cases r; rfl
theorem wtL_cons (r : Rng) (rs : List Rng) : wtL (r :: rs) = wt r + wtL rs := rfl
theorem wtL_drop (l : List Rng) (i : Nat) (h : i < l.length) : wtL (l.drop i) = 1 + wtL (l.getD i noRng).subs + wtL (l.drop (i + 1)) := by
 rw [List.drop_eq_getElem_cons h, wtL_cons, wt_eq]
 simp [List.getD, List.getElem?_eq_getElem h]
theorem wtL_pos {l : List Rng} (h : 0 < l.length) : 0 < wtL l := by
 cases l with
 | nil => simp at h
 | cons r rs => rw [wtL_cons, wt_eq]; omega
theorem least {p : Nat → Prop} (h : ∃ n, p n) : ∃ m, p m ∧ ∀ k, p k → m ≤ k := by
 obtain ⟨n, hn⟩ := h
 induction n using Nat.strongRecOn with
 | _ n ih =>
  by_cases hk : ∃ k, k < n ∧ p k
  ·obtain ⟨k, hlt, hp⟩ := hk; exact ih k hlt hp
  ·exact ⟨n, hn, fun k hp => Nat.le_of_not_lt fun hlt => hk ⟨k, hlt, hp⟩⟩
open Classical in
noncomputable def leastOf (p : Nat → Prop) : Nat := if h : ∃ n, p n then Classical.choose (least h) else 0
theorem leastOf_at {p : Nat → Prop} (h : ∃ n, p n) : p (leastOf p) := by unfold leastOf; rw [dif_pos h]; exact (Classical.choose_spec (least h)).1
theorem leastOf_le {p : Nat → Prop} {k : Nat} (h : p k) : leastOf p ≤ k := by unfold leastOf; rw [dif_pos ⟨k, h⟩]; exact (Classical.choose_spec (least ⟨k, h⟩)).2 k h
theorem wp_scope_back_of {P : Program} {a : Act} {w : World} {Q : Exit → Act → World → Prop} {c rest : Code} (l : Nat) (J : Nat → Act → World → Prop) (hf : findLabel c l = some (Code.skip.seq rest))
  (pass : ∀ m a w, J m a w → rest.wp P (Exit.jump l (fun a' w' => ∃ k, J k a' w' ∧ k < m) Q) a w)
  (first : Hid (∀ m a w, J m a w → rest.wp P (Exit.jump l (fun a' w' => ∃ k, J k a' w') Q) a w) → c.wp P (Exit.jump l (fun a' w' => ∃ k, J k a' w') Q) a w) : (Code.scope c).wp P Q a w := by
 refine wp_scope_back l (fun a w => ∃ k, J k a w) (fun a w => leastOf fun k => J k a w) hf (fun a w h => ?_) (fun H => first fun m a w h => H.out a w ⟨m, h⟩)
 refine wp_mono (pass _ a w (leastOf_at h)) fun e _ _ hq => ?_
 cases e <;> first
  | exact hq
  | (obtain ⟨he, k, hk, hlt⟩ := hq; exact ⟨he, ⟨k, hk⟩, Nat.lt_of_le_of_lt (leastOf_le hk) hlt⟩)
end Go.Proofs.YtgfbflnhjpbceaaGreatDoor.Range
namespace Go.Proofs.YtgfbflnhjpbceaaGreatDoor.Range
open Go.RowKit Num Ident Semver

theorem rgInfo : (Tryz.prog.info? 28).map (fun i => (i.zero, i.size, i.bytes)) = some (some (.agg #[.int .i64 0, .int .u64 0, .int .u64 0, .int .u64 0, .slice none 0 0, .slice none 0 0, .slice none 0 0]), 7, 104) := by kernel_rfl
theorem wpList_append_rg (w : World) {ops : Array Oper} {rest : List Oper} {o : Oper} {a : Act} {Q : Exit → Act → World → Prop} (hgd : o.guard = none) (s x : Operand)
  (ho : o.op = .call { callee := .builtin .append, args := #[s, x], argTypes := #[26, 26] })
  (base : Nat) (v : Value) (n : Nat) (xs : List RV) (hs : a.eval s = v) (hown : w.ownsRow base 28 7 v n (xs.flatMap RV.vals))
  (ad : Addr) (y : RV) (hx : a.eval x = .slice (some ad) 1 1) (hnews : ∀ j u, y.vals[j]? = some u → w.cell? (ad.add j) = some u) (hb : (n + 1) * 104 ≤ 140737488355328) (hbase : base ≤ w.heap.size)
  (h : ∀ v' w', w'.ownsRow base 28 7 v' (n + 1) ((xs ++ [y]).flatMap RV.vals) → w.grownBy w' v.ownBlock → (v'.ownBlock = v.ownBlock ∨ v'.ownBlock = some w.heap.size) → wpList Tryz.prog ops Q rest (a.put o.dst v') w') : wpList Tryz.prog ops Q (o :: rest) a w := by
 obtain ⟨i, hi, hz, hsz, hby⟩ := info_parts rgInfo
 refine wpList_append_own_at w hgd s x 26 ho base 28 i _ 7 104 Tryz.underlying26 hi hz hsz hby rfl (by omega) v n _ hs hown ad 1 1 y.vals hx rfl hnews (rv_one y) (by unfold maxLen; omega) hb hbase (fun v' w' h2 h3 _ h5 => ?_)
 exact h v' w' (by rw [List.flatMap_append]; simpa using h2) h3 h5
def Elems (B : Nat) (v : Value) (g : Nat) : Prop := B ≤ g ∧ some g ≠ v.ownBlock
structure OwnRg (w : World) (B : Nat) (v : Value) (l : List Rng) (xs : List RV) : Prop where
 own : w.ownsRow B 28 7 v l.length (xs.flatMap RV.vals)
 len : xs.length = l.length
 lies : ∀ j, j < l.length → Lies w (Elems B v) (l.getD j noRng) (xs.getD j default)
theorem OwnRg.nil (w : World) (B : Nat) : OwnRg w B (.slice none 0 0) [] [] := ⟨World.ownsRow_nil _ _ _ _, rfl, fun _ hj => absurd hj (Nat.not_lt_zero _)⟩
theorem OwnRg.kept {w w' : World} {B : Nat} {v : Value} {l : List Rng} {xs : List RV} (h : OwnRg w B v l xs) (k : Below w.heap.size w w') : OwnRg w' B v l xs := ⟨own_below h.own k, h.len, fun j hj => (h.lies j hj).keep (KeepS.of_below k)⟩
theorem OwnRg.moved {w w' : World} {B b : Nat} {v : Value} {l : List Rng} {xs : List RV} (h : OwnRg w B v l xs) (k : Moved b w w') (hb : b < B) : OwnRg w' B v l xs := by
 refine ⟨h.own.kept (row := some b) ⟨k.os, k.tape, k.output, k.size, fun i hi hne => k.block i hi (fun e => hne (by rw [e]))⟩ ?_, h.len, fun j hj => (h.lies j hj).keep (KeepS.moved k (fun e => by have := e.1; omega))⟩
 cases hv : v.ownBlock with
 | none => exact .inl rfl
 | some g => right; intro e; injection e with e; have := (h.own.lt g hv).1; omega
theorem OwnRg.more {w w' : World} {B : Nat} {v v' : Value} {l : List Rng} {xs : List RV} {r : Rng} {x : RV} {W0 : Nat} (h : OwnRg w B v l xs) (ho : w'.ownsRow B 28 7 v' (l.length + 1) ((xs ++ [x]).flatMap RV.vals)) (hg : w.grownBy w' v.ownBlock) (hat : v'.ownBlock = v.ownBlock ∨ v'.ownBlock = some w.heap.size) (hx : Lies w (From W0) r x) (hW : B ≤ W0) (hv : ∀ g, v.ownBlock = some g → g < W0) : OwnRg w' B v' (l ++ [r]) (xs ++ [x]) := by
 have hel : ∀ (q : Rng) (y : RV), Lies w (Elems B v) q y → Lies w' (Elems B v') q y := fun q y hq => by
  have h1 : Lies w (fun g => Elems B v g ∧ Elems B v' g) q y := hq.mono fun g hS hlt => ⟨hS, hS.1, by
   rcases hat with e | e
   ·rw [e]; exact hS.2
   ·rw [e]; intro h; injection h with h; omega⟩
  exact (h1.keep (KeepS.grown hg fun g hS => hS.1.2)).mono fun g hS _ => hS.2
 have hnew : Lies w (Elems B v) r x := hx.mono fun g hS _ => ⟨Nat.le_trans hW hS, fun e => by have := hv g e.symm; unfold From at hS; omega⟩
 refine ⟨by rw [List.length_append]; exact ho, by rw [List.length_append, List.length_append, h.len]; rfl, fun k hk => ?_⟩
 rw [List.length_append, List.length_singleton] at hk
 by_cases hlt : k < l.length
 ·have e1 : (l ++ [r]).getD k noRng = l.getD k noRng := by simp [List.getD, List.getElem?_append_left hlt]
  have e2 : (xs ++ [x]).getD k default = xs.getD k default := by simp [List.getD, List.getElem?_append_left (show k < xs.length by rw [h.len]; exact hlt)]
  rw [e1, e2]; exact hel _ _ (h.lies k hlt)
 ·have ek : k = l.length := by omega
  have e1 : (l ++ [r]).getD k noRng = r := by rw [ek]; simp [List.getD]
  have e2 : (xs ++ [x]).getD k default = x := by rw [ek, ← h.len]; simp [List.getD]
  rw [e1, e2]; exact hel _ _ hnew
theorem OwnRg.row {w : World} {B : Nat} {v : Value} {l : List Rng} {xs : List RV} (h : OwnRg w B v l xs) : ∃ L e, v = .slice L l.length e ∧ l.length ≤ e ∧ (L = none → e = 0) ∧ RgRow w (From B) L l.length l :=
 RgRow.of_own h.own (fun _ hg => hg) h.len rfl fun j hj => (h.lies j hj).mono fun _ hS _ => hS.1
theorem RgPost.alloc {b : Nat} {A : Option Addr} {n c : Nat} {l : List UInt8} {w W : World} {t : Out} {e : Ending} (h : RgPost b A n c l w t e W) (hb : b < w.heap.size) (o : Obj) : RgPost b A n c l w t e (W.alloc o) := by
 obtain ⟨x, q, h1, h2, h3, h4, h5⟩ := h
 exact ⟨x, q, h1, h2.keep (KeepS.alloc _ _), h3, h4.alloc _, h5.alloc hb _⟩
end Go.Proofs.YtgfbflnhjpbceaaGreatDoor.Range
