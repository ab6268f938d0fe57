/-
  A reader's version (rangeexpr.reader.version). Conditions: the reader's block holds its bytes and a place within them. (Made by wip/gen_rgver.py.)
-/
import Derived.Test.YtolkcblkciafiaaDoorRgOp
import Derived.Test.YtolkcblkciafiaaDoorSvParse
import Derived.Test.YtolkcblkciafiaaDoorRgBack
namespace Go.Proofs.YtolkcblkciafiaaDoor.Range
open Go.RowKit Num Ident Semver

theorem fit_good {v : Ver} (h : goodV v = true) : FitV v := by
  unfold goodV at h
  rw [Bool.and_eq_true, Bool.and_eq_true] at h
  obtain ⟨h1, h2, h3⟩ := h
  have hh := of_decide_eq_true h1
  unfold maxField at hh
  have b1 := goodFrom_bound _ _ h2
  have b2 := goodFrom_bound _ _ h3
  have l1 : v.pre.length ≤ 16 := by
    by_cases e : v.pre = []
    · rw [e]; simp
    · have := b1.1 e; omega
  have l2 : v.build.length ≤ 16 := by
    by_cases e : v.build = []
    · rw [e]; simp
    · have := b2.1 e; omega
  exact ⟨by omega, by omega, by omega, by unfold maxLen; omega, by unfold maxLen; omega, fun x hx => by have := b1.2 x hx; unfold maxLen; omega, fun x hx => by have := b2.2 x hx; unfold maxLen; omega⟩
theorem vparse_at (l s : List UInt8) (p : Nat) (h : Pl l p s) : vparse l p = ((vparse s 0).1, p + (vparse s 0).2.1, (vparse s 0).2.2) := by
  have h1 := vparse_place (l.take p) s
  have h2 : (l.take p).length = p := by rw [List.length_take]; have := h.le; omega
  have h3 : l.take p ++ s = l := by rw [h.eq, List.take_append_drop]
  rw [h2, h3] at h1
  exact h1
theorem At5.moved {W W' : World} {b B : Nat} {u0 u1 u2 u3 u4 : Value} (h : At5 W B u0 u1 u2 u3 u4) (hm : Moved b W W') (hne : B ≠ b) : At5 W' B u0 u1 u2 u3 u4 := by
  obtain ⟨h1, h2, c0, c1, c2, c3, c4⟩ := h
  have k := hm.block B h1 hne
  have kc : ∀ o, W'.cell? ⟨B, o, none⟩ = W.cell? ⟨B, o, none⟩ := fun o => World.cell?_of_block (w := W) (a := ⟨B, o, none⟩) k
  exact ⟨Nat.lt_of_lt_of_le h1 hm.size, fun o => (World.frozen?_of_block (w := W) (a := ⟨B, o, none⟩) k).trans (h2 o), (kc 0).trans c0, (kc 1).trans c1, (kc 2).trans c2, (kc 3).trans c3, (kc 4).trans c4⟩
/-- Five stores into a block of the call's own. -/
theorem moved_set5 {b bv : Nat} {u w : World} (h : Moved b u w) (hb : b < u.heap.size) (hv : u.heap.size ≤ bv) (v0 v1 v2 v3 v4 : Value) : Moved b u (set5 w bv v0 v1 v2 v3 v4) := by
  unfold set5
  exact ((((h.set hb (p := ⟨bv, 0, none⟩) hv _).set hb (p := ⟨bv, 1, none⟩) hv _).set hb (p := ⟨bv, 2, none⟩) hv _).set hb (p := ⟨bv, 3, none⟩) hv _).set hb (p := ⟨bv, 4, none⟩) hv _
theorem rd_set5 {w : World} {b bv : Nat} {A : Option Addr} {n c p : Nat} (h : Rd w b A n c p) (hv : b < bv) (v0 v1 v2 v3 v4 : Value) : Rd (set5 w bv v0 v1 v2 v3 v4) b A n c p := by
  unfold set5
  exact ((((h.set (q := ⟨bv, 0, none⟩) hv _).set (q := ⟨bv, 1, none⟩) hv _).set (q := ⟨bv, 2, none⟩) hv _).set (q := ⟨bv, 3, none⟩) hv _).set (q := ⟨bv, 4, none⟩) hv _
theorem at7_set5 {w : World} {B bv : Nat} {u0 u1 u2 u3 u4 u5 u6 : Value} (h : At7 w B u0 u1 u2 u3 u4 u5 u6) (hv : B < bv) (v0 v1 v2 v3 v4 : Value) : At7 (set5 w bv v0 v1 v2 v3 v4) B u0 u1 u2 u3 u4 u5 u6 := by
  unfold set5
  exact h.kept (B := bv) (((((((Below.refl bv w).setCell (p := ⟨bv, 0, none⟩) (Nat.le_refl _) _).setCell (p := ⟨bv, 1, none⟩) (Nat.le_refl _) _).setCell (p := ⟨bv, 2, none⟩) (Nat.le_refl _) _).setCell (p := ⟨bv, 3, none⟩) (Nat.le_refl _) _).setCell (p := ⟨bv, 4, none⟩) (Nat.le_refl _) _)) hv
theorem ver_block {w W : World} {b bv : Nat} (hbw : b < w.heap.size) {A : Option Addr} {n c p : Nat} {v : Ver} {A1 B1 : Option Addr} {c1 d1 : Nat} (hR : Rd W b A n c p) (hM : Moved b w W) (hA : SRow W A1 v.pre.length v.pre) (hB : SRow W B1 v.build.length v.build) (h5 : At5 W bv (.int .u64 0) (.int .u64 0) (.int .u64 0) (.slice none 0 0) (.slice none 0 0)) (hv : w.heap.size < bv) (h7 : At7 W w.heap.size (.int .i64 0) (.int .u64 0) (.int .u64 0) (.int .u64 0) (.slice none 0 0) (.slice none 0 0) (.slice none 0 0)) :
    At5 (set5 W bv (.int .u64 (v.a : Int)) (.int .u64 (v.b : Int)) (.int .u64 (v.c : Int)) (.slice A1 v.pre.length c1) (.slice B1 v.build.length d1)) bv (.int .u64 (v.a : Int)) (.int .u64 (v.b : Int)) (.int .u64 (v.c : Int)) (.slice A1 v.pre.length c1) (.slice B1 v.build.length d1) ∧ Rd (set5 W bv (.int .u64 (v.a : Int)) (.int .u64 (v.b : Int)) (.int .u64 (v.c : Int)) (.slice A1 v.pre.length c1) (.slice B1 v.build.length d1)) b A n c p ∧ Moved b w (set5 W bv (.int .u64 (v.a : Int)) (.int .u64 (v.b : Int)) (.int .u64 (v.c : Int)) (.slice A1 v.pre.length c1) (.slice B1 v.build.length d1)) ∧ SRow (set5 W bv (.int .u64 (v.a : Int)) (.int .u64 (v.b : Int)) (.int .u64 (v.c : Int)) (.slice A1 v.pre.length c1) (.slice B1 v.build.length d1)) A1 v.pre.length v.pre ∧ SRow (set5 W bv (.int .u64 (v.a : Int)) (.int .u64 (v.b : Int)) (.int .u64 (v.c : Int)) (.slice A1 v.pre.length c1) (.slice B1 v.build.length d1)) B1 v.build.length v.build ∧ At7 (set5 W bv (.int .u64 (v.a : Int)) (.int .u64 (v.b : Int)) (.int .u64 (v.c : Int)) (.slice A1 v.pre.length c1) (.slice B1 v.build.length d1)) w.heap.size (.int .i64 0) (.int .u64 0) (.int .u64 0) (.int .u64 0) (.slice none 0 0) (.slice none 0 0) (.slice none 0 0) := by
  obtain ⟨hvl, hvf, g0, g1, g2, g3, g4⟩ := h5
  have h5 : At5 W bv (.int .u64 0) (.int .u64 0) (.int .u64 0) (.slice none 0 0) (.slice none 0 0) := ⟨hvl, hvf, g0, g1, g2, g3, g4⟩
  have hb : b < bv := by
    by_cases h : b < w.heap.size
    · omega
    · exact absurd hbw h
  exact ⟨h5.set5 _ _ _ _ _, rd_set5 hR hb _ _ _ _ _, moved_set5 hM hbw (Nat.le_of_lt hv) _ _ _ _ _, hA.set5 g0 g1 g2 g3 g4 (by simp) (by simp) (by simp) (by simp) (by simp) _ _ _ _ _, hB.set5 g0 g1 g2 g3 g4 (by simp) (by simp) (by simp) (by simp) (by simp) _ _ _ _ _, at7_set5 h7 hv _ _ _ _ _⟩
set_option maxRecDepth 100000 in
set_option maxHeartbeats 6400000 in
theorem ver_any (b : Nat) (A : Option Addr) (n c p : Nat) (l s : List UInt8) (kind : Int) (w : World) (hR : Rd w b A n c p) (hr : Row w A n l) (hc : n ≤ c) (hs : Pl l p s) :
    Calls Tryd.prog 47 #[.pointer (some ⟨b, 0, none⟩), .int .i64 kind] w (RgPost b A n c l w (verAt kind s)) := by
  have hm := hr.2.1
  unfold maxLen at hm
  have hbw := hR.lt
  have HP := Lib.hid hs
  have HL := Lib.hid hr.1
  have HRw := Lib.hid hR
  have HRow := Lib.hid hr
  have H7 : Hid (At7 (w.alloc (.cells #[.int .i64 0, .int .u64 0, .int .u64 0, .int .u64 0, .slice none 0 0, .slice none 0 0, .slice none 0 0] 29)) w.heap.size (.int .i64 0) (.int .u64 0) (.int .u64 0) (.int .u64 0) (.slice none 0 0) (.slice none 0 0) (.slice none 0 0)) := At7.new _ _ _ _ _ _ _ _ _
  have HR0 : Hid (Rd (w.alloc (.cells #[.int .i64 0, .int .u64 0, .int .u64 0, .int .u64 0, .slice none 0 0, .slice none 0 0, .slice none 0 0] 29)) b A n c p) := hR.alloc _
  have HM : Hid (Moved b w (w.alloc (.cells #[.int .i64 0, .int .u64 0, .int .u64 0, .int .u64 0, .slice none 0 0, .slice none 0 0, .slice none 0 0] 29))) := (Moved.refl b w).alloc hbw _
  have HRow0 : Hid (Row (w.alloc (.cells #[.int .i64 0, .int .u64 0, .int .u64 0, .int .u64 0, .slice none 0 0, .slice none 0 0, .slice none 0 0] 29)) A n l) := hr.kept ((Below.refl _ _).alloc (Nat.le_refl _) _)
  clear hR hr hs
  go_enter Tryd.func47, Tryd.ntmps47
  go_wp2_with fail
  refine (oneOf_any b A n c p l s digits _ HR0.out HRow0.out HP.out).mono ?_
  rintro e W0 ⟨rfl, hR1, hM1⟩
  replace HRow0 := Lib.hid (row_keep HRow0.out (HR0.out.keep hM1))
  replace H7 := Lib.hid (At7.moved H7.out hM1 (by omega))
  replace HM := Lib.hid (HM.out.trans hM1)
  replace HR0 := Lib.hid hR1
  have hz : w.heap.size < W0.heap.size := H7.out.1
  clear hR1 hM1
  cases hst : oneOf digits s with
  | false =>
    have HV : Hid (verAt kind s = (lackN s, s, noRng)) := by unfold Hid verAt; rw [hst]; rfl
    go_wp2_with fail
    refine (lack_any b A n c p l s _ HR0.out HRow0.out HP.out).mono ?_
    rintro e W1 ⟨rfl, hR1, hM1⟩
    have H71 := Lib.hid (At7.moved H7.out hM1 (by omega))
    have HMM := Lib.hid (HM.out.trans hM1)
    have HRR := Lib.hid hR1
    have hne := Nat.ne_of_gt hbw
    clear hR1 hM1
    obtain ⟨y1, y2, c0, c1, c2, c3, c4, c5, c6⟩ := H71.out
    go_wp2
    exact bodyPost_ret (v := .tuple #[.agg #[.int .i64 0, .int .u64 0, .int .u64 0, .int .u64 0, .slice none 0 0, .slice none 0 0, .slice none 0 0], .int .i64 (lackN s : Int)]) (by simp [results, Tryd.results47, go_sem, c0, c1, c2, c3, c4, c5, c6]) rfl (by rw [HV.out]; exact rg_end (x := zeroRV 0) hbw (Lies.zero _ _ 0) HP.out HRR.out HMM.out)
  | true =>
    have HPA : Hid (∀ W, Row W A n l → Calls Tryd.prog 56 #[.slice A n c, .int .i64 (p : Int)] W (VerPostF W ((vparse s 0).1, p + (vparse s 0).2.1, (vparse s 0).2.2))) := fun W hW => by
      have := Semver.parse_anyF A n c l (p : Int) W hW hc
      rw [vparse_at l s p HP.out] at this
      exact this
    have HQ := Lib.hid (vparse_end s 0)
    have HV : Hid (verAt kind s = if (vparse s 0).1 ≠ 0 then ((vparse s 0).1, s.drop (vparse s 0).2.1, noRng) else (0, blanks (s.drop (vparse s 0).2.1), .mk kind (vparse s 0).2.2 [])) := by
      unfold Hid verAt; rw [if_pos hst]
    have HG : Hid (∀ q v, vparse s 0 = (0, q, v) → FitV v) := fun q v h => fit_good (vparse_read h).1
    obtain ⟨⟨f, q, v⟩, hk⟩ : ∃ t, vparse s 0 = t := ⟨_, rfl⟩
    rw [hk] at HPA HV HQ HG
    simp only at HPA HV HQ
    clear hk
    go_upto_region 3 with (fail)
    go_cut [6, 7, 8] (fun v6 v7 v8 wx => ∃ bv A1 c1 B1 d1, v6 = .pointer (some ⟨bv, 0, none⟩) ∧ v7 = .int .i64 ((p + q : Nat) : Int) ∧ v8 = .int .i64 (f : Int) ∧ w.heap.size < bv ∧ v.pre.length ≤ c1 ∧ v.build.length ≤ d1 ∧ At5 wx bv (.int .u64 (v.a : Int)) (.int .u64 (v.b : Int)) (.int .u64 (v.c : Int)) (.slice A1 v.pre.length c1) (.slice B1 v.build.length d1) ∧ Rd wx b A n c p ∧ Moved b w wx ∧ SRow wx A1 v.pre.length v.pre ∧ SRow wx B1 v.build.length v.build ∧ At7 wx w.heap.size (.int .i64 0) (.int .u64 0) (.int .u64 0) (.int .u64 0) (.slice none 0 0) (.slice none 0 0) (.slice none 0 0) ∧ Fresh (w.heap.size + 1) A1 v.pre.length ∧ Fresh (w.heap.size + 1) B1 v.build.length)
    case first =>
      have H0 : Hid (Rd W0.drew b A n c p) := HR0.out.drew
      have HW0 : Hid (Row W0.drew A n l) := HRow0.out
      have HM0 : Hid (Moved b w W0.drew) := HM.out.drew
      have H70 : Hid (At7 W0.drew w.heap.size (.int .i64 0) (.int .u64 0) (.int .u64 0) (.int .u64 0) (.slice none 0 0) (.slice none 0 0) (.slice none 0 0)) := H7.out
      have hz0 : w.heap.size < W0.drew.heap.size := hz
      refine wp_region_held_drew (S := fun w' => w'.cell? ⟨b, 0, none⟩ = some (.slice A n c) ∧ w'.cell? ⟨b, 1, none⟩ = some (.int .i64 (p : Int))) (by kernel_rfl) ⟨H0.out.row, H0.out.at_⟩ (fun hHeld => ?_)
      refine wpAnyH_take (i := 0) (oi := { dst := some 16, op := Op.move (Operand.tmp 0), type := 74, pos := "rangeexpr.go:193", after := #[], guard := none }) (v := .pointer (some ⟨b, 0, none⟩)) rfl (by kernel_rfl) (by kernel_rfl) (by kernel_rfl) (fun _ _ _ h => h) (Or.inl ⟨by rfl, fun w' hS' => by go_simp⟩) (by assumption) ?_
      simp only [Act.put, List.setIfInBounds_toArray, List.set_cons_zero, List.set_cons_succ]
      refine wpAnyH_take (i := 1) (oi := { dst := some 17, op := Op.nilCheck (Operand.tmp 16), type := 0, pos := "rangeexpr.go:193", after := #[{ on := 0, ground := Ground.data }], guard := none }) (v := .pointer (some ⟨b, 0, none⟩)) rfl (by kernel_rfl) (by kernel_rfl) (by kernel_rfl) (fun _ _ _ h => h) (Or.inl ⟨by rfl, fun w' hS' => by go_simp⟩) (by assumption) ?_
      simp only [Act.put, List.setIfInBounds_toArray, List.set_cons_zero, List.set_cons_succ]
      refine wpAnyH_take (i := 2) (oi := { dst := some 18, op := Op.fieldAddr 61 (Operand.tmp 17) 0, type := 0, pos := "rangeexpr.go:193", after := #[{ on := 1, ground := Ground.data }], guard := none }) (v := .pointer (some ⟨b, 0, none⟩)) rfl (by kernel_rfl) (by kernel_rfl) (by kernel_rfl) (fun _ _ _ h => h) (Or.inl ⟨by rfl, fun w' hS' => by go_simp⟩) (by assumption) ?_
      simp only [Act.put, List.setIfInBounds_toArray, List.set_cons_zero, List.set_cons_succ]
      refine wpAnyH_take (i := 3) (oi := { dst := some 19, op := Op.load 39 (Operand.tmp 18), type := 39, pos := "rangeexpr.go:193", after := #[{ on := 2, ground := Ground.data }], guard := none }) (v := .slice A n c) rfl (by kernel_rfl) (by kernel_rfl) (by kernel_rfl) (fun _ _ _ h => h) (Or.inl ⟨by rfl, fun w' hS' => by have x := hS'.1; go_simp⟩) (by assumption) ?_
      simp only [Act.put, List.setIfInBounds_toArray, List.set_cons_zero, List.set_cons_succ]
      refine wpAnyH_take (i := 4) (oi := { dst := some 20, op := Op.move (Operand.tmp 0), type := 74, pos := "rangeexpr.go:193", after := #[], guard := none }) (v := .pointer (some ⟨b, 0, none⟩)) rfl (by kernel_rfl) (by kernel_rfl) (by kernel_rfl) (fun _ _ _ h => h) (Or.inl ⟨by rfl, fun w' hS' => by go_simp⟩) (by assumption) ?_
      simp only [Act.put, List.setIfInBounds_toArray, List.set_cons_zero, List.set_cons_succ]
      refine wpAnyH_take (i := 5) (oi := { dst := some 21, op := Op.nilCheck (Operand.tmp 20), type := 0, pos := "rangeexpr.go:193", after := #[{ on := 4, ground := Ground.data }], guard := none }) (v := .pointer (some ⟨b, 0, none⟩)) rfl (by kernel_rfl) (by kernel_rfl) (by kernel_rfl) (fun _ _ _ h => h) (Or.inl ⟨by rfl, fun w' hS' => by go_simp⟩) (by assumption) ?_
      simp only [Act.put, List.setIfInBounds_toArray, List.set_cons_zero, List.set_cons_succ]
      refine wpAnyH_take (i := 6) (oi := { dst := some 22, op := Op.fieldAddr 61 (Operand.tmp 21) 1, type := 0, pos := "rangeexpr.go:193", after := #[{ on := 5, ground := Ground.data }], guard := none }) (v := .pointer (some ⟨b, 1, none⟩)) rfl (by kernel_rfl) (by kernel_rfl) (by kernel_rfl) (fun _ _ _ h => h) (Or.inl ⟨by rfl, fun w' hS' => by go_simp⟩) (by assumption) ?_
      simp only [Act.put, List.setIfInBounds_toArray, List.set_cons_zero, List.set_cons_succ]
      refine wpAnyH_take (i := 7) (oi := { dst := some 23, op := Op.load 3 (Operand.tmp 22), type := 3, pos := "rangeexpr.go:193", after := #[{ on := 6, ground := Ground.data }], guard := none }) (v := .int .i64 (p : Int)) rfl (by kernel_rfl) (by kernel_rfl) (by kernel_rfl) (fun _ _ _ h => h) (Or.inl ⟨by rfl, fun w' hS' => by have x := hS'.2; go_simp⟩) (by assumption) ?_
      simp only [Act.put, List.setIfInBounds_toArray, List.set_cons_zero, List.set_cons_succ]
      refine wpAnyH_ready (rs := [8, 13]) (by kernel_rfl) (by simp) ?_
      refine AllReadyH.cons (o := { dst := some 24, op := Op.call { callee := Callee.value (Operand.func 56), args := #[Operand.tmp 19, Operand.tmp 23], argTypes := #[39, 3] }, type := 94, pos := "rangeexpr.go:193", after := #[{ on := 3, ground := Ground.data }, { on := 7, ground := Ground.data }], guard := none }) rfl (fun K hK => ?_) (AllReadyH.cons (o := { dst := some 6, op := Op.alloc 26, type := 0, pos := "rangeexpr.go:193", after := #[], guard := none }) rfl (fun K hK => ?_) AllReadyH.nil)
      · go_simp
        refine (HPA.out _ HW0.out).mono ?_
        rintro e W1 ⟨A1, c1, B1, d1, rfl, hc1, hd1, hr1, hr2, hb1, hf1, hf2⟩
        simp only at hc1 hd1 hr1 hr2 hf1 hf2 ⊢
        have HR1 : Hid (Rd W1 b A n c p) := H0.out.kept hb1 H0.out.lt
        have HM1 : Hid (Moved b w W1) := HM0.out.below hb1 HM0.out.size hbw
        have HA1 := Lib.hid hr1
        have HB1 := Lib.hid hr2
        have H71 := Lib.hid (H70.out.kept hb1 hz0)
        have hz1 : w.heap.size < W1.heap.size := Nat.lt_of_lt_of_le hz0 hb1.size
        have HF1 : Hid (Fresh (w.heap.size + 1) A1 v.pre.length) := hf1.mono hz0
        have HF2 : Hid (Fresh (w.heap.size + 1) B1 v.build.length) := hf2.mono hz0
        clear hr1 hr2 hb1 hf1 hf2
        clear hHeld
        refine hK.out _ _ ⟨HR1.out.row, HR1.out.at_⟩ (fun hHeld => ?_)
        clear hK K
        try simp only [Act.put, List.setIfInBounds_toArray, List.set_cons_zero, List.set_cons_succ]
        refine wpAnyH_take (i := 9) (oi := { dst := some 15, op := Op.move (Operand.tmp 24), type := 94, pos := "rangeexpr.go:193", after := #[{ on := 8, ground := Ground.data }], guard := none }) (v := .tuple #[.agg #[.int .u64 (v.a : Int), .int .u64 (v.b : Int), .int .u64 (v.c : Int), .slice A1 v.pre.length c1, .slice B1 v.build.length d1], .int .i64 ((p + q : Nat) : Int), .int .i64 (f : Int)]) rfl (by kernel_rfl) (by kernel_rfl) (by kernel_rfl) (fun _ _ _ h => h) (Or.inl ⟨by rfl, fun w' hS' => by go_simp⟩) (by assumption) ?_
        simp only [Act.put, List.setIfInBounds_toArray, List.set_cons_zero, List.set_cons_succ]
        refine wpAnyH_take (i := 10) (oi := { dst := some 25, op := Op.extract (Operand.tmp 15) 0, type := 26, pos := "rangeexpr.go:193", after := #[{ on := 9, ground := Ground.data }], guard := none }) (v := .agg #[.int .u64 (v.a : Int), .int .u64 (v.b : Int), .int .u64 (v.c : Int), .slice A1 v.pre.length c1, .slice B1 v.build.length d1]) rfl (by kernel_rfl) (by kernel_rfl) (by kernel_rfl) (fun _ _ _ h => h) (Or.inl ⟨by rfl, fun w' hS' => by go_simp⟩) (by assumption) ?_
        simp only [Act.put, List.setIfInBounds_toArray, List.set_cons_zero, List.set_cons_succ]
        refine wpAnyH_take (i := 11) (oi := { dst := some 26, op := Op.extract (Operand.tmp 15) 1, type := 3, pos := "rangeexpr.go:193", after := #[{ on := 9, ground := Ground.data }, { on := 14, ground := Ground.gcOnly Departure.lateStores }], guard := none }) (v := .int .i64 ((p + q : Nat) : Int)) rfl (by kernel_rfl) (by kernel_rfl) (by kernel_rfl) (fun _ _ _ h => h) (Or.inl ⟨by rfl, fun w' hS' => by go_simp⟩) (by assumption) ?_
        simp only [Act.put, List.setIfInBounds_toArray, List.set_cons_zero, List.set_cons_succ]
        refine wpAnyH_take (i := 12) (oi := { dst := some 27, op := Op.extract (Operand.tmp 15) 2, type := 30, pos := "rangeexpr.go:193", after := #[{ on := 9, ground := Ground.data }, { on := 15, ground := Ground.gcOnly Departure.lateStores }], guard := none }) (v := .int .i64 (f : Int)) rfl (by kernel_rfl) (by kernel_rfl) (by kernel_rfl) (fun _ _ _ h => h) (Or.inl ⟨by rfl, fun w' hS' => by go_simp⟩) (by assumption) ?_
        simp only [Act.put, List.setIfInBounds_toArray, List.set_cons_zero, List.set_cons_succ]
        refine wpAnyH_ready (rs := [13]) (by kernel_rfl) (by simp) ?_
        refine AllReadyH.cons (o := { dst := some 6, op := Op.alloc 26, type := 0, pos := "rangeexpr.go:193", after := #[], guard := none }) rfl (fun K hK => ?_) AllReadyH.nil
        go_simp
        have H5 : Hid (At5 (W1.alloc (.cells #[.int .u64 (v.a : Int), .int .u64 (v.b : Int), .int .u64 (v.c : Int), .slice A1 v.pre.length c1, .slice B1 v.build.length d1] 26)) W1.heap.size (.int .u64 (v.a : Int)) (.int .u64 (v.b : Int)) (.int .u64 (v.c : Int)) (.slice A1 v.pre.length c1) (.slice B1 v.build.length d1)) := At5.new _ _ _ _ _ _ _
        have HV2 : Hid (w.heap.size < W1.heap.size) := hz1
        clear hHeld
        refine hK.out _ _ ⟨(HR1.out.alloc (.cells #[.int .u64 0, .int .u64 0, .int .u64 0, .slice none 0 0, .slice none 0 0] 26)).row, (HR1.out.alloc (.cells #[.int .u64 0, .int .u64 0, .int .u64 0, .slice none 0 0, .slice none 0 0] 26)).at_⟩ (fun hHeld => ?_)
        clear hK K
        try simp only [Act.put, List.setIfInBounds_toArray, List.set_cons_zero, List.set_cons_succ]
        refine wpAnyH_ready (rs := [14]) (by kernel_rfl) (by simp) ?_
        refine AllReadyH.cons (o := { dst := none, op := Op.store 26 (Operand.tmp 6) (Operand.tmp 25), type := 0, pos := "rangeexpr.go:193", after := #[{ on := 13, ground := Ground.data }, { on := 10, ground := Ground.data }, { on := 8, ground := Ground.chain }, { on := 0, ground := Ground.phase }, { on := 1, ground := Ground.phase }, { on := 2, ground := Ground.phase }, { on := 3, ground := Ground.phase }, { on := 4, ground := Ground.phase }, { on := 5, ground := Ground.phase }, { on := 6, ground := Ground.phase }, { on := 7, ground := Ground.phase }, { on := 8, ground := Ground.phase }, { on := 9, ground := Ground.phase }, { on := 10, ground := Ground.phase }, { on := 11, ground := Ground.textOnly Departure.lateStores }, { on := 12, ground := Ground.textOnly Departure.lateStores }, { on := 13, ground := Ground.phase }], guard := none }) rfl (fun K hK => ?_) AllReadyH.nil
        go_simp
        have HR2 : Hid (Rd (W1.alloc (.cells #[.int .u64 (v.a : Int), .int .u64 (v.b : Int), .int .u64 (v.c : Int), .slice A1 v.pre.length c1, .slice B1 v.build.length d1] 26)) b A n c p) := HR1.out.alloc _
        have HM2 : Hid (Moved b w (W1.alloc (.cells #[.int .u64 (v.a : Int), .int .u64 (v.b : Int), .int .u64 (v.c : Int), .slice A1 v.pre.length c1, .slice B1 v.build.length d1] 26))) := HM1.out.alloc hbw _
        have HA2 := Lib.hid (HA1.out.kept ((Below.refl W1.heap.size W1).alloc (Nat.le_refl _) (.cells #[.int .u64 (v.a : Int), .int .u64 (v.b : Int), .int .u64 (v.c : Int), .slice A1 v.pre.length c1, .slice B1 v.build.length d1] 26)))
        have HB2 := Lib.hid (HB1.out.kept ((Below.refl W1.heap.size W1).alloc (Nat.le_refl _) (.cells #[.int .u64 (v.a : Int), .int .u64 (v.b : Int), .int .u64 (v.c : Int), .slice A1 v.pre.length c1, .slice B1 v.build.length d1] 26)))
        have H72 := Lib.hid (H71.out.kept ((Below.refl W1.heap.size W1).alloc (Nat.le_refl _) (.cells #[.int .u64 (v.a : Int), .int .u64 (v.b : Int), .int .u64 (v.c : Int), .slice A1 v.pre.length c1, .slice B1 v.build.length d1] 26)) hz1)
        clear hHeld
        refine hK.out _ _ ⟨HR2.out.row, HR2.out.at_⟩ (fun hHeld => ?_)
        clear hK K
        try simp only [Act.put, List.setIfInBounds_toArray, List.set_cons_zero, List.set_cons_succ]
        refine wpAnyH_take (i := 15) (oi := { dst := some 7, op := Op.assign (Operand.tmp 26), type := 3, pos := "rangeexpr.go:193", after := #[{ on := 11, ground := Ground.data }, { on := 14, ground := Ground.chain }, { on := 0, ground := Ground.phase }, { on := 1, ground := Ground.phase }, { on := 2, ground := Ground.phase }, { on := 3, ground := Ground.phase }, { on := 4, ground := Ground.phase }, { on := 5, ground := Ground.phase }, { on := 6, ground := Ground.phase }, { on := 7, ground := Ground.phase }, { on := 8, ground := Ground.phase }, { on := 9, ground := Ground.phase }, { on := 10, ground := Ground.phase }, { on := 11, ground := Ground.phase }, { on := 12, ground := Ground.textOnly Departure.lateStores }, { on := 13, ground := Ground.phase }, { on := 14, ground := Ground.phase }], guard := none }) (v := .int .i64 ((p + q : Nat) : Int)) rfl (by kernel_rfl) (by kernel_rfl) (by kernel_rfl) (fun _ _ _ h => h) (Or.inl ⟨by rfl, fun w' hS' => by go_simp⟩) (by assumption) ?_
        simp only [Act.put, List.setIfInBounds_toArray, List.set_cons_zero, List.set_cons_succ]
        refine wpAnyH_take (i := 16) (oi := { dst := some 8, op := Op.assign (Operand.tmp 27), type := 30, pos := "rangeexpr.go:193", after := #[{ on := 12, ground := Ground.data }, { on := 15, ground := Ground.chain }, { on := 0, ground := Ground.phase }, { on := 1, ground := Ground.phase }, { on := 2, ground := Ground.phase }, { on := 3, ground := Ground.phase }, { on := 4, ground := Ground.phase }, { on := 5, ground := Ground.phase }, { on := 6, ground := Ground.phase }, { on := 7, ground := Ground.phase }, { on := 8, ground := Ground.phase }, { on := 9, ground := Ground.phase }, { on := 10, ground := Ground.phase }, { on := 11, ground := Ground.phase }, { on := 12, ground := Ground.phase }, { on := 13, ground := Ground.phase }, { on := 14, ground := Ground.phase }, { on := 15, ground := Ground.phase }], guard := none }) (v := .int .i64 (f : Int)) rfl (by kernel_rfl) (by kernel_rfl) (by kernel_rfl) (fun _ _ _ h => h) (Or.inl ⟨by rfl, fun w' hS' => by go_simp⟩) (by assumption) ?_
        simp only [Act.put, List.setIfInBounds_toArray, List.set_cons_zero, List.set_cons_succ]
        refine wpAnyH_done (by kernel_rfl) ?_ _
        go_wp2
        go_meet
        exact ⟨_, A1, c1, B1, d1, rfl, rfl, rfl, HV2.out, hc1, hd1, H5.out, HR2.out, HM2.out, HA2.out, HB2.out, H72.out, HF1.out, HF2.out⟩
      · go_simp
        have H5a : Hid (At5 ((W0.alloc (.cells #[.int .u64 0, .int .u64 0, .int .u64 0, .slice none 0 0, .slice none 0 0] 26)).drew) W0.heap.size (.int .u64 0) (.int .u64 0) (.int .u64 0) (.slice none 0 0) (.slice none 0 0)) := (At5.new W0 26 (.int .u64 0) (.int .u64 0) (.int .u64 0) (.slice none 0 0) (.slice none 0 0))
        have HV2 : Hid (w.heap.size < W0.heap.size) := hz
        have HRa : Hid (Rd ((W0.alloc (.cells #[.int .u64 0, .int .u64 0, .int .u64 0, .slice none 0 0, .slice none 0 0] 26)).drew) b A n c p) := (HR0.out.alloc _).drew
        have HMa : Hid (Moved b w ((W0.alloc (.cells #[.int .u64 0, .int .u64 0, .int .u64 0, .slice none 0 0, .slice none 0 0] 26)).drew)) := (HM.out.alloc hbw _).drew
        have HWa : Hid (Row ((W0.alloc (.cells #[.int .u64 0, .int .u64 0, .int .u64 0, .slice none 0 0, .slice none 0 0] 26)).drew) A n l) := row_keep (HRow0.out.kept ((Below.refl _ _).alloc (Nat.le_refl _) _)) (Keep.drew _)
        have H7a : Hid (At7 ((W0.alloc (.cells #[.int .u64 0, .int .u64 0, .int .u64 0, .slice none 0 0, .slice none 0 0] 26)).drew) w.heap.size (.int .i64 0) (.int .u64 0) (.int .u64 0) (.int .u64 0) (.slice none 0 0) (.slice none 0 0) (.slice none 0 0)) := H7.out.kept ((Below.refl W0.heap.size W0).alloc (Nat.le_refl _) (.cells #[.int .u64 0, .int .u64 0, .int .u64 0, .slice none 0 0, .slice none 0 0] 26)).drew hz
        have hza : W0.heap.size < ((W0.alloc (.cells #[.int .u64 0, .int .u64 0, .int .u64 0, .slice none 0 0, .slice none 0 0] 26)).drew).heap.size := by show _ < (W0.heap.push _).size; simp
        clear hHeld
        refine hK.out _ _ ⟨HRa.out.row, HRa.out.at_⟩ (fun hHeld => ?_)
        clear hK K
        try simp only [Act.put, List.setIfInBounds_toArray, List.set_cons_zero, List.set_cons_succ]
        refine wpAnyH_ready (rs := [8]) (by kernel_rfl) (by simp) ?_
        refine AllReadyH.cons (o := { dst := some 24, op := Op.call { callee := Callee.value (Operand.func 56), args := #[Operand.tmp 19, Operand.tmp 23], argTypes := #[39, 3] }, type := 94, pos := "rangeexpr.go:193", after := #[{ on := 3, ground := Ground.data }, { on := 7, ground := Ground.data }], guard := none }) rfl (fun K hK => ?_) AllReadyH.nil
        go_simp
        refine (HPA.out _ HWa.out).mono ?_
        rintro e W1 ⟨A1, c1, B1, d1, rfl, hc1, hd1, hr1, hr2, hb1, hf1, hf2⟩
        simp only at hc1 hd1 hr1 hr2 hf1 hf2 ⊢
        have HR2 : Hid (Rd W1 b A n c p) := HRa.out.kept hb1 HRa.out.lt
        have HM2 : Hid (Moved b w W1) := HMa.out.below hb1 HMa.out.size hbw
        have HA2 := Lib.hid hr1
        have HB2 := Lib.hid hr2
        have H72 := Lib.hid (H7a.out.kept hb1 (Nat.lt_trans HV2.out hza))
        have H5 := Lib.hid (H5a.out.kept hb1 hza)
        have HF1 : Hid (Fresh (w.heap.size + 1) A1 v.pre.length) := hf1.mono (Nat.le_trans HV2.out (Nat.le_of_lt hza))
        have HF2 : Hid (Fresh (w.heap.size + 1) B1 v.build.length) := hf2.mono (Nat.le_trans HV2.out (Nat.le_of_lt hza))
        clear hr1 hr2 hb1 hf1 hf2
        clear hHeld
        refine hK.out _ _ ⟨HR2.out.row, HR2.out.at_⟩ (fun hHeld => ?_)
        clear hK K
        try simp only [Act.put, List.setIfInBounds_toArray, List.set_cons_zero, List.set_cons_succ]
        refine wpAnyH_take (i := 9) (oi := { dst := some 15, op := Op.move (Operand.tmp 24), type := 94, pos := "rangeexpr.go:193", after := #[{ on := 8, ground := Ground.data }], guard := none }) (v := .tuple #[.agg #[.int .u64 (v.a : Int), .int .u64 (v.b : Int), .int .u64 (v.c : Int), .slice A1 v.pre.length c1, .slice B1 v.build.length d1], .int .i64 ((p + q : Nat) : Int), .int .i64 (f : Int)]) rfl (by kernel_rfl) (by kernel_rfl) (by kernel_rfl) (fun _ _ _ h => h) (Or.inl ⟨by rfl, fun w' hS' => by go_simp⟩) (by assumption) ?_
        simp only [Act.put, List.setIfInBounds_toArray, List.set_cons_zero, List.set_cons_succ]
        refine wpAnyH_take (i := 10) (oi := { dst := some 25, op := Op.extract (Operand.tmp 15) 0, type := 26, pos := "rangeexpr.go:193", after := #[{ on := 9, ground := Ground.data }], guard := none }) (v := .agg #[.int .u64 (v.a : Int), .int .u64 (v.b : Int), .int .u64 (v.c : Int), .slice A1 v.pre.length c1, .slice B1 v.build.length d1]) rfl (by kernel_rfl) (by kernel_rfl) (by kernel_rfl) (fun _ _ _ h => h) (Or.inl ⟨by rfl, fun w' hS' => by go_simp⟩) (by assumption) ?_
        simp only [Act.put, List.setIfInBounds_toArray, List.set_cons_zero, List.set_cons_succ]
        refine wpAnyH_take (i := 11) (oi := { dst := some 26, op := Op.extract (Operand.tmp 15) 1, type := 3, pos := "rangeexpr.go:193", after := #[{ on := 9, ground := Ground.data }, { on := 14, ground := Ground.gcOnly Departure.lateStores }], guard := none }) (v := .int .i64 ((p + q : Nat) : Int)) rfl (by kernel_rfl) (by kernel_rfl) (by kernel_rfl) (fun _ _ _ h => h) (Or.inl ⟨by rfl, fun w' hS' => by go_simp⟩) (by assumption) ?_
        simp only [Act.put, List.setIfInBounds_toArray, List.set_cons_zero, List.set_cons_succ]
        refine wpAnyH_take (i := 12) (oi := { dst := some 27, op := Op.extract (Operand.tmp 15) 2, type := 30, pos := "rangeexpr.go:193", after := #[{ on := 9, ground := Ground.data }, { on := 15, ground := Ground.gcOnly Departure.lateStores }], guard := none }) (v := .int .i64 (f : Int)) rfl (by kernel_rfl) (by kernel_rfl) (by kernel_rfl) (fun _ _ _ h => h) (Or.inl ⟨by rfl, fun w' hS' => by go_simp⟩) (by assumption) ?_
        simp only [Act.put, List.setIfInBounds_toArray, List.set_cons_zero, List.set_cons_succ]
        obtain ⟨hvl, hvf, g0, g1, g2, g3, g4⟩ := H5.out
        refine wpAnyH_ready (rs := [14]) (by kernel_rfl) (by simp) ?_
        refine AllReadyH.cons (o := { dst := none, op := Op.store 26 (Operand.tmp 6) (Operand.tmp 25), type := 0, pos := "rangeexpr.go:193", after := #[{ on := 13, ground := Ground.data }, { on := 10, ground := Ground.data }, { on := 8, ground := Ground.chain }, { on := 0, ground := Ground.phase }, { on := 1, ground := Ground.phase }, { on := 2, ground := Ground.phase }, { on := 3, ground := Ground.phase }, { on := 4, ground := Ground.phase }, { on := 5, ground := Ground.phase }, { on := 6, ground := Ground.phase }, { on := 7, ground := Ground.phase }, { on := 8, ground := Ground.phase }, { on := 9, ground := Ground.phase }, { on := 10, ground := Ground.phase }, { on := 11, ground := Ground.textOnly Departure.lateStores }, { on := 12, ground := Ground.textOnly Departure.lateStores }, { on := 13, ground := Ground.phase }], guard := none }) rfl (fun K hK => ?_) AllReadyH.nil
        go_simp
        obtain ⟨k1, k2, k3, k4, k5, k6⟩ := ver_block hbw (v := v) (c1 := c1) (d1 := d1) HR2.out HM2.out HA2.out HB2.out H5.out HV2.out H72.out
        have HK5 := Lib.hid k1
        have HKR := Lib.hid k2
        have HKM := Lib.hid k3
        have HKA := Lib.hid k4
        have HKB := Lib.hid k5
        have HK7 := Lib.hid k6
        clear k1 k2 k3 k4 k5 k6
        clear hHeld
        refine hK.out _ _ ⟨HKR.out.row, HKR.out.at_⟩ (fun hHeld => ?_)
        clear hK K
        try simp only [Act.put, List.setIfInBounds_toArray, List.set_cons_zero, List.set_cons_succ]
        refine wpAnyH_take (i := 15) (oi := { dst := some 7, op := Op.assign (Operand.tmp 26), type := 3, pos := "rangeexpr.go:193", after := #[{ on := 11, ground := Ground.data }, { on := 14, ground := Ground.chain }, { on := 0, ground := Ground.phase }, { on := 1, ground := Ground.phase }, { on := 2, ground := Ground.phase }, { on := 3, ground := Ground.phase }, { on := 4, ground := Ground.phase }, { on := 5, ground := Ground.phase }, { on := 6, ground := Ground.phase }, { on := 7, ground := Ground.phase }, { on := 8, ground := Ground.phase }, { on := 9, ground := Ground.phase }, { on := 10, ground := Ground.phase }, { on := 11, ground := Ground.phase }, { on := 12, ground := Ground.textOnly Departure.lateStores }, { on := 13, ground := Ground.phase }, { on := 14, ground := Ground.phase }], guard := none }) (v := .int .i64 ((p + q : Nat) : Int)) rfl (by kernel_rfl) (by kernel_rfl) (by kernel_rfl) (fun _ _ _ h => h) (Or.inl ⟨by rfl, fun w' hS' => by go_simp⟩) (by assumption) ?_
        simp only [Act.put, List.setIfInBounds_toArray, List.set_cons_zero, List.set_cons_succ]
        refine wpAnyH_take (i := 16) (oi := { dst := some 8, op := Op.assign (Operand.tmp 27), type := 30, pos := "rangeexpr.go:193", after := #[{ on := 12, ground := Ground.data }, { on := 15, ground := Ground.chain }, { on := 0, ground := Ground.phase }, { on := 1, ground := Ground.phase }, { on := 2, ground := Ground.phase }, { on := 3, ground := Ground.phase }, { on := 4, ground := Ground.phase }, { on := 5, ground := Ground.phase }, { on := 6, ground := Ground.phase }, { on := 7, ground := Ground.phase }, { on := 8, ground := Ground.phase }, { on := 9, ground := Ground.phase }, { on := 10, ground := Ground.phase }, { on := 11, ground := Ground.phase }, { on := 12, ground := Ground.phase }, { on := 13, ground := Ground.phase }, { on := 14, ground := Ground.phase }, { on := 15, ground := Ground.phase }], guard := none }) (v := .int .i64 (f : Int)) rfl (by kernel_rfl) (by kernel_rfl) (by kernel_rfl) (fun _ _ _ h => h) (Or.inl ⟨by rfl, fun w' hS' => by go_simp⟩) (by assumption) ?_
        simp only [Act.put, List.setIfInBounds_toArray, List.set_cons_zero, List.set_cons_succ]
        refine wpAnyH_done (by kernel_rfl) ?_ _
        go_wp2
        go_meet
        exact ⟨_, A1, c1, B1, d1, rfl, rfl, rfl, HV2.out, hc1, hd1, HK5.out, HKR.out, HKM.out, HKA.out, HKB.out, HK7.out, HF1.out, HF2.out⟩
    case rest =>
      obtain ⟨bv, A1, c1, B1, d1, rfl, rfl, rfl, hbv, hc1, hd1, h5, hR2, hM2, hA2, hB2, h72, hf1, hf2⟩ := hcut
      have HF1 : Hid (InS (From (w.heap.size + 1)) A1 v.pre.length) := hf1
      have HF2 : Hid (InS (From (w.heap.size + 1)) B1 v.build.length) := hf2
      clear hf1 hf2
      have HA2 := Lib.hid hA2
      have HB2 := Lib.hid hB2
      have H52 := Lib.hid h5
      have H72 := Lib.hid h72
      have HR2 := Lib.hid hR2
      have HM2 := Lib.hid hM2
      clear hA2 hB2 h5 h72 hR2 hM2
      have HPQ : Hid (Pl l (p + q) (s.drop q)) := HP.out.drop (by have := HP.out.len; have h2 := HP.out.le; have h3 := HQ.out; omega)
      have hpq : p + q ≤ n := by have := HPQ.out.le; rw [HL.out] at this; exact this
      have hne : w.heap.size ≠ b := by omega
      obtain ⟨r1, r2, r3, r4, _⟩ := HR2.out
      obtain ⟨y1, y2, c0, c1', c2, c3, c4, c5, c6⟩ := H72.out
      by_cases h0 : f = 0
      · subst h0
        have HV2 : Hid (verAt kind s = (0, blanks (s.drop q), .mk kind v [])) := HV.out.trans (if_neg (by simp))
        have HG2 : Hid (FitV v) := HG.out q v rfl
        clear HV HG
        have HR3 : Hid (Rd (wc.setCell ⟨b, 1, none⟩ (.int .i64 ((p : Int) + (q : Int)))) b A n c (p + q)) := HR2.out.move (p + q)
        have HM3 : Hid (Moved b w (wc.setCell ⟨b, 1, none⟩ (.int .i64 ((p : Int) + (q : Int))))) := HM2.out.move _
        have HK3 : Hid (KeepS (From (w.heap.size + 1)) wc (wc.setCell ⟨b, 1, none⟩ (.int .i64 ((p : Int) + (q : Int))))) := KeepS.moved (Moved.at_ _) (fun h => by unfold From at h; omega)
        have HRow3 : Hid (Row (wc.setCell ⟨b, 1, none⟩ (.int .i64 ((p : Int) + (q : Int)))) A n l) := row_keep HRow.out (HRw.out.keep HM3.out)
        go_wp2_with fail
        refine (pass_any b A n c (p + q) 0 l (s.drop q) _ HR3.out HRow3.out HPQ.out hpq).mono ?_
        rintro e W4 ⟨rfl, q4, hq4, hR4, hM4⟩
        rw [List.drop_zero] at hq4
        have HP4 := Lib.hid hq4
        have HM4 := Lib.hid (HM3.out.trans hM4)
        have HK4 := Lib.hid (HK3.out.trans (KeepS.moved hM4 (fun h => by unfold From at h; omega)))
        have HR4 := Lib.hid hR4
        have HA4 := Lib.hid (srow_keepS HA2.out HK4.out HF1.out)
        have HB4 := Lib.hid (srow_keepS HB2.out HK4.out HF2.out)
        have H54 := Lib.hid (At5.moved (At5.moved H52.out (Moved.at_ (.int .i64 ((p : Int) + (q : Int)))) (by omega)) hM4 (by omega))
        have H74 : Hid (RAt W4 w.heap.size (zeroRV 0)) := RAt.moved (RAt.moved (x := zeroRV 0) H72.out (Moved.at_ (.int .i64 ((p : Int) + (q : Int)))) hne) hM4 hne
        clear hq4 hR4 hM4 HR3 HM3 HK3 HRow3 HR2 HM2 HA2 HB2 H52 H72 r1 r2 r3 r4 y1 y2 c0 c1' c2 c3 c4 c5 c6
        obtain ⟨y1, y2, c0, c1', c2, c3, c4, c5, c6⟩ := H74.out
        obtain ⟨_, _, g0, g1, g2, g3, g4⟩ := H54.out
        have hbe := Nat.ne_of_gt hbv
        go_wp2
        exact bodyPost_ret (v := .tuple #[.agg #[.int .i64 kind, .int .u64 (v.a : Int), .int .u64 (v.b : Int), .int .u64 (v.c : Int), .slice A1 v.pre.length c1, .slice B1 v.build.length d1, .slice none 0 0], .int .i64 0]) (by simp [results, Tryd.results47, go_sem, c0, c1', c2, c3, c4, c5, c6]) rfl (by rw [HV2.out]; exact rg_end (x := ⟨kind, v, A1, c1, B1, d1, none, 0, 0⟩) hbw (Lies.version kind v A1 c1 B1 d1 HA4.out HB4.out HF1.out HF2.out hc1 hd1 HG2.out) HP4.out HR4.out HM4.out)
      · have hb1 : ((f : Int) != 0) = true := by simp [h0]
        have hb2 : ((f : Int) == 0) = false := by simp [h0]
        have HV2 : Hid (verAt kind s = (f, s.drop q, noRng)) := HV.out.trans (if_pos h0)
        clear h0
        go_wp2
        exact bodyPost_ret (v := .tuple #[.agg #[.int .i64 0, .int .u64 0, .int .u64 0, .int .u64 0, .slice none 0 0, .slice none 0 0, .slice none 0 0], .int .i64 (f : Int)]) (by simp [results, Tryd.results47, go_sem, c0, c1', c2, c3, c4, c5, c6]) rfl (by rw [HV2.out]; exact rg_end (x := zeroRV 0) hbw (Lies.zero _ _ 0) HPQ.out (HR2.out.move (p + q)) (HM2.out.move _))
end Go.Proofs.YtolkcblkciafiaaDoor.Range
