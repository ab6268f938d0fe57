/-
  What the theorem of the last text needs of these: NmRise, NmRanked. Conditions: as each theorem states.
-/
import Derived.Test.YtgfbflnhjpbceaaGreatDoorAgaB1
import Derived.Test.YtgfbflnhjpbceaaGreatDoorAgaB16
import Derived.Test.YtgfbflnhjpbceaaGreatDoorAgaB22
import Derived.Test.YtgfbflnhjpbceaaGreatDoorAgaB28
import Derived.WalkLawsBesides
import Derived.Laws.MakeOwn
import Derived.Laws.Entries
set_option maxRecDepth 100000
set_option maxHeartbeats 25600000
namespace Go.Proofs.YtgfbflnhjpbceaaGreatDoor.Nrm
open Go.RowKit Num Ident Semver Prec Span
def fb (k : Nat) : Nat := floatOfInt .f64 (k : Int)
theorem fb_zero : fb 0 = 0 := by decide +kernel
theorem fb_one : fb 1 = 4607182418800017408 := by decide +kernel
theorem fb_add0 : ∀ k, k < 151 → floatBits .add .f64 (fb k) 0 = some (fb k) := by decide +kernel
theorem fb_add1 : ∀ k, k < 151 → floatBits .add .f64 (fb k) 4607182418800017408 = some (fb (k + 1)) := by decide +kernel
theorem fb_same : ∀ k, k < 151 → (FloatKind.f64.format.order (fb k) (fb k) == some .eq) = true := by decide +kernel
theorem fb_next : ∀ k, k < 151 → (FloatKind.f64.format.order (fb k) (fb (k + 1)) == some .eq) = false := by decide +kernel
def riseN (a b : Cut) : Nat := if isPoint a b = true then 0 else 1
theorem fb_rise {k : Nat} (hk : k < 151) (a b : Cut) : floatBits .add .f64 (fb k) (fb (riseN a b)) = some (fb (k + riseN a b)) := by
 unfold riseN
 split
 ·rw [fb_zero]; exact fb_add0 k hk
 ·rw [fb_one]; exact fb_add1 k hk
theorem fb_eq {k : Nat} (hk : k < 151) (a b : Cut) : (FloatKind.f64.format.order (fb k) (fb (k + riseN a b)) == some .eq) = isPoint a b := by
 unfold riseN
 cases h : isPoint a b with
 | true => rw [if_pos rfl]; exact fb_same k hk
 | false => rw [if_neg (by simp)]; exact fb_next k hk
theorem rise_any (a b : RCut) (w : World) (ha : Span.Lies w a) (hb : Span.Lies w b) :
  Calls Tryz.prog 107 #[.agg #[.int .i64 a.kind, .int .u64 (a.v.a : Int), .int .u64 (a.v.b : Int), .int .u64 (a.v.c : Int), .slice a.A a.v.pre.length a.c, .slice a.B a.v.build.length a.d], .agg #[.int .i64 b.kind, .int .u64 (b.v.a : Int), .int .u64 (b.v.b : Int), .int .u64 (b.v.c : Int), .slice b.A b.v.pre.length b.c, .slice b.B b.v.build.length b.d]] w fun e w' => e = .returned (.float .f64 (fb (riseN a.cut b.cut))) ∧ Below w.heap.size w w' := by
 have HB0 : Hid (Below w.heap.size w ((w.alloc (.cells #[.int .i64 a.kind, .int .u64 (a.v.a : Int), .int .u64 (a.v.b : Int), .int .u64 (a.v.c : Int), .slice a.A a.v.pre.length a.c, .slice a.B a.v.build.length a.d] 41)).alloc (.cells #[.int .i64 b.kind, .int .u64 (b.v.a : Int), .int .u64 (b.v.b : Int), .int .u64 (b.v.c : Int), .slice b.A b.v.pre.length b.c, .slice b.B b.v.build.length b.d] 41))) := ((Below.refl _ _).alloc (Nat.le_refl _) _).alloc (by simp) _
 have X1 : Hid (At6B ((w.alloc (.cells #[.int .i64 a.kind, .int .u64 (a.v.a : Int), .int .u64 (a.v.b : Int), .int .u64 (a.v.c : Int), .slice a.A a.v.pre.length a.c, .slice a.B a.v.build.length a.d] 41)).alloc (.cells #[.int .i64 b.kind, .int .u64 (b.v.a : Int), .int .u64 (b.v.b : Int), .int .u64 (b.v.c : Int), .slice b.A b.v.pre.length b.c, .slice b.B b.v.build.length b.d] 41)) w.heap.size (.int .i64 a.kind) (.int .u64 (a.v.a : Int)) (.int .u64 (a.v.b : Int)) (.int .u64 (a.v.c : Int)) (.slice a.A a.v.pre.length a.c) (.slice a.B a.v.build.length a.d)) := (At6B.new w 41 (.int .i64 a.kind) (.int .u64 (a.v.a : Int)) (.int .u64 (a.v.b : Int)) (.int .u64 (a.v.c : Int)) (.slice a.A a.v.pre.length a.c) (.slice a.B a.v.build.length a.d)).kept ((Below.refl _ _).alloc (Nat.le_refl _) _) (by simp)
 have Y1 : Hid (At6B ((w.alloc (.cells #[.int .i64 a.kind, .int .u64 (a.v.a : Int), .int .u64 (a.v.b : Int), .int .u64 (a.v.c : Int), .slice a.A a.v.pre.length a.c, .slice a.B a.v.build.length a.d] 41)).alloc (.cells #[.int .i64 b.kind, .int .u64 (b.v.a : Int), .int .u64 (b.v.b : Int), .int .u64 (b.v.c : Int), .slice b.A b.v.pre.length b.c, .slice b.B b.v.build.length b.d] 41)) (w.heap.size + 1) (.int .i64 b.kind) (.int .u64 (b.v.a : Int)) (.int .u64 (b.v.b : Int)) (.int .u64 (b.v.c : Int)) (.slice b.A b.v.pre.length b.c) (.slice b.B b.v.build.length b.d)) := by
  have := At6B.new (w.alloc (.cells #[.int .i64 a.kind, .int .u64 (a.v.a : Int), .int .u64 (a.v.b : Int), .int .u64 (a.v.c : Int), .slice a.A a.v.pre.length a.c, .slice a.B a.v.build.length a.d] 41)) 41 (.int .i64 b.kind) (.int .u64 (b.v.a : Int)) (.int .u64 (b.v.b : Int)) (.int .u64 (b.v.c : Int)) (.slice b.A b.v.pre.length b.c) (.slice b.B b.v.build.length b.d)
  rw [size_alloc] at this; exact this
 have HLa := Lib.hid ha
 have HLb := Lib.hid hb
 have HP := Lib.hid (isPoint_iff a.cut b.cut)
 clear ha hb
 generalize hR : fb (riseN a.cut b.cut) = R
 have H0 : Hid (isPoint a.cut b.cut = true → R = 0) := fun h => by rw [← hR]; unfold riseN; rw [if_pos h]; exact fb_zero
 have H1 : Hid (isPoint a.cut b.cut ≠ true → R = 4607182418800017408) := fun h => by rw [← hR]; unfold riseN; rw [if_neg h]; exact fb_one
 clear hR
 go_enter Tryz.func107, Tryz.ntmps107
 go_upto_region 1 with (fail)
 generalize ((w.alloc (.cells #[.int .i64 a.kind, .int .u64 (a.v.a : Int), .int .u64 (a.v.b : Int), .int .u64 (a.v.c : Int), .slice a.A a.v.pre.length a.c, .slice a.B a.v.build.length a.d] 41)).alloc (.cells #[.int .i64 b.kind, .int .u64 (b.v.a : Int), .int .u64 (b.v.b : Int), .int .u64 (b.v.c : Int), .slice b.A b.v.pre.length b.c, .slice b.B b.v.build.length b.d] 41)) = W at HB0 X1 Y1 ⊢
 obtain ⟨_, _, a0, a1, a2, a3, a4, a5⟩ := X1.out
 obtain ⟨_, _, b0, b1, b2, b3, b4, b5⟩ := Y1.out
 by_cases h1 : a.kind = 1
 ·by_cases h2 : b.kind = 2
  ·have HK1 := Lib.hid h1
   have HK2 := Lib.hid h2
   rw [h1] at a0
   rw [h2] at b0
   clear h1 h2
   go_wp2_with fail
   refine (compare_any a.v b.v a.A a.B b.A b.B a.c a.d b.c b.d _ (HLa.out.pre.kept HB0.out) (HLb.out.pre.kept HB0.out) HLa.out.fpre HLb.out.fpre).mono ?_
   rintro e w2 ⟨rfl, hb⟩
   have HB := Lib.hid (HB0.out.trans (hb.mono HB0.out.size))
   clear hb
   by_cases h3 : cmpV a.v b.v = 0
   ·obtain rfl := H0.out (HP.out.2 ⟨HK1.out, HK2.out, h3⟩)
    rw [h3]
    clear h3 H0 H1
    go_wp2; go_ret
    exact ⟨rfl, HB.out⟩
   ·obtain rfl := H1.out (fun h => h3 (HP.out.1 h).2.2)
    have q3 : (cmpV a.v b.v == 0) = false := by simp [h3]
    clear h3 H0 H1
    go_wp2; go_ret
    exact ⟨rfl, HB.out⟩
  ·obtain rfl := H1.out (fun h => h2 (HP.out.1 h).2.1)
   have q2 : (b.kind == 2) = false := by simp [h2]
   rw [h1] at a0
   clear h1 h2 H0 H1
   go_wp2; go_ret
   exact ⟨rfl, HB0.out⟩
 ·obtain rfl := H1.out (fun h => h1 (HP.out.1 h).1)
  have q1 : (a.kind == 1) = false := by simp [h1]
  clear h1 H0 H1
  go_wp2; go_ret
  exact ⟨rfl, HB0.out⟩
end Go.Proofs.YtgfbflnhjpbceaaGreatDoor.Nrm
namespace Go.Proofs.YtgfbflnhjpbceaaGreatDoor.Nrm
open Go.RowKit Num Ident Semver Prec Span
def lastC (L : List Sp) (i : Nat) : Cut := if i = 0 then low else (L.getD (i - 1) default).hi
def pk (L : List Sp) : Nat → Nat
 | 0 => 0
 | i + 1 => pk L i + riseN (lastC L i) (L.getD i default).lo + riseN (L.getD i default).lo (L.getD i default).hi
def lk (L : List Sp) (i : Nat) : Nat := pk L i + riseN (lastC L i) (L.getD i default).lo
theorem rise_le (a b : Cut) : riseN a b ≤ 1 := by unfold riseN; split <;> omega
theorem pk_le (L : List Sp) : ∀ i, pk L i ≤ 2 * i
 | 0 => Nat.le_refl _
 | i + 1 => by
  have h1 := rise_le (lastC L i) (L.getD i default).lo
  have h2 := rise_le (L.getD i default).lo (L.getD i default).hi
  have h3 := pk_le L i
  show pk L i + riseN (lastC L i) (L.getD i default).lo + riseN (L.getD i default).lo (L.getD i default).hi ≤ 2 * (i + 1)
  omega
theorem lk_le (L : List Sp) (i : Nat) : lk L i ≤ 2 * i + 1 := by
 have h1 := rise_le (lastC L i) (L.getD i default).lo
 have h3 := pk_le L i
 unfold lk; omega
theorem pk_lk (L : List Sp) (i : Nat) : pk L (i + 1) = lk L i + riseN (L.getD i default).lo (L.getD i default).hi := rfl
theorem lk_next (L : List Sp) (i : Nat) : lk L (i + 1) = pk L (i + 1) + riseN (L.getD i default).hi (L.getD (i + 1) default).lo := rfl
def ends (L : List Sp) (k : Nat) (j : Nat) : Value := if j < k then .complex .f64 (fb (lk L j)) (fb (pk L (j + 1))) else .complex .f64 0 0
def CxAt (W : World) (g n : Nat) (E : Nat → Value) : Prop := g < W.heap.size ∧ (∀ o, W.frozen? ⟨g, o, none⟩ = false) ∧ ∀ j, j < n → W.cell? ⟨g, j, none⟩ = some (E j)
theorem CxAt.kept {W W' : World} {g n : Nat} {E : Nat → Value} (h : CxAt W g n E) (hb : Below W.heap.size W W') : CxAt W' g n E :=
 ⟨Nat.lt_of_lt_of_le h.1 hb.size, fun o => (hb.frozen (p := ⟨g, o, none⟩) h.1).trans (h.2.1 o), fun j hj => (hb.cell (p := ⟨g, j, none⟩) h.1).trans (h.2.2 j hj)⟩
theorem CxAt.next {W : World} {g n k : Nat} {L : List Sp} (h : CxAt W g n (ends L k)) (hk : k < n) : CxAt (W.setCell ⟨g, k, none⟩ (.complex .f64 (fb (lk L k)) (fb (pk L (k + 1))))) g n (ends L (k + 1)) := by
 refine ⟨by simpa using h.1, fun o => by simp [go_sem, h.2.1], fun j hj => ?_⟩
 by_cases e : j = k
 ·subst e
  rw [World.cell?_setCell_same _ _ _ (h.2.2 j hj)]
  unfold ends; rw [if_pos (by omega)]
 ·rw [World.cell?_setCell_other _ _ _ _ (by intro q; injection q with _ q2; exact e q2.symm), h.2.2 j hj]
  unfold ends
  by_cases hlt : j < k
  ·rw [if_pos hlt, if_pos (by omega)]
  ·rw [if_neg hlt, if_neg (by omega)]
theorem CxAt.new (w : World) (n : Nat) (L : List Sp) (t : TypeId) : CxAt (w.alloc (.cells (madeCells #[.complex .f64 0 0] n) t)) w.heap.size n (ends L 0) := by
 have hh : (w.alloc (.cells (madeCells #[.complex .f64 0 0] n) t)).heap[w.heap.size]? = some (.cells (madeCells #[.complex .f64 0 0] n) t) := by
  show (w.heap.push _)[w.heap.size]? = _
  simp
 refine ⟨by simp, fun o => by simp [go_sem], fun j hj => ?_⟩
 rw [cell_of_row _ _ _ _ t (0, 0) hh]
 unfold ends
 rw [if_neg (by omega)]
 have e : (madeCells #[Value.complex .f64 0 0] n)[j]? = some (.complex .f64 0 0) := by
  unfold madeCells
  rw [Array.getElem?_map, Array.getElem?_range, if_pos hj]
  simp [Nat.mod_one]
 simpa using e
theorem CxAt.six {W : World} {g n b : Nat} {E : Nat → Value} (h : CxAt W g n E) (hne : g ≠ b) (v0 v1 v2 v3 v4 v5 : Value) : CxAt (Span.set6 W b v0 v1 v2 v3 v4 v5) g n E := by
 have one : ∀ (W : World) (o : Nat) (v : Value), CxAt W g n E → CxAt (W.setCell ⟨b, o, none⟩ v) g n E := fun W o v h =>
  ⟨by simpa using h.1, fun o => by simp [go_sem, h.2.1], fun j hj => (World.cell?_setCell_other _ _ _ _ (by intro e; injection e with e; exact hne e.symm)).trans (h.2.2 j hj)⟩
 unfold Span.set6
 exact one _ _ _ (one _ _ _ (one _ _ _ (one _ _ _ (one _ _ _ (one _ _ _ h)))))
theorem run_store_cx (P : Program) (w : World) (a : Addr) (m : Mode) (k : FloatKind) (x y : Nat) : (store a (.complex k x y) m).run P w = stored P w a (.complex k x y) m := run_store P w a _ m rfl
theorem cxInfo : (Tryz.prog.info? 106).map (fun i => (i.zero, i.size, i.bytes)) = some (some (.complex .f64 0 0), 1, 16) := by kernel_rfl
theorem run_make_cx (n : Nat) (hn : n ≤ 1000000) (w : World) : (Instr.makeSlice 103 (.int .i64 (n : Int)) (.int .i64 (n : Int))).run Tryz.prog w = .ok (.slice (some ⟨w.heap.size, 0, none⟩) n n) (w.alloc (.cells (madeCells #[.complex .f64 0 0] n) 106)) := by
 obtain ⟨i, hi, hz, hs, hby⟩ := info_parts cxInfo
 have hr := run_make (P := Tryz.prog) w 103 106 i (.complex .f64 0 0) Tryz.underlying103 hi hz .i64 .i64 (n : Int) (n : Int) (by omega) (by omega) (by rw [hby]; omega) (by omega)
 rw [hs] at hr
 simp only [Int.toNat_natCast, Nat.mul_one] at hr
 exact hr
def RkJ (w : World) (A : Option Addr) (n c : Nat) (l : List RSp) (a' : Act) (W : World) : Prop :=
 ∃ (k : Nat) (z : RCut) (u1 : Value) (u7 u8 u9 u10 u11 u12 u13 u14 u15 u16 u17 u18 u19 u20 u21 u22 u23 u24 u25 u26 u27 u28 u29 u30 u31 u32 u33 u34 u35 u36 u37 u38 u39 u40 u41 u42 u43 u44 u45 u46 u47 u48 u49 u50 : Value), k ≤ n ∧ Hid (CxAt W w.heap.size n (ends (l.map RSp.sp) k)) ∧ Hid (At6B W (w.heap.size + 1) (.int .i64 z.kind) (.int .u64 (z.v.a : Int)) (.int .u64 (z.v.b : Int)) (.int .u64 (z.v.c : Int)) (.slice z.A z.v.pre.length z.c) (.slice z.B z.v.build.length z.d)) ∧ Hid (z.cut = lastC (l.map RSp.sp) k) ∧ Hid (Span.Lies W z) ∧ Hid (Below w.heap.size w W) ∧
  a' = { tmps := #[.slice A n c, u1, .slice none 0 0, .slice (some ⟨w.heap.size, 0, none⟩) n n, .pointer (some ⟨w.heap.size + 1, 0, none⟩), .int .i64 (k : Int), .float .f64 (fb (pk (l.map RSp.sp) k)), u7, u8, u9, u10, u11, u12, u13, u14, u15, u16, u17, u18, u19, u20, u21, u22, u23, u24, u25, u26, u27, u28, u29, u30, u31, u32, u33, u34, u35, u36, u37, u38, u39, u40, u41, u42, u43, u44, u45, u46, u47, u48, u49, u50], defers := [] }
def RkM (n : Nat) (a' : Act) (_ : World) : Nat := n - (intOf (a'.tmps.getD 5 undef)).toNat
attribute [local go_sem] run_store_cx
theorem ranked_any (A : Option Addr) (n c : Nat) (l : List RSp) (w : World) (hr : SpRow w A n l) (hn : n ≤ 74) :
  Calls Tryz.prog 75 #[.slice A n c] w fun e w' => e = .returned (.slice (some ⟨w.heap.size, 0, none⟩) n n) ∧ CxAt w' w.heap.size n (ends (l.map RSp.sp) n) ∧ Below w.heap.size w w' := by
 have HR := Lib.hid hr
 have hmk := fun W => run_make_cx n (by omega) W
 clear hr
 go_enter Tryz.func75, Tryz.ntmps75
 go_upto_region 1 with (fail)
 go_wp2
 refine wp_scope_back 0 (RkJ w A n c l) (RkM n) rfl ?_ ?_
 ·rintro a' W ⟨k, z, u1, u7, u8, u9, u10, u11, u12, u13, u14, u15, u16, u17, u18, u19, u20, u21, u22, u23, u24, u25, u26, u27, u28, u29, u30, u31, u32, u33, u34, u35, u36, u37, u38, u39, u40, u41, u42, u43, u44, u45, u46, u47, u48, u49, u50, hk, HX, HZ, HZc, HLz, HB, rfl⟩
  by_cases hlt : k < n
  ·obtain ⟨b, o, rfl, hbw, hcell⟩ := HR.out.2.2 (by omega)
   have HS : Hid (SpAt W.drew b (o + k * 12) (l.getD k default)) := fun i v hv => (HB.out.cell (p := ⟨b, o + k * 12 + i, none⟩) hbw).trans (hcell k hlt i v hv)
   have HLs : Hid (LiesS W.drew (l.getD k default)) := (HR.out.lies hlt).kept HB.out.drew
   have hsp := sp_at l k
   obtain ⟨s, hs⟩ : ∃ s, s = l.getD k default := ⟨_, rfl⟩
   rw [← hs] at HS HLs hsp
   have HLw : Hid (Span.Lies w s.hi) := by rw [hs]; exact (HR.out.lies hlt).hi
   have HF1 : Hid (floatBits .add .f64 (fb (pk (l.map RSp.sp) k)) (fb (riseN (lastC (l.map RSp.sp) k) s.lo.cut)) = some (fb (lk (l.map RSp.sp) k))) := by
    have := fb_rise (k := pk (l.map RSp.sp) k) (by have := pk_le (l.map RSp.sp) k; omega) (lastC (l.map RSp.sp) k) s.lo.cut
    rw [this]; unfold lk; rw [hsp]; rfl
   have HF2 : Hid (floatBits .add .f64 (fb (lk (l.map RSp.sp) k)) (fb (riseN s.lo.cut s.hi.cut)) = some (fb (pk (l.map RSp.sp) (k + 1)))) := by
    have := fb_rise (k := lk (l.map RSp.sp) k) (by have := lk_le (l.map RSp.sp) k; omega) s.lo.cut s.hi.cut
    rw [this, pk_lk, hsp]; rfl
   have HNx : Hid (s.hi.cut = lastC (l.map RSp.sp) (k + 1)) := by
    unfold Hid lastC; rw [if_neg (by omega), Nat.add_sub_cancel, hsp]; rfl
   have hne : ¬ k = n := by omega
   replace HX : Hid (CxAt W.drew w.heap.size n (ends (l.map RSp.sp) k)) := HX.out
   replace HZ : Hid (At6B W.drew (w.heap.size + 1) (.int .i64 z.kind) (.int .u64 (z.v.a : Int)) (.int .u64 (z.v.b : Int)) (.int .u64 (z.v.c : Int)) (.slice z.A z.v.pre.length z.c) (.slice z.B z.v.build.length z.d)) := HZ.out
   replace HLz : Hid (Span.Lies W.drew z) := HLz.out.kept (Below.refl _ _).drew
   replace HB : Hid (Below w.heap.size w W.drew) := HB.out.drew
   clear hs hcell hsp
   go_upto_region 6 with (fail)
   refine wp_region_held_drew (S := fun w' => At6B w' (w.heap.size + 1) (.int .i64 z.kind) (.int .u64 (z.v.a : Int)) (.int .u64 (z.v.b : Int)) (.int .u64 (z.v.c : Int)) (.slice z.A z.v.pre.length z.c) (.slice z.B z.v.build.length z.d) ∧ SpAt w' b (o + k * 12) s) (by kernel_rfl) ⟨HZ.out, HS.out⟩ (fun hHeld => ?_)
   generalize W.drew = W1 at HX HZ HS HLz HLs HB hHeld ⊢
   refine tk 0 rfl (.float .f64 (fb (pk (l.map RSp.sp) k))) ?_
   refine tk 1 rfl (.agg #[.int .i64 z.kind, .int .u64 (z.v.a : Int), .int .u64 (z.v.b : Int), .int .u64 (z.v.c : Int), .slice z.A z.v.pre.length z.c, .slice z.B z.v.build.length z.d]) ?_ fun w' hS' => by obtain ⟨_, _, a0, a1, a2, a3, a4, a5⟩ := hS'.1; go_simp
   refine tk 2 rfl (.slice (some ⟨b, o, none⟩) n c) ?_
   refine tk 3 rfl (.int .i64 (k : Int)) ?_
   refine tk 4 rfl (.pointer (some ⟨b, o + k * 12, none⟩)) ?_
   refine tk 5 rfl (.pointer (some ⟨b, o + k * 12, none⟩)) ?_
   refine tk 6 rfl (.agg #[.int .i64 s.lo.kind, .int .u64 (s.lo.v.a : Int), .int .u64 (s.lo.v.b : Int), .int .u64 (s.lo.v.c : Int), .slice s.lo.A s.lo.v.pre.length s.lo.c, .slice s.lo.B s.lo.v.build.length s.lo.d]) ?_ fun w' hS' => by obtain ⟨s0, s1, s2, s3, s4, s5, s6, s7, s8, s9, s10, s11⟩ := SpAt.cells hS'.2; go_simp
   refine cl 7 rfl fun K hK => ?_
   go_simp
   refine (rise_any z s.lo _ HLz.out HLs.out.lo).mono ?_
   rintro e wp1 ⟨rfl, hb⟩
   replace HX := Lib.hid (HX.out.kept hb)
   replace HZ := Lib.hid (HZ.out.kept hb HZ.out.1)
   replace HS := Lib.hid (HS.out.kept hb (Nat.lt_of_lt_of_le hbw HB.out.size))
   replace HLz := Lib.hid (HLz.out.kept hb)
   replace HLs := Lib.hid (HLs.out.kept hb)
   replace HB := Lib.hid (HB.out.trans (hb.mono HB.out.size))
   rw [HZc.out]
   clear hb hHeld
   refine hK.out _ _ ⟨HZ.out, HS.out⟩ (fun hHeld => ?_)
   clear hK K
   try simp only [Act.put, p1, p2, p3]
   refine tk 8 rfl (.float .f64 (fb (lk (l.map RSp.sp) k))) ?_ fun w' hS' => by have hf := run_float_arith (P := Tryz.prog) w' .add 105 .f64 _ _ _ HF1.out; go_simp
   refine tk 9 rfl (.float .f64 (fb (lk (l.map RSp.sp) k))) ?_
   refine wpAnyH_done (by kernel_rfl) ?_ _
   go_upto_region 7 with (fail)
   replace HX : Hid (CxAt wp1.drew w.heap.size n (ends (l.map RSp.sp) k)) := HX.out
   replace HZ : Hid (At6B wp1.drew (w.heap.size + 1) (.int .i64 z.kind) (.int .u64 (z.v.a : Int)) (.int .u64 (z.v.b : Int)) (.int .u64 (z.v.c : Int)) (.slice z.A z.v.pre.length z.c) (.slice z.B z.v.build.length z.d)) := HZ.out
   replace HS : Hid (SpAt wp1.drew b (o + k * 12) s) := HS.out
   replace HLs : Hid (LiesS wp1.drew s) := HLs.out.kept (Below.refl _ _).drew
   replace HB : Hid (Below w.heap.size w wp1.drew) := HB.out.drew
   refine wp_region_held_drew (S := fun w' => At6B w' (w.heap.size + 1) (.int .i64 z.kind) (.int .u64 (z.v.a : Int)) (.int .u64 (z.v.b : Int)) (.int .u64 (z.v.c : Int)) (.slice z.A z.v.pre.length z.c) (.slice z.B z.v.build.length z.d) ∧ SpAt w' b (o + k * 12) s) (by kernel_rfl) ⟨HZ.out, HS.out⟩ (fun hHeld => ?_)
   generalize wp1.drew = W2 at HX HZ HS HLs HB hHeld ⊢
   refine tk 0 rfl (.float .f64 (fb (lk (l.map RSp.sp) k))) ?_
   refine tk 1 rfl (.slice (some ⟨b, o, none⟩) n c) ?_
   refine tk 6 rfl (.slice (some ⟨b, o, none⟩) n c) ?_
   refine tk 2 rfl (.int .i64 (k : Int)) ?_
   refine tk 7 rfl (.int .i64 (k : Int)) ?_
   refine tk 3 rfl (.pointer (some ⟨b, o + k * 12, none⟩)) ?_
   refine tk 8 rfl (.pointer (some ⟨b, o + k * 12, none⟩)) ?_
   refine tk 4 rfl (.pointer (some ⟨b, o + k * 12, none⟩)) ?_
   refine tk 9 rfl (.pointer (some ⟨b, o + k * 12 + 6, none⟩)) ?_
   refine tk 5 rfl (.agg #[.int .i64 s.lo.kind, .int .u64 (s.lo.v.a : Int), .int .u64 (s.lo.v.b : Int), .int .u64 (s.lo.v.c : Int), .slice s.lo.A s.lo.v.pre.length s.lo.c, .slice s.lo.B s.lo.v.build.length s.lo.d]) ?_ fun w' hS' => by obtain ⟨s0, s1, s2, s3, s4, s5, s6, s7, s8, s9, s10, s11⟩ := SpAt.cells hS'.2; go_simp
   refine tk 10 rfl (.agg #[.int .i64 s.hi.kind, .int .u64 (s.hi.v.a : Int), .int .u64 (s.hi.v.b : Int), .int .u64 (s.hi.v.c : Int), .slice s.hi.A s.hi.v.pre.length s.hi.c, .slice s.hi.B s.hi.v.build.length s.hi.d]) ?_ fun w' hS' => by obtain ⟨s0, s1, s2, s3, s4, s5, s6, s7, s8, s9, s10, s11⟩ := SpAt.cells hS'.2; go_simp
   refine cl 11 rfl fun K hK => ?_
   go_simp
   refine (rise_any s.lo s.hi _ HLs.out.lo HLs.out.hi).mono ?_
   rintro e wq1 ⟨rfl, hb⟩
   replace HX := Lib.hid (HX.out.kept hb)
   replace HZ := Lib.hid (HZ.out.kept hb HZ.out.1)
   replace HS := Lib.hid (HS.out.kept hb (Nat.lt_of_lt_of_le hbw HB.out.size))
   replace HLs := Lib.hid (HLs.out.kept hb)
   replace HB := Lib.hid (HB.out.trans (hb.mono HB.out.size))
   clear hb hHeld
   refine hK.out _ _ ⟨HZ.out, HS.out⟩ (fun hHeld => ?_)
   clear hK K
   try simp only [Act.put, p1, p2, p3]
   refine tk 12 rfl (.float .f64 (fb (pk (l.map RSp.sp) (k + 1)))) ?_ fun w' hS' => by have hf := run_float_arith (P := Tryz.prog) w' .add 105 .f64 _ _ _ HF2.out; go_simp
   refine tk 13 rfl (.float .f64 (fb (pk (l.map RSp.sp) (k + 1)))) ?_
   refine wpAnyH_done (by kernel_rfl) ?_ _
   go_upto_region 8 with (fail)
   have hz8 : wq1.cell? ⟨w.heap.size, k, none⟩ = some (.complex .f64 0 0) := by rw [HX.out.2.2 k hlt]; unfold ends; rw [if_neg (Nat.lt_irrefl _)]
   have hf8 := HX.out.2.1 k
   go_upto_region 9 with (fail)
   have HX9 := Lib.hid (HX.out.next hlt)
   have HZ9 : Hid (At6B (wq1.setCell ⟨w.heap.size, k, none⟩ (.complex .f64 (fb (lk (l.map RSp.sp) k)) (fb (pk (l.map RSp.sp) (k + 1))))) (w.heap.size + 1) (.int .i64 z.kind) (.int .u64 (z.v.a : Int)) (.int .u64 (z.v.b : Int)) (.int .u64 (z.v.c : Int)) (.slice z.A z.v.pre.length z.c) (.slice z.B z.v.build.length z.d)) := HZ.out.beside (by omega) _
   have HB9 : Hid (Below w.heap.size w (wq1.setCell ⟨w.heap.size, k, none⟩ (.complex .f64 (fb (lk (l.map RSp.sp) k)) (fb (pk (l.map RSp.sp) (k + 1)))))) := HB.out.setCell (p := ⟨w.heap.size, k, none⟩) (Nat.le_refl _) _
   have hb9 : Below w.heap.size wq1 (wq1.setCell ⟨w.heap.size, k, none⟩ (.complex .f64 (fb (lk (l.map RSp.sp) k)) (fb (pk (l.map RSp.sp) (k + 1))))) := (Below.refl _ _).setCell (p := ⟨w.heap.size, k, none⟩) (Nat.le_refl _) _
   have HS9 : Hid (SpAt (wq1.setCell ⟨w.heap.size, k, none⟩ (.complex .f64 (fb (lk (l.map RSp.sp) k)) (fb (pk (l.map RSp.sp) (k + 1))))) b (o + k * 12) s) := fun i v hv => (hb9.cell (p := ⟨b, o + k * 12 + i, none⟩) hbw).trans (HS.out i v hv)
   clear hz8 hf8 hb9 HX HZ HS HB hHeld
   generalize wq1.setCell ⟨w.heap.size, k, none⟩ (.complex .f64 (fb (lk (l.map RSp.sp) k)) (fb (pk (l.map RSp.sp) (k + 1)))) = W8 at HX9 HZ9 HB9 HS9 ⊢
   obtain ⟨_, g2, z0, z1, z2, z3, z4, z5⟩ := HZ9.out
   obtain ⟨s0, s1, s2, s3, s4, s5, s6, s7, s8, s9, s10, s11⟩ := SpAt.cells HS9.out
   have HXE := Lib.hid (HX9.out.six (b := w.heap.size + 1) (by omega) (.int .i64 s.hi.kind) (.int .u64 (s.hi.v.a : Int)) (.int .u64 (s.hi.v.b : Int)) (.int .u64 (s.hi.v.c : Int)) (.slice s.hi.A s.hi.v.pre.length s.hi.c) (.slice s.hi.B s.hi.v.build.length s.hi.d))
   have HZE := Lib.hid (HZ9.out.set6 (.int .i64 s.hi.kind) (.int .u64 (s.hi.v.a : Int)) (.int .u64 (s.hi.v.b : Int)) (.int .u64 (s.hi.v.c : Int)) (.slice s.hi.A s.hi.v.pre.length s.hi.c) (.slice s.hi.B s.hi.v.build.length s.hi.d))
   have HBE := Lib.hid (below_set6 HB9.out (b := w.heap.size + 1) (by omega) (.int .i64 s.hi.kind) (.int .u64 (s.hi.v.a : Int)) (.int .u64 (s.hi.v.b : Int)) (.int .u64 (s.hi.v.c : Int)) (.slice s.hi.A s.hi.v.pre.length s.hi.c) (.slice s.hi.B s.hi.v.build.length s.hi.d))
   have HLE : Hid (Span.Lies (Span.set6 W8 (w.heap.size + 1) (.int .i64 s.hi.kind) (.int .u64 (s.hi.v.a : Int)) (.int .u64 (s.hi.v.b : Int)) (.int .u64 (s.hi.v.c : Int)) (.slice s.hi.A s.hi.v.pre.length s.hi.c) (.slice s.hi.B s.hi.v.build.length s.hi.d)) s.hi) := HLw.out.kept HBE.out
   go_upto_region 10 with (fail)
   change Code.wp _ _ _ _ (Span.set6 W8 (w.heap.size + 1) (.int .i64 s.hi.kind) (.int .u64 (s.hi.v.a : Int)) (.int .u64 (s.hi.v.b : Int)) (.int .u64 (s.hi.v.c : Int)) (.slice s.hi.A s.hi.v.pre.length s.hi.c) (.slice s.hi.B s.hi.v.build.length s.hi.d))
   generalize Span.set6 W8 (w.heap.size + 1) (.int .i64 s.hi.kind) (.int .u64 (s.hi.v.a : Int)) (.int .u64 (s.hi.v.b : Int)) (.int .u64 (s.hi.v.c : Int)) (.slice s.hi.A s.hi.v.pre.length s.hi.c) (.slice s.hi.B s.hi.v.build.length s.hi.d) = WE at HXE HZE HBE HLE ⊢
   clear z0 z1 z2 z3 z4 z5 s0 s1 s2 s3 s4 s5 s6 s7 s8 s9 s10 s11 g2 HX9 HZ9 HB9 HS9
   go_wp2
   go_step3
   rw [show ((k : Int) + 1) = ((k + 1 : Nat) : Int) from rfl]
   exact ⟨rfl, ⟨k + 1, s.hi, u1, _, _, _, _, _, _, _, _, _, _, _, _, _, _, _, _, _, _, _, _, _, _, _, _, _, _, _, _, _, _, _, _, _, _, _, _, _, _, _, _, _, _, _, _, by omega, HXE, HZE, HNx, HLE, HBE, rfl⟩, by simp [RkM, intOf]; omega⟩
  ·obtain rfl : k = n := by omega
   go_wp2
   simp only [Exit.jump]
   go_ret
   exact ⟨rfl, HX.out, HB.out⟩
 ·intro HP
  have HX0 : Hid (CxAt ((w.alloc (.cells (madeCells #[.complex .f64 0 0] n) 106)).alloc (.cells #[.int .i64 0, .int .u64 0, .int .u64 0, .int .u64 0, .slice none 0 0, .slice none 0 0] 41)) w.heap.size n (ends (l.map RSp.sp) 0)) := (CxAt.new w n (l.map RSp.sp) 106).kept ((Below.refl _ _).alloc (Nat.le_refl _) _)
  have HZ0 : Hid (At6B ((w.alloc (.cells (madeCells #[.complex .f64 0 0] n) 106)).alloc (.cells #[.int .i64 0, .int .u64 0, .int .u64 0, .int .u64 0, .slice none 0 0, .slice none 0 0] 41)) (w.heap.size + 1) (.int .i64 0) (.int .u64 0) (.int .u64 0) (.int .u64 0) (.slice none 0 0) (.slice none 0 0)) := by
   have h := At6B.new (w.alloc (.cells (madeCells #[.complex .f64 0 0] n) 106)) 41 (.int .i64 0) (.int .u64 0) (.int .u64 0) (.int .u64 0) (.slice none 0 0) (.slice none 0 0)
   rw [size_alloc] at h; exact h
  have HB0 : Hid (Below w.heap.size w ((w.alloc (.cells (madeCells #[.complex .f64 0 0] n) 106)).alloc (.cells #[.int .i64 0, .int .u64 0, .int .u64 0, .int .u64 0, .slice none 0 0, .slice none 0 0] 41))) := ((Below.refl _ _).alloc (Nat.le_refl _) _).alloc (by simp) _
  go_wp2
  go_step3
  rename_i hK
  exact hK _ _ (HP.out _ _ ⟨0, rlow, _, _, _, _, _, _, _, _, _, _, _, _, _, _, _, _, _, _, _, _, _, _, _, _, _, _, _, _, _, _, _, _, _, _, _, _, _, _, _, _, _, _, _, _, _, by omega, HX0, HZ0, rfl, Span.Lies.low _, HB0, rfl⟩)
end Go.Proofs.YtgfbflnhjpbceaaGreatDoor.Nrm
