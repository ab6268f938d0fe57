/-
  What the theorem of the last text needs of these: NmGood, PrMath. Conditions: as each theorem states.
-/
import Derived.Test.YtgfbflnhjpbceaaGreatDoorAgaB1
import Derived.Test.YtgfbflnhjpbceaaGreatDoorAgaB2
import Derived.Test.YtgfbflnhjpbceaaGreatDoorAgaB11
set_option maxRecDepth 100000
set_option maxHeartbeats 25600000
namespace Go.Proofs.YtgfbflnhjpbceaaGreatDoor.Range
open Go.RowKit Num Ident Semver
theorem fits_ver {k : Int} {v : Ver} {n : Nat} (h : ofVersion k = true) : fits k v n = (goodV v && decide (n = 0)) := by unfold fits; rw [if_pos h]
theorem fits_un {k : Int} {v : Ver} {n : Nat} (h : ofVersion k = false) (h2 : sameV v noVer = false) : fits k v n = false := by unfold fits; rw [if_neg (by simp [h]), if_pos h2]
theorem fits_zero {k : Int} {v : Ver} {n : Nat} (h : ofVersion k = false) (h2 : sameV v noVer = true) : fits k v n = if k = 0 then decide (n = 0) else if k = 9 ∨ k = 10 then decide (2 ≤ n) else if k = 11 then decide (n = 1) else false := by
 unfold fits; rw [if_neg (by simp [h]), if_neg (by simp [h2])]
theorem fits_full (x : RV) (w : World) (hr1 : SRow w x.A x.v.pre.length x.v.pre) (hr2 : SRow w x.B x.v.build.length x.v.build) (hf : FitV x.v) :
  Calls Tryz.prog 77 #[x.agg] w fun e w' => e = .returned (.bool (fits x.kind x.v x.n)) ∧ Below w.heap.size w w' := by
 have HB : Hid (Below w.heap.size w (w.alloc (.cells #[.int .i64 x.kind, .int .u64 (x.v.a : Int), .int .u64 (x.v.b : Int), .int .u64 (x.v.c : Int), .slice x.A x.v.pre.length x.c, .slice x.B x.v.build.length x.d, .slice x.L x.n x.e] 28))) := (Below.refl _ _).alloc (Nat.le_refl _) _
 have HRA : Hid (RAt (w.alloc (.cells #[.int .i64 x.kind, .int .u64 (x.v.a : Int), .int .u64 (x.v.b : Int), .int .u64 (x.v.c : Int), .slice x.A x.v.pre.length x.c, .slice x.B x.v.build.length x.d, .slice x.L x.n x.e] 28)) w.heap.size x) := RAt.new w _ x
 have HR1 := Lib.hid (hr1.kept HB.out)
 have HR2 := Lib.hid (hr2.kept HB.out)
 have HF := Lib.hid hf
 clear hr1 hr2 hf
 unfold RV.agg
 generalize hR : fits x.kind x.v x.n = R
 have HR := Lib.hid hR
 clear hR
 go_enter Tryz.func77, Tryz.ntmps77
 go_upto_region 1 with (fail)
 generalize w.alloc (.cells #[.int .i64 x.kind, .int .u64 (x.v.a : Int), .int .u64 (x.v.b : Int), .int .u64 (x.v.c : Int), .slice x.A x.v.pre.length x.c, .slice x.B x.v.build.length x.d, .slice x.L x.n x.e] 28) = W at HB HRA HR1 HR2 ⊢
 obtain ⟨y1, y2, c0, c1, c2, c3, c4, c5, c6⟩ := HRA.out
 cases hov : ofVersion x.kind with
 | true =>
  have HOV := Lib.hid hov
  have HE : Hid (R = (goodV x.v && decide (x.n = 0))) := by unfold Hid; rw [← HR.out]; exact fits_ver hov
  clear hov HR
  go_wp2_with fail
  refine (ofVersion_any x.kind W).mono ?_
  rintro e w' ⟨rfl, rfl⟩
  rw [HOV.out]
  go_wp2_with fail
  refine (vgood_any x.v x.A x.c x.B x.d w' HR1.out HR2.out HF.out.pre HF.out.build HF.out.pres HF.out.builds).mono ?_
  rintro e W2 ⟨rfl, hb⟩
  have HB2 := Lib.hid (HB.out.trans (hb.mono HB.out.size))
  have HRA2 := Lib.hid (HRA.out.kept hb HRA.out.1)
  clear hb y1 y2 c0 c1 c2 c3 c4 c5 c6
  obtain ⟨y1, y2, c0, c1, c2, c3, c4, c5, c6⟩ := HRA2.out
  cases hgv : goodV x.v with
  | true =>
   by_cases hn : x.n = 0
   ·obtain rfl : R = true := by rw [HE.out, hgv, hn]; rfl
    rw [hn] at c6
    clear HE hgv hn
    go_wp2; go_ret
    exact ⟨rfl, HB2.out⟩
   ·obtain rfl : R = false := by rw [HE.out, decide_eq_false hn, Bool.and_false]
    have q0 : ((x.n : Int) == 0) = false := beq_eq_false_iff_ne.2 (by omega)
    clear hn HE hgv
    go_wp2; go_ret
    exact ⟨rfl, HB2.out⟩
  | false =>
   obtain rfl : R = false := by rw [HE.out, hgv]; rfl
   clear HE hgv
   go_wp2; go_ret
   exact ⟨rfl, HB2.out⟩
 | false =>
  have HOV := Lib.hid hov
  have HE1 : Hid (sameV x.v noVer = false → R = false) := fun h => by rw [← HR.out]; exact fits_un hov h
  have HE2 : Hid (sameV x.v noVer = true → R = if x.kind = 0 then decide (x.n = 0) else if x.kind = 9 ∨ x.kind = 10 then decide (2 ≤ x.n) else if x.kind = 11 then decide (x.n = 1) else false) := fun h => by rw [← HR.out]; exact fits_zero hov h
  clear hov HR
  go_wp2_with fail
  refine (ofVersion_any x.kind W).mono ?_
  rintro e w' ⟨rfl, rfl⟩
  rw [HOV.out]
  go_wp2_with fail
  refine (same_parts x.A x.v.pre.length x.c x.v.pre x.B x.v.build.length x.d x.v.build none 0 0 [] none 0 0 [] x.v.a x.v.b x.v.c 0 0 0 w' HR1.out HR2.out (srow_none _ _) (srow_none _ _) HF.out.pre HF.out.build (Nat.zero_le _) (Nat.zero_le _)).mono ?_
  rintro e W2 ⟨rfl, hb⟩
  have HB2 := Lib.hid (HB.out.trans (hb.mono HB.out.size))
  have HRA2 := Lib.hid (HRA.out.kept hb HRA.out.1)
  clear hb y1 y2 c0 c1 c2 c3 c4 c5 c6
  obtain ⟨y1, y2, c0, c1, c2, c3, c4, c5, c6⟩ := HRA2.out
  have HS : Hid (sameV ⟨x.v.a, x.v.b, x.v.c, x.v.pre, x.v.build⟩ ⟨0, 0, 0, [], []⟩ = sameV x.v noVer) := rfl
  rw [HS.out]
  cases hsv : sameV x.v noVer with
  | false =>
   obtain rfl := HE1.out hsv
   clear hsv HE1 HE2
   go_wp2; go_ret
   exact ⟨rfl, HB2.out⟩
  | true =>
   have hE := HE2.out hsv
   clear hsv HE1 HE2 HOV HS
   by_cases k0 : x.kind = 0
   ·rw [if_pos k0] at hE
    rw [k0] at c0
    clear k0
    by_cases hn : x.n = 0
    ·obtain rfl : R = true := by rw [hE, decide_eq_true hn]
     rw [hn] at c6
     clear hE hn
     go_wp2; go_ret
     exact ⟨rfl, HB2.out⟩
    ·have q0 : ((x.n : Int) == 0) = false := beq_eq_false_iff_ne.2 (by omega)
     obtain rfl : R = false := by rw [hE, decide_eq_false hn]
     clear hn hE
     go_wp2; go_ret
     exact ⟨rfl, HB2.out⟩
   ·rw [if_neg k0] at hE
    by_cases k9 : x.kind = 9 ∨ x.kind = 10
    ·rw [if_pos k9] at hE
     by_cases hn : 2 ≤ x.n
     ·have hn2 : (2 : Int) ≤ (x.n : Int) := by omega
      obtain rfl : R = true := by rw [hE, decide_eq_true hn]
      clear hn k0 hE
      rcases k9 with k9 | k9 <;> rw [k9] at c0 <;> clear k9 <;> go_wp2 <;> go_ret <;> exact ⟨rfl, HB2.out⟩
     ·have q2 : decide ((2 : Int) ≤ (x.n : Int)) = false := decide_eq_false (by omega)
      obtain rfl : R = false := by rw [hE, decide_eq_false hn]
      clear hn k0 hE
      rcases k9 with k9 | k9 <;> rw [k9] at c0 <;> clear k9 <;> go_wp2 <;> go_ret <;> exact ⟨rfl, HB2.out⟩
    ·rw [if_neg k9] at hE
     by_cases k11 : x.kind = 11
     ·rw [if_pos k11] at hE
      rw [k11] at c0
      clear k11 k0 k9
      by_cases hn : x.n = 1
      ·obtain rfl : R = true := by rw [hE, decide_eq_true hn]
       rw [hn] at c6
       clear hE hn
       go_wp2; go_ret
       exact ⟨rfl, HB2.out⟩
      ·have q1 : ((x.n : Int) == 1) = false := beq_eq_false_iff_ne.2 (by omega)
       obtain rfl : R = false := by rw [hE, decide_eq_false hn]
       clear hn hE
       go_wp2; go_ret
       exact ⟨rfl, HB2.out⟩
     ·rw [if_neg k11] at hE
      obtain rfl := hE
      have n9 : ¬ x.kind = 9 := fun h => k9 (.inl h)
      have n10 : ¬ x.kind = 10 := fun h => k9 (.inr h)
      have q9 : (x.kind == 9) = false := by simp [n9]
      have q10 : (x.kind == 10) = false := by simp [n10]
      clear k9
      go_wp2; go_ret
      exact ⟨rfl, HB2.out⟩
theorem goodL_at {o : Int} {l : List Rng} {d : Nat} : goodL o l d = true ↔ ∀ j, j < l.length → goodR (l.getD j noRng) (d + opens o (l.getD j noRng).kind) = true := by
 induction l with
 | nil => exact ⟨fun _ j hj => by simp at hj, fun _ => rfl⟩
 | cons y l ih =>
  rw [goodL_cons, Bool.and_eq_true, ih]
  constructor
  ·rintro ⟨h1, h2⟩ j hj
   cases j with
   | zero => exact h1
   | succ j => exact h2 j (by simpa using hj)
  ·intro h
   exact ⟨h 0 (by simp), fun j hj => h (j + 1) (by simpa using hj)⟩
theorem goodL_no {o : Int} {l : List Rng} {d j : Nat} (hj : j < l.length) (h : goodR (l.getD j noRng) (d + opens o (l.getD j noRng).kind) = false) : goodL o l d = false := by
 rw [← Bool.not_eq_true, goodL_at]
 intro k
 rw [k j hj] at h; cases h
inductive LenOk : Rng → Prop
 | mk (k : Int) (v : Ver) (l : List Rng) (h : l.length ≤ 9223372036854775807) (hl : ∀ y ∈ l, LenOk y) : LenOk (.mk k v l)
theorem LenOk.here {r : Rng} (h : LenOk r) : r.subs.length ≤ 9223372036854775807 := by cases h with | mk k v l h _ => exact h
theorem LenOk.sub {r y : Rng} (h : LenOk r) (hy : y ∈ r.subs) : LenOk y := by cases h with | mk k v l _ hl => exact hl y hy
theorem LenOk.of_wt : ∀ (m : Nat) (r : Rng), wt r ≤ m → m ≤ 9223372036854775807 → LenOk r
 | 0, r, h, _ => by rw [wt_eq] at h; omega
 | m + 1, r, h, hM => by
  obtain ⟨k, v, l⟩ := r
  rw [wt_eq] at h
  have h2 : wtL l ≤ m := by have : wtL (Rng.mk k v l).subs = wtL l := rfl; omega
  exact .mk k v l (by have := wtL_len l; omega) fun y hy => LenOk.of_wt m y (Nat.le_trans (wt_mem hy) h2) (by omega)
theorem opens_two (a b : Int) : opens a b ≤ 2 := by unfold opens; split <;> split <;> omega
theorem good_full : ∀ (m : Nat) (r : Rng) (x : RV) (B d : Nat) (w : World), wt r ≤ m → LenOk r → Lies w (LtB B) r x → B ≤ w.heap.size → d ≤ 70 →
  Calls Tryz.prog 42 #[x.agg, .int .i64 (d : Int)] w fun e w' => e = .returned (.bool (goodR r d)) ∧ Below w.heap.size w w'
 | 0, r, x, B, d, w, hm, _, hx, hB, hg => by rw [wt_eq] at hm; omega
 | m + 1, r, x, B, d, w, hm, hM, hx, hB, hdd => by
  have IH := Lib.hid (fun r x d w => good_full m r x B d w)
  have hs := hx.says
  obtain ⟨f, hln, _, _⟩ := hs.subs
  have HFits := Lib.hid (fun W (hb : Below w.heap.size w W) => fits_full x W (hs.pre.kept hb) (hs.build.kept hb) hs.fit)
  have HB : Hid (Below w.heap.size w (w.alloc (.cells #[.int .i64 x.kind, .int .u64 (x.v.a : Int), .int .u64 (x.v.b : Int), .int .u64 (x.v.c : Int), .slice x.A x.v.pre.length x.c, .slice x.B x.v.build.length x.d, .slice x.L x.n x.e] 28))) := (Below.refl _ _).alloc (Nat.le_refl _) _
  have HRA : Hid (RAt (w.alloc (.cells #[.int .i64 x.kind, .int .u64 (x.v.a : Int), .int .u64 (x.v.b : Int), .int .u64 (x.v.c : Int), .slice x.A x.v.pre.length x.c, .slice x.B x.v.build.length x.d, .slice x.L x.n x.e] 28)) w.heap.size x) := RAt.new w _ x
  have HL := Lib.hid (hx.keep (KeepS.of_below (S := LtB B) HB.out))
  have HG : Hid (goodR r d = (decide (d ≤ 64) && fits x.kind x.v x.n && goodL x.kind r.subs d)) := by
   have e1 := hs.kind
   have e2 := hs.ver
   rw [← e1, ← e2, ← hln]
   obtain ⟨k, v, l⟩ := r
   exact goodR_eq k v l d
  rw [wt_eq] at hm
  have hxn : x.n ≤ 9223372036854775807 := by rw [← hln]; exact hM.here
  have HLO := Lib.hid hM
  have HLN := Lib.hid hln
  clear hs hx hln hM
  unfold RV.agg
  generalize hR : goodR r d = R
  replace HG : Hid (R = (decide (d ≤ 64) && fits x.kind x.v x.n && goodL x.kind r.subs d)) := hR.symm.trans HG.out
  clear hR
  go_enter Tryz.func42, Tryz.ntmps42
  go_upto_region 1 with (fail)
  generalize w.alloc (.cells #[.int .i64 x.kind, .int .u64 (x.v.a : Int), .int .u64 (x.v.b : Int), .int .u64 (x.v.c : Int), .slice x.A x.v.pre.length x.c, .slice x.B x.v.build.length x.d, .slice x.L x.n x.e] 28) = W at HB HRA HL ⊢
  obtain ⟨y1, y2, c0, c1, c2, c3, c4, c5, c6⟩ := HRA.out
  by_cases hd : ¬ d ≤ 64
  ·have hd64 : (64 : Int) < (d : Int) := by omega
   obtain rfl : R = false := by rw [HG.out, decide_eq_false hd, Bool.false_and, Bool.false_and]
   clear hd HG
   go_wp2; go_ret
   exact ⟨rfl, HB.out⟩
  replace hd := Classical.not_not.1 hd
  have hd64 : ¬ (64 : Int) < (d : Int) := by omega
  replace HG : Hid (R = (fits x.kind x.v x.n && goodL x.kind r.subs d)) := by unfold Hid; rw [HG.out, decide_eq_true hd, Bool.true_and]
  go_wp2_with fail
  refine (HFits.out W HB.out).mono ?_
  rintro e W2 ⟨rfl, hb⟩
  have HB2 := Lib.hid (HB.out.trans (hb.mono HB.out.size))
  have HRA2 := Lib.hid (HRA.out.kept hb HRA.out.1)
  have HL2 := Lib.hid (HL.out.keep (KeepS.of_below (S := LtB B) hb))
  have hB2 : B ≤ W2.heap.size := Nat.le_trans hB HB2.out.size
  clear hb y1 y2 c0 c1 c2 c3 c4 c5 c6 HB HRA HL HFits
  obtain ⟨y1, y2, c0, c1, c2, c3, c4, c5, c6⟩ := HRA2.out
  cases hfi : fits x.kind x.v x.n
  ·obtain rfl : R = false := by rw [HG.out, hfi]; rfl
   clear HG hfi
   go_wp2; go_ret
   exact ⟨rfl, HB2.out⟩
  replace HG : Hid (R = goodL x.kind r.subs d) := by unfold Hid; rw [HG.out, hfi, Bool.true_and]
  clear hfi
  go_wp2
  go_loopw [4, 6, 17] (fun rv _ iv W' => rv = .bool false ∧ ∃ k : Nat, k ≤ x.n ∧ iv = .int .i64 (k : Int) ∧ Hid (Below W2.heap.size W2 W') ∧ Hid (∀ j, j < k → goodR (r.subs.getD j noRng) (d + opens x.kind (r.subs.getD j noRng).kind) = true)) (fun _ _ iv _ => x.n - (intOf iv).toNat)
  case atStart => exact ⟨rfl, 0, Nat.zero_le _, rfl, Below.refl _ _, fun j hj => absurd hj (Nat.not_lt_zero j)⟩
  case round =>
   obtain ⟨rfl, k, hk, rfl, HB3, HQ⟩ := hrel
   by_cases hlt : k < x.n
   ·obtain ⟨b, o, c, hLe, hSb, hcl, hcy⟩ := HL2.out.says.subs.one hlt
    have hll : k < r.subs.length := by rw [HLN.out]; exact hlt
    have hmem : r.subs.getD k noRng ∈ r.subs := by
     rw [List.getD_eq_getElem?_getD, List.getElem?_eq_getElem (by omega)]; exact List.getElem_mem _
    have hwt : wt (r.subs.getD k noRng) ≤ m := by have := wt_mem hmem; omega
    have ho2 := opens_two x.kind c.kind
    have hoi : IntKind.i64.wrap ((d : Int) + (opens x.kind c.kind : Int)) = ((d + opens x.kind c.kind : Nat) : Int) := by rw [IntKind.wrap_i64] <;> omega
    have hqe : goodR (r.subs.getD k noRng) (d + opens x.kind c.kind) = goodR (r.subs.getD k noRng) (d + opens x.kind (r.subs.getD k noRng).kind) := by rw [hcy.says.kind]
    have hlo := HLO.out.sub hmem
    obtain ⟨q, hq⟩ : ∃ q, q = r.subs.getD k noRng := ⟨_, rfl⟩
    rw [← hq] at hcy hwt hlo
    have hqe : goodR q (d + opens x.kind c.kind) = goodR (r.subs.getD k noRng) (d + opens x.kind (r.subs.getD k noRng).kind) := by rw [hq]; exact hqe
    clear hq
    have hcw := (hcl.keep (KeepS.of_below (S := LtB B) HB3.out) hSb).cells
    obtain ⟨e0, e1, e2, e3, e4, e5, e6⟩ := hcw
    have HBA : Hid (Below W2.heap.size W2 ((wr.alloc (.cells #[.int .i64 c.kind, .int .u64 (c.v.a : Int), .int .u64 (c.v.b : Int), .int .u64 (c.v.c : Int), .slice c.A c.v.pre.length c.c, .slice c.B c.v.build.length c.d, .slice c.L c.n c.e] 28)).drew)) := (HB3.out.alloc HB3.out.size _).drew
    have HXd : Hid (RAt ((wr.alloc (.cells #[.int .i64 c.kind, .int .u64 (c.v.a : Int), .int .u64 (c.v.b : Int), .int .u64 (c.v.c : Int), .slice c.A c.v.pre.length c.c, .slice c.B c.v.build.length c.d, .slice c.L c.n c.e] 28)).drew) w.heap.size x) := HRA2.out.kept HBA.out HRA2.out.1
    have HCd : Hid (RAt ((wr.alloc (.cells #[.int .i64 c.kind, .int .u64 (c.v.a : Int), .int .u64 (c.v.b : Int), .int .u64 (c.v.c : Int), .slice c.A c.v.pre.length c.c, .slice c.B c.v.build.length c.d, .slice c.L c.n c.e] 28)).drew) wr.heap.size c) := by have h := RAt.new wr 28 c; exact h
    have HLc : Hid (Lies ((wr.alloc (.cells #[.int .i64 c.kind, .int .u64 (c.v.a : Int), .int .u64 (c.v.b : Int), .int .u64 (c.v.c : Int), .slice c.A c.v.pre.length c.c, .slice c.B c.v.build.length c.d, .slice c.L c.n c.e] 28)).drew) (LtB B) q c) := hcy.keep (KeepS.of_below (S := LtB B) HBA.out)
    have hBA : B ≤ ((wr.alloc (.cells #[.int .i64 c.kind, .int .u64 (c.v.a : Int), .int .u64 (c.v.b : Int), .int .u64 (c.v.c : Int), .slice c.A c.v.pre.length c.c, .slice c.B c.v.build.length c.d, .slice c.L c.n c.e] 28)).drew).heap.size := Nat.le_trans hB2 HBA.out.size
    have HQE := Lib.hid hqe
    rw [hLe]
    clear hcl hcy hmem hqe
    go_upto_region 6 with (fail)
    clear e0 e1 e2 e3 e4 e5 e6 c0 c1 c2 c3 c4 c5 c6
    have hqe := HQE.out
    refine wp_region_held_drew (S := fun w' => RAt w' w.heap.size x ∧ RAt w' wr.heap.size c) (by kernel_rfl) ⟨HXd.out, HCd.out⟩ (fun hHeld => ?_)
    refine tk 0 rfl (.agg #[.int .i64 c.kind, .int .u64 (c.v.a : Int), .int .u64 (c.v.b : Int), .int .u64 (c.v.c : Int), .slice c.A c.v.pre.length c.c, .slice c.B c.v.build.length c.d, .slice c.L c.n c.e]) ?_ fun w' hS' => by obtain ⟨y1, y2, c0, c1, c2, c3, c4, c5, c6⟩ := hS'.2; go_simp
    refine tk 1 rfl (.int .i64 (d : Int)) ?_
    refine tk 2 rfl (.pointer (some ⟨w.heap.size, 0, none⟩)) ?_
    refine tk 3 rfl (.int .i64 x.kind) ?_ fun w' hS' => by obtain ⟨y1, y2, c0, c1, c2, c3, c4, c5, c6⟩ := hS'.1; go_simp
    refine tk 4 rfl (.pointer (some ⟨wr.heap.size, 0, none⟩)) ?_
    refine tk 5 rfl (.int .i64 c.kind) ?_ fun w' hS' => by obtain ⟨y1, y2, c0, c1, c2, c3, c4, c5, c6⟩ := hS'.2; go_simp
    refine cl 6 rfl fun K hK => ?_
    go_simp
    refine (opens_any x.kind c.kind _).mono ?_
    rintro e wg1 ⟨rfl, rfl⟩
    have hb := True.intro
    clear hb hHeld
    refine hK.out _ _ ⟨HXd.out, HCd.out⟩ (fun hHeld => ?_)
    clear hK K
    try simp only [Act.put, p1, p2, p3]
    refine tk 7 rfl (.int .i64 ((d + opens x.kind c.kind : Nat) : Int)) ?_
    refine cl 8 rfl fun K hK => ?_
    go_simp
    refine (IH.out q c (d + opens x.kind c.kind) _ hwt hlo HLc.out hBA (by omega)).mono ?_
    rintro e wg2 ⟨rfl, hb⟩
    have hbk := hb
    have HB5 := Lib.hid (HBA.out.trans (hb.mono HBA.out.size))
    clear hb hHeld
    refine hK.out _ _ ⟨HXd.out.kept hbk HXd.out.1, HCd.out.kept hbk HCd.out.1⟩ (fun hHeld => ?_)
    clear hK K
    try simp only [Act.put, p1, p2, p3]
    refine tk 9 rfl (.bool (!goodR q (d + opens x.kind c.kind))) ?_
    refine wpAnyH_done (by kernel_rfl) ?_ _
    cases hqb : goodR q (d + opens x.kind c.kind)
    ·obtain rfl : R = false := HG.out.trans (goodL_no (by omega) (hqe.symm.trans hqb))
     clear HQ HG
     go_wp2
     go_ret
     exact ⟨rfl, HB2.out.trans (HB5.out.mono HB2.out.size)⟩
    ·go_wp2
     exact ⟨⟨rfl, k + 1, by omega, by go_num, HB5.out, fun j hj => by
      by_cases hjk : j = k
      ·subst hjk; exact hqe.symm.trans hqb
      ·exact HQ.out j (by omega)⟩, by simp [intOf]; omega⟩

   ·obtain rfl : k = x.n := by omega
    clear c0 c1 c2 c3 c4 c5 c6
    have HA := Lib.hid (goodL_at.2 fun j hj => HQ.out j (by rw [← HLN.out]; exact hj))
    obtain rfl : R = true := HG.out.trans HA.out
    clear HG
    go_wp2
    go_ret
    exact ⟨rfl, HB2.out.trans (HB3.out.mono HB2.out.size)⟩
theorem goodIs_any (r : Rng) (x : RV) (B : Nat) (w : World) (hm : LenOk r) (hx : Lies w (LtB B) r x) (hB : B ≤ w.heap.size) :
  Calls Tryz.prog 21 #[x.agg] w fun e w' => e = .returned (.bool (goodR r 0)) ∧ Below w.heap.size w w' := by
 have HB : Hid (Below w.heap.size w (w.alloc (.cells #[.int .i64 x.kind, .int .u64 (x.v.a : Int), .int .u64 (x.v.b : Int), .int .u64 (x.v.c : Int), .slice x.A x.v.pre.length x.c, .slice x.B x.v.build.length x.d, .slice x.L x.n x.e] 28))) := (Below.refl _ _).alloc (Nat.le_refl _) _
 have HRA : Hid (RAt (w.alloc (.cells #[.int .i64 x.kind, .int .u64 (x.v.a : Int), .int .u64 (x.v.b : Int), .int .u64 (x.v.c : Int), .slice x.A x.v.pre.length x.c, .slice x.B x.v.build.length x.d, .slice x.L x.n x.e] 28)) w.heap.size x) := RAt.new w _ x
 have HL := Lib.hid (hx.keep (KeepS.of_below (S := LtB B) HB.out))
 have HG := Lib.hid (fun W h1 h2 => good_full (wt r) r x B 0 W (Nat.le_refl _) hm h1 h2 (by omega))
 have hB2 : B ≤ (w.alloc (.cells #[.int .i64 x.kind, .int .u64 (x.v.a : Int), .int .u64 (x.v.b : Int), .int .u64 (x.v.c : Int), .slice x.A x.v.pre.length x.c, .slice x.B x.v.build.length x.d, .slice x.L x.n x.e] 28)).heap.size := Nat.le_trans hB HB.out.size
 clear hx
 unfold RV.agg
 go_enter Tryz.func21, Tryz.ntmps21
 go_upto_region 1 with (fail)
 generalize w.alloc (.cells #[.int .i64 x.kind, .int .u64 (x.v.a : Int), .int .u64 (x.v.b : Int), .int .u64 (x.v.c : Int), .slice x.A x.v.pre.length x.c, .slice x.B x.v.build.length x.d, .slice x.L x.n x.e] 28) = W at HB HRA HL hB2 ⊢
 obtain ⟨y1, y2, c0, c1, c2, c3, c4, c5, c6⟩ := HRA.out
 go_wp2_with fail
 refine (HG.out W HL.out hB2).mono ?_
 rintro e W2 ⟨rfl, hb⟩
 have HB2 := Lib.hid (HB.out.trans (hb.mono HB.out.size))
 clear hb
 go_wp2
 go_ret
 exact ⟨rfl, HB2.out⟩
end Go.Proofs.YtgfbflnhjpbceaaGreatDoor.Range
namespace Go.Proofs.YtgfbflnhjpbceaaGreatDoor.Prec
open Go.RowKit Num Ident Semver

structure Ordr {T : Type} (f : T → T → Int) : Prop where
 flip : ∀ x y, f y x = 0 - f x y
 trans : ∀ x y z, f x y ≤ 0 → f y z ≤ 0 → f x z ≤ 0
theorem Ordr.self {T : Type} {f : T → T → Int} (h : Ordr f) (x : T) : f x x = 0 := by have := h.flip x x; omega
def lex {T : Type} (f g : T → T → Int) (x y : T) : Int := if f x y = 0 then g x y else f x y
theorem lex_no {T : Type} {f g : T → T → Int} {x y : T} (h : f x y ≠ 0) : lex f g x y = f x y := by unfold lex; rw [if_neg h]
theorem lex_yes {T : Type} {f g : T → T → Int} {x y : T} (h : f x y = 0) : lex f g x y = g x y := by unfold lex; rw [if_pos h]
theorem Ordr.lex {T : Type} {f g : T → T → Int} (hf : Ordr f) (hg : Ordr g) : Ordr (lex f g) := by
 refine ⟨fun x y => ?_, fun x y z h1 h2 => ?_⟩
 ·have e := hf.flip x y
  by_cases h : f x y = 0
  ·rw [lex_yes h, lex_yes (by omega)]; exact hg.flip x y
  ·rw [lex_no h, lex_no (by omega)]; exact e
 ·have a1 : f x y ≤ 0 := by
   by_cases h : f x y = 0
   ·omega
   ·rw [lex_no h] at h1; exact h1
  have a2 : f y z ≤ 0 := by
   by_cases h : f y z = 0
   ·omega
   ·rw [lex_no h] at h2; exact h2
  have a3 := hf.trans x y z a1 a2
  by_cases h : f x z = 0
  ·have e1 := hf.flip x z
   have e2 := hf.flip x y
   have e3 := hf.flip y z
   have b1 := hf.trans z x y (by omega) a1
   have b2 := hf.trans y z x a2 (by omega)
   rw [lex_yes h]
   rw [lex_yes (show f x y = 0 by omega)] at h1
   rw [lex_yes (show f y z = 0 by omega)] at h2
   exact hg.trans x y z h1 h2
  ·rw [lex_no h]; exact a3
theorem Ordr.on {T U : Type} {f : T → T → Int} (h : Ordr f) (k : U → T) : Ordr fun x y => f (k x) (k y) := ⟨fun _ _ => h.flip _ _, fun _ _ _ => h.trans _ _ _⟩

theorem ordN_ordr : Ordr ordN := by
 refine ⟨fun x y => ordN_flip x y, fun x y z h1 h2 => ?_⟩
 rcases ordN_cases x y with ⟨a, b⟩ | ⟨a, b⟩ | ⟨a, b⟩ <;> rcases ordN_cases y z with ⟨c, d⟩ | ⟨c, d⟩ | ⟨c, d⟩ <;> rcases ordN_cases x z with ⟨e, f⟩ | ⟨e, f⟩ | ⟨e, f⟩ <;> omega
theorem bytes_flip : ∀ a b : List UInt8, Lib.compareBytes b a = 0 - Lib.compareBytes a b
 | [], [] => rfl
 | [], _ :: _ => rfl
 | _ :: _, [] => rfl
 | x :: a, y :: b => by
  unfold Lib.compareBytes
  simp only [UInt8.lt_iff_toNat_lt]
  by_cases h1 : x.toNat < y.toNat
  ·rw [if_pos h1, if_neg (show ¬ y.toNat < x.toNat by omega), if_pos h1]; rfl
  ·by_cases h2 : y.toNat < x.toNat
   ·rw [if_pos h2, if_neg h1, if_pos h2]; rfl
   ·rw [if_neg h2, if_neg h1, if_neg h1, if_neg h2]; exact bytes_flip a b
theorem cmpId_flip (a b : List UInt8) : cmpId b a = 0 - cmpId a b := by
 unfold cmpId
 by_cases ha : numeric a = true
 ·by_cases hb : numeric b = true
  ·have e1 := ordN_flip (val a) (val b)
   have e2 := ordN_flip a.length b.length
   simp only [if_pos ha, if_pos hb]
   by_cases h : ordN (val a) (val b) = 0
   ·rw [if_pos h, if_pos (by omega)]; exact e2
   ·rw [if_neg h, if_neg (by omega)]; exact e1
  ·simp only [if_pos ha, if_neg hb]; rfl
 ·by_cases hb : numeric b = true
  ·simp only [if_neg ha, if_pos hb]; rfl
  ·simp only [if_neg ha, if_neg hb]; exact bytes_flip a b

theorem rows_flip : ∀ r s : List (List UInt8), cmpRows s r = 0 - cmpRows r s
 | [], s => by rw [cmpRows_nil, cmpRows_nil']; exact ordN_flip 0 s.length
 | a :: r, [] => by rw [cmpRows_nil, cmpRows_nil']; exact ordN_flip _ 0
 | a :: r, b :: s => by
  have e := cmpId_flip a b
  by_cases h : cmpId a b = 0
  ·rw [cmpRows_same h, cmpRows_same (by omega)]; exact rows_flip r s
  ·rw [cmpRows_diff h, cmpRows_diff (by omega)]; exact e
theorem rows_nil_le (s : List (List UInt8)) : cmpRows [] s ≤ 0 := by
 rw [cmpRows_nil]; rcases ordN_cases 0 s.length with h | h | h <;> omega
theorem rows_trans : ∀ r s t : List (List UInt8), cmpRows r s ≤ 0 → cmpRows s t ≤ 0 → cmpRows r t ≤ 0
 | [], _, t, _, _ => rows_nil_le t
 | a :: r, [], _, h, _ => by
  rw [cmpRows_nil'] at h
  rcases ordN_cases (a :: r).length 0 with h2 | h2 | h2
  ·exact absurd h2.1 (by simp)
  ·exact absurd h2.1 (by simp)
  ·omega
 | a :: r, b :: s, [], _, h => by
  rw [cmpRows_nil'] at h
  rcases ordN_cases (b :: s).length 0 with h2 | h2 | h2
  ·exact absurd h2.1 (by simp)
  ·exact absurd h2.1 (by simp)
  ·omega
 | a :: r, b :: s, c :: t, h1, h2 => by
  have a1 : cmpId a b ≤ 0 := by
   by_cases h : cmpId a b = 0
   ·omega
   ·rw [cmpRows_diff h] at h1; exact h1
  have a2 : cmpId b c ≤ 0 := by
   by_cases h : cmpId b c = 0
   ·omega
   ·rw [cmpRows_diff h] at h2; exact h2
  have a3 := cmpId_trans a b c a1 a2
  by_cases h : cmpId a c = 0
  ·have e1 := cmpId_flip a c
   have e2 := cmpId_flip a b
   have e3 := cmpId_flip b c
   have b1 := cmpId_trans c a b (by omega) a1
   have b2 := cmpId_trans b c a a2 (by omega)
   rw [cmpRows_same h]
   rw [cmpRows_same (show cmpId a b = 0 by omega)] at h1
   rw [cmpRows_same (show cmpId b c = 0 by omega)] at h2
   exact rows_trans r s t h1 h2
  ·rw [cmpRows_diff h]; exact a3
theorem rows_ordr : Ordr cmpRows := ⟨rows_flip, rows_trans⟩

def noneN (x : List (List UInt8)) : Nat := if x.length = 0 then 1 else 0
def cmpPre : List (List UInt8) → List (List UInt8) → Int := lex (fun x y => ordN (noneN x) (noneN y)) cmpRows
theorem cmpPre_one {x y : List (List UInt8)} (h1 : x.length = 0) (h2 : y.length ≠ 0) : cmpPre x y = 1 := by
 have e : ordN (noneN x) (noneN y) = 1 := by unfold noneN; rw [if_pos h1, if_neg h2]; rfl
 unfold cmpPre; rw [lex_no (by rw [e]; omega)]; exact e
theorem cmpPre_two {x y : List (List UInt8)} (h1 : x.length ≠ 0) (h2 : y.length = 0) : cmpPre x y = -1 := by
 have e : ordN (noneN x) (noneN y) = -1 := by unfold noneN; rw [if_neg h1, if_pos h2]; rfl
 unfold cmpPre; rw [lex_no (by rw [e]; omega)]; exact e
theorem cmpPre_rows {x y : List (List UInt8)} (h : x.length = 0 ↔ y.length = 0) : cmpPre x y = cmpRows x y := by
 have e : ordN (noneN x) (noneN y) = 0 := by
  unfold noneN
  by_cases h1 : x.length = 0
  ·rw [if_pos h1, if_pos (h.1 h1)]; rfl
  ·rw [if_neg h1, if_neg (fun h2 => h1 (h.2 h2))]; rfl
 unfold cmpPre; exact lex_yes e
def cmpCore : Ver → Ver → Int := lex (fun u v => ordN u.a v.a) (lex (fun u v => ordN u.b v.b) fun u v => ordN u.c v.c)
theorem ordN_zero_iff (x y : Nat) : ordN x y = 0 ↔ x = y := by rcases ordN_cases x y with h | h | h <;> omega
theorem cmpCore_1 {u v : Ver} (h : u.a ≠ v.a) : cmpCore u v = ordN u.a v.a := by
 unfold cmpCore; exact lex_no (fun e => h ((ordN_zero_iff _ _).1 e))
theorem cmpCore_2 {u v : Ver} (h1 : u.a = v.a) (h : u.b ≠ v.b) : cmpCore u v = ordN u.b v.b := by
 unfold cmpCore; refine (lex_yes (f := fun u v : Ver => ordN u.a v.a) ((ordN_zero_iff _ _).2 h1)).trans ?_; exact lex_no (fun e => h ((ordN_zero_iff _ _).1 e))
theorem cmpCore_3 {u v : Ver} (h1 : u.a = v.a) (h2 : u.b = v.b) : cmpCore u v = ordN u.c v.c := by
 unfold cmpCore; refine (lex_yes (f := fun u v : Ver => ordN u.a v.a) ((ordN_zero_iff _ _).2 h1)).trans ?_; exact lex_yes ((ordN_zero_iff _ _).2 h2)
def cmpV : Ver → Ver → Int := lex cmpCore fun u v => cmpPre u.pre v.pre
theorem core_ordr : Ordr cmpCore := (ordN_ordr.on Ver.a).lex ((ordN_ordr.on Ver.b).lex (ordN_ordr.on Ver.c))
theorem pre_ordr : Ordr cmpPre := (ordN_ordr.on noneN).lex rows_ordr
theorem cmpV_ordr : Ordr cmpV := core_ordr.lex (pre_ordr.on Ver.pre)

def bare (v : Ver) : Ver := { v with build := [] }

def firstV (x y z : Nat) : Ver := ⟨x, y, z, [[48]], []⟩
def endV (x y z i : Nat) : Option Ver :=
 if i = 0 then (if 9223372036854775807 ≤ x then none else some (firstV (x + 1) 0 0))
 else if i = 1 then (if 9223372036854775807 ≤ y then none else some (firstV x (y + 1) 0))
 else if 9223372036854775807 ≤ z then none else some (firstV x y (z + 1))
def placeV (x y : Nat) : Nat := if x ≠ 0 then 0 else if y ≠ 0 then 1 else 2
def caretV (v : Ver) : Option Ver := endV v.a v.b v.c (placeV v.a v.b)
def tildeV (v : Ver) : Option Ver := endV v.a v.b v.c 1
def verOf (o : Option Ver) : Ver := o.getD noVer
theorem end_ahead {v e : Ver} {i : Nat} (h : endV v.a v.b v.c i = some e) : cmpV v e = -1 := by
 have k : cmpCore v e = -1 := by
  unfold endV at h
  split at h
  ·split at h
   ·cases h
   ·cases h
    rw [cmpCore_1 (by show v.a ≠ v.a + 1; omega)]; exact ordN_lt (Nat.lt_succ_self v.a)
  ·split at h
   ·split at h
    ·cases h
    ·cases h
     exact (cmpCore_2 (u := v) (v := firstV v.a (v.b + 1) 0) rfl (by show v.b ≠ v.b + 1; omega)).trans (ordN_lt (Nat.lt_succ_self v.b))
   ·split at h
    ·cases h
    ·cases h
     exact (cmpCore_3 (u := v) (v := firstV v.a v.b (v.c + 1)) rfl rfl).trans (ordN_lt (Nat.lt_succ_self v.c))
 unfold cmpV
 rw [lex_no (by rw [k]; omega)]; exact k
end Go.Proofs.YtgfbflnhjpbceaaGreatDoor.Prec
