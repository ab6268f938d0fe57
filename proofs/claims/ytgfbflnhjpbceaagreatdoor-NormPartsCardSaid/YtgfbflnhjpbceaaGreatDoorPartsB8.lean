/-
  The set of a right range (norm.set), what isn't in it (norm.others), the set of any range (norm.Of). Conditions: as each states. (Made by wip/gen_nmset.py.)
  Which versions a range has (norm.Has). Conditions: as each states. (Made by wip/gen_nmhas.py.)
  ferrulelaw07.great of any range. Conditions: as each states.
  Parts read one by one as long as a further one is there (rangeexpr.several), at what reads them in a reader. Conditions: the reader's block holds its bytes (at most 30000000) and a place within them; the table of ops reads as it is written; a part takes a byte at least. (Made by wip/gen_rgsev.py.)
  Parts read one by one as long as a further one is there (rangeexpr.several), at what reads them in a reader. Conditions: the reader's block holds its bytes (at most 30000000) and a place within them; the table of ops reads as it is written; a part takes a byte at least. (Made by wip/gen_rgsev.py.)
  A reader's every and expr (rangeexpr.reader: every, expr), if its one does as told. Conditions: the reader's block holds its bytes (at most 30000000) and a place within them; the table of ops reads as it is written. (Made by wip/gen_rgone.py.)
  A reader's brackets and signs of not (rangeexpr.reader: inside, bracket, not), if what reads what stands in them does as told. Conditions: the reader's block holds its bytes and a place within them; the table of ops reads as it is written; the mark stands next. (Made by wip/gen_rgone.py.)
  A reader's one, and all of the reader by how much deeper its ones may stand (rangeexpr.reader.one). Conditions: the reader's block holds its bytes (at most 30000000) and a place within them; the table of ops reads as it is written. (Made by wip/gen_rgtop.py.)
  Ranges read from any bytes at any place (rangeexpr.Parse), and from any text (rangeexpr.Read). Conditions: the slice reads as the list of bytes l, of at most 30000000; the table of ops reads as it is written. (Made by wip/gen_rgtop.py.)
  The document's example of layer 7 as plain data: what is read, its set, its plain range's text. Plain facts.
-/
import Derived.Test.YtgfbflnhjpbceaaGreatDoorPartsB7
namespace Go.Proofs.YtgfbflnhjpbceaaGreatDoor.Nrm
open Go.RowKit Num Ident Semver Prec Span
open Range (Rng noRng goodR goodL fits RV RAt RgRow LtB wt wtL wtL_len wt_mem KeepS)
set_option maxRecDepth 100000 in
set_option maxHeartbeats 1600000 in
theorem others_of (r : Rng) (x : RV) (B : Nat) (w : World) (hx : Range.Lies w (LtB B) r x) (hB : B ≤ w.heap.size) (hw : wt r ≤ 1500)
    (hset : ∀ W, Range.Lies W (LtB B) r x → B ≤ W.heap.size → Calls Tryz.prog 28 #[x.agg] W (SetIn W (3 * wt r - 1) (SetOf r))) :
    Calls Tryz.prog 60 #[x.agg] w (SetIn w (3 * wt r) (RestOf r)) := by
  have hw0 : 1 ≤ wt r := by rw [Range.wt_eq]; omega
  have HB : Hid (Below w.heap.size w (w.alloc (.cells #[.int .i64 x.kind, .int .u64 (x.v.a : Int), .int .u64 (x.v.b : Int), .int .u64 (x.v.c : Int), .slice x.A x.v.pre.length x.c, .slice x.B x.v.build.length x.d, .slice x.L x.n x.e] 28))) := (Below.refl _ _).alloc (Nat.le_refl _) _
  have HR : Hid (RAt (w.alloc (.cells #[.int .i64 x.kind, .int .u64 (x.v.a : Int), .int .u64 (x.v.b : Int), .int .u64 (x.v.c : Int), .slice x.A x.v.pre.length x.c, .slice x.B x.v.build.length x.d, .slice x.L x.n x.e] 28)) w.heap.size x) := RAt.new w _ x
  have HS := Lib.hid (hset _ (hx.keep (KeepS.of_below (S := LtB B) HB.out)) (Nat.le_trans hB HB.out.size))
  clear hx hset
  unfold RV.agg at HS ⊢
  go_enter Tryz.func60, Tryz.ntmps60
  go_upto_region 1 with (fail)
  generalize w.alloc (.cells #[.int .i64 x.kind, .int .u64 (x.v.a : Int), .int .u64 (x.v.b : Int), .int .u64 (x.v.c : Int), .slice x.A x.v.pre.length x.c, .slice x.B x.v.build.length x.d, .slice x.L x.n x.e] 28) = W at HB HR HS ⊢
  obtain ⟨y1, y2, c0, c1, c2, c3, c4, c5, c6⟩ := HR.out
  go_wp2_with fail
  refine HS.out.mono ?_
  rintro e W2 ⟨A2, m2, cc2, o2, rfl, q1, q2, q3, q4, q5, q6, hb⟩
  have HB2 := Lib.hid (HB.out.trans (hb.mono HB.out.size))
  have H1 := Lib.hid q1
  have H3 := Lib.hid q3
  clear q1 q3 q4 q5 q6 hb c0 c1 c2 c3 c4 c5 c6 y1 y2 HS
  go_wp2_with fail
  refine (not_in A2 m2 cc2 o2 _ H1.out (by omega)).mono ?_
  intro e w4 h4
  have HS : Hid (SetIn w (3 * wt r) (RestOf r) e w4) := setIn_imp (h4.mono HB2.out) (fun o ho => rest_of H3.out ho) (by omega)
  obtain ⟨A4, n4, cc4, out4, rfl, q1, q2, q3, q4, q5, q6, q7⟩ := HS.out
  clear h4
  go_wp2
  go_ret
  exact HS.out
theorem rng_eq {r : Rng} {x : RV} {w : World} {S : Nat → Prop} (hx : Range.Lies w S r x) : r = .mk x.kind x.v r.subs := by
  have hs := hx.says
  obtain ⟨k, v, l⟩ := r
  have e1 : k = x.kind := hs.kind
  have e2 : v = x.v := hs.ver
  rw [e1, e2]; rfl
set_option maxRecDepth 100000 in
set_option maxHeartbeats 3200000 in
theorem set_any : ∀ (m : Nat) (r : Rng) (x : RV) (B d : Nat) (w : World), wt r ≤ m → m ≤ 1500 → Range.Lies w (LtB B) r x → B ≤ w.heap.size → goodR r d = true →
    Calls Tryz.prog 28 #[x.agg] w (SetIn w (3 * wt r - 1) (SetOf r))
  | 0, r, x, B, d, w, hm, _, hx, hB, hg => by rw [Range.wt_eq] at hm; omega
  | m + 1, r, x, B, d, w, hm, hM, hx, hB, hg => by
    have IH := Lib.hid (fun r x d w => set_any m r x B d w)
    have hs := hx.says
    obtain ⟨hd, hgl, hln, hrk, hk⟩ := Range.right_at hx hg
    have HB : Hid (Below w.heap.size w (w.alloc (.cells #[.int .i64 x.kind, .int .u64 (x.v.a : Int), .int .u64 (x.v.b : Int), .int .u64 (x.v.c : Int), .slice x.A x.v.pre.length x.c, .slice x.B x.v.build.length x.d, .slice x.L x.n x.e] 28))) := (Below.refl _ _).alloc (Nat.le_refl _) _
    have HR : Hid (RAt (w.alloc (.cells #[.int .i64 x.kind, .int .u64 (x.v.a : Int), .int .u64 (x.v.b : Int), .int .u64 (x.v.c : Int), .slice x.A x.v.pre.length x.c, .slice x.B x.v.build.length x.d, .slice x.L x.n x.e] 28)) w.heap.size x) := RAt.new w _ x
    have HL := Lib.hid (hx.keep (KeepS.of_below (S := LtB B) HB.out))
    have HG := Lib.hid hgl
    have HRow := Lib.hid (hs.pre.kept HB.out)
    have HF : Hid (Fit x.v.pre) := ⟨hs.fit.pre, hs.fit.pres⟩
    have HE := Lib.hid (rng_eq hx)
    have HW := Lib.hid (Range.wt_eq r)
    have HLN := Lib.hid hln
    have hB1 : B ≤ (w.alloc (.cells #[.int .i64 x.kind, .int .u64 (x.v.a : Int), .int .u64 (x.v.b : Int), .int .u64 (x.v.c : Int), .slice x.A x.v.pre.length x.c, .slice x.B x.v.build.length x.d, .slice x.L x.n x.e] 28)).heap.size := Nat.le_trans hB HB.out.size
    have hwl : wtL r.subs ≤ m := by rw [Range.wt_eq] at hm; omega
    have HO : Hid (∀ q, q ∈ r.subs → ∀ (y : RV) (W : World), Range.Lies W (LtB B) q y → B ≤ W.heap.size → Calls Tryz.prog 28 #[y.agg] W (SetIn W (3 * wt q - 1) (SetOf q))) := fun q hq y W hy hBW => by
      have h1 := wt_mem hq
      exact IH.out q y (d + Range.opens r.kind q.kind) W (by omega) (by omega) hy hBW (Range.goodL_mem HG.out hq)
    clear hs hx hg hgl IH
    unfold RV.agg
    go_enter Tryz.func28, Tryz.ntmps28
    go_upto_region 1 with (fail)
    generalize w.alloc (.cells #[.int .i64 x.kind, .int .u64 (x.v.a : Int), .int .u64 (x.v.b : Int), .int .u64 (x.v.c : Int), .slice x.A x.v.pre.length x.c, .slice x.B x.v.build.length x.d, .slice x.L x.n x.e] 28) = W at HB HR HL HRow hB1 ⊢
    obtain ⟨y1, y2, c0, c1, c2, c3, c4, c5, c6⟩ := HR.out
    have hcase : ((x.kind = 0 ∨ (1 ≤ x.kind ∧ x.kind ≤ 8 ∧ goodV x.v = true)) ∧ x.n = 0) ∨ (x.kind = 9) ∨ (x.kind = 10) ∨ (x.kind = 11 ∧ x.n = 1) := by
      rcases hk with ⟨h1, h2, h3, h4⟩ | ⟨_, ⟨h1, h2⟩ | ⟨h1 | h1, h2⟩ | ⟨h1, h2⟩⟩
      · exact .inl ⟨.inr ⟨h1, h2, h3⟩, h4⟩
      · exact .inl ⟨.inl h1, h2⟩
      · exact .inr (.inl h1)
      · exact .inr (.inr (.inl h1))
      · exact .inr (.inr (.inr ⟨h1, h2⟩))
    clear hk
    rcases hcase with ⟨hk, hn⟩ | hk | hk | ⟨hk, hn⟩
    · have hs0 : r.subs = [] := List.eq_nil_of_length_eq_zero (HLN.out.trans hn)
      have HE2 : Hid (r = .mk x.kind x.v []) := by have := HE.out; rw [hs0] at this; exact this
      have hw1 : wt r = 1 := by rw [HW.out, hs0]; rfl
      have HV := Lib.hid (byVer_any x W HRow.out HF.out hk)
      have q9 : (x.kind == 9) = false := by simp; omega
      have q10 : (x.kind == 10) = false := by simp; omega
      have q11 : (x.kind == 11) = false := by simp; omega
      clear hk hn hs0
      go_wp2_with fail
      refine HV.out.mono ?_
      intro e w4 h4
      have HS : Hid (SetIn w (3 * wt r - 1) (SetOf r) e w4) := setIn_imp (h4.mono HB.out) (fun o ho => by rw [HE2.out]; exact ho) (by omega)
      obtain ⟨A4, n4, cc4, out4, rfl, q1, q2, q3, q4, q5, q6, q7⟩ := HS.out
      clear h4
      go_wp2
      go_ret
      exact HS.out
    · have hks : x.kind = 9 := hk
      have HE2 : Hid (r = .mk 9 x.v r.subs) := by have := HE.out; rw [hks] at this; exact this
      rw [hks] at c0
      have HGa := Lib.hid (gatheredO x.L x.n x.e B r.subs W HL.out.says.subs hB1 (by omega) (fun q hq y W' hy hBW => others_of q y B W' hy hBW (by have := wt_mem hq; omega) (fun W'' h1 h2 => HO.out q hq y W'' h1 h2)))
      clear hk hks
      go_wp2_with fail
      refine HGa.out.mono ?_
      rintro e W2 ⟨A2, m2, cc2, o2, rfl, q1, q2, q3, hb⟩
      have HB2 := Lib.hid (HB.out.trans (hb.mono HB.out.size))
      have H1 := Lib.hid q1
      have H3 := Lib.hid q3
      clear q1 q3 hb c0 c1 c2 c3 c4 c5 c6 y1 y2 HGa
      go_wp2_with fail
      refine (not_in A2 m2 cc2 o2 _ H1.out (by omega)).mono ?_
      intro e w4 h4
      have HS : Hid (SetIn w (3 * wt r - 1) (SetOf r) e w4) := setIn_imp (h4.mono HB2.out) (fun o ho => by rw [HE2.out]; exact set_and H3.out ho) (by rw [HW.out]; omega)
      obtain ⟨A4, n4, cc4, out4, rfl, q1, q2, q3, q4, q5, q6, q7⟩ := HS.out
      clear h4
      go_wp2
      go_ret
      exact HS.out
    · have hks : x.kind = 10 := hk
      have HE2 : Hid (r = .mk 10 x.v r.subs) := by have := HE.out; rw [hks] at this; exact this
      rw [hks] at c0
      have HGa := Lib.hid (gatheredS x.L x.n x.e B r.subs W HL.out.says.subs hB1 (by omega) (fun q hq y W' hy hBW => (HO.out q hq y W' hy hBW).mono fun _ _ h => setIn_imp h (fun _ h => h) (by omega)))
      clear hk hks
      go_wp2_with fail
      refine HGa.out.mono ?_
      rintro e W2 ⟨A2, m2, cc2, o2, rfl, q1, q2, q3, hb⟩
      have HB2 := Lib.hid (HB.out.trans (hb.mono HB.out.size))
      have H1 := Lib.hid q1
      have H3 := Lib.hid q3
      clear q1 q3 hb c0 c1 c2 c3 c4 c5 c6 y1 y2 HGa
      go_wp2_with fail
      refine (normal_in A2 m2 cc2 o2 _ H1.out (by omega)).mono ?_
      intro e w4 h4
      have HS : Hid (SetIn w (3 * wt r - 1) (SetOf r) e w4) := setIn_imp (h4.mono HB2.out) (fun o ho => by rw [HE2.out]; exact set_or H3.out ho) (by rw [HW.out]; omega)
      obtain ⟨A4, n4, cc4, out4, rfl, q1, q2, q3, q4, q5, q6, q7⟩ := HS.out
      clear h4
      go_wp2
      go_ret
      exact HS.out
    · have hks : x.kind = 11 := hk
      obtain ⟨q, hq⟩ := List.length_eq_one_iff.1 (HLN.out.trans hn)
      have HE2 : Hid (r = .mk 11 x.v [q]) := by have := HE.out; rw [hks, hq] at this; exact this
      rw [hks] at c0
      obtain ⟨b, o, y, hLe, hSb, hcl, hy⟩ := HL.out.says.subs.one (show 0 < x.n by omega)
      rw [hq] at hy
      have hmem : q ∈ r.subs := by rw [hq]; exact List.mem_singleton.2 rfl
      have hwq : wt q ≤ 1500 := by have := wt_mem hmem; omega
      have hwr : wt r = 1 + wt q := by rw [HW.out, hq]; show 1 + (wt q + 0) = _; omega
      have HOt := Lib.hid (others_of q y B W hy hB1 hwq (fun W'' h1 h2 => HO.out q hmem y W'' h1 h2))
      have hcl' := hcl
      simp only [Nat.zero_mul, Nat.add_zero] at hcl'
      obtain ⟨e0, e1, e2, e3, e4, e5, e6⟩ := hcl'.cells
      rw [hLe, hn] at c6
      clear hk hks hy hcl hcl' hmem
      go_wp2_with fail
      refine HOt.out.mono ?_
      intro e w4 h4
      have HS : Hid (SetIn w (3 * wt r - 1) (SetOf r) e w4) := setIn_imp (h4.mono HB.out) (fun o ho => by rw [HE2.out]; exact set_not ho) (by omega)
      obtain ⟨A4, n4, cc4, out4, rfl, q1, q2, q3, q4, q5, q6, q7⟩ := HS.out
      clear h4
      go_wp2
      go_ret
      exact HS.out
/-- What Of leaves: the set of a right range, else nothing. -/
def OfPost (w : World) (r : Rng) (e : Ending) (w' : World) : Prop := SetIn w (3 * wt r - 1) (fun o => if goodR r 0 = true then SetOf r o else o = []) e w'
set_option maxRecDepth 100000 in
set_option maxHeartbeats 1600000 in
theorem of_any (r : Rng) (x : RV) (B : Nat) (w : World) (hx : Range.Lies w (LtB B) r x) (hB : B ≤ w.heap.size) (hlo : Range.LenOk r) (hw : goodR r 0 = true → wt r ≤ 1500) :
    Calls Tryz.prog 10 #[x.agg] w (OfPost w r) := by
  have HB : Hid (Below w.heap.size w (w.alloc (.cells #[.int .i64 x.kind, .int .u64 (x.v.a : Int), .int .u64 (x.v.b : Int), .int .u64 (x.v.c : Int), .slice x.A x.v.pre.length x.c, .slice x.B x.v.build.length x.d, .slice x.L x.n x.e] 28))) := (Below.refl _ _).alloc (Nat.le_refl _) _
  have HR : Hid (RAt (w.alloc (.cells #[.int .i64 x.kind, .int .u64 (x.v.a : Int), .int .u64 (x.v.b : Int), .int .u64 (x.v.c : Int), .slice x.A x.v.pre.length x.c, .slice x.B x.v.build.length x.d, .slice x.L x.n x.e] 28)) w.heap.size x) := RAt.new w _ x
  have HL := Lib.hid (hx.keep (KeepS.of_below (S := LtB B) HB.out))
  have hB1 : B ≤ (w.alloc (.cells #[.int .i64 x.kind, .int .u64 (x.v.a : Int), .int .u64 (x.v.b : Int), .int .u64 (x.v.c : Int), .slice x.A x.v.pre.length x.c, .slice x.B x.v.build.length x.d, .slice x.L x.n x.e] 28)).heap.size := Nat.le_trans hB HB.out.size
  clear hx
  unfold RV.agg
  go_enter Tryz.func10, Tryz.ntmps10
  go_upto_region 1 with (fail)
  generalize w.alloc (.cells #[.int .i64 x.kind, .int .u64 (x.v.a : Int), .int .u64 (x.v.b : Int), .int .u64 (x.v.c : Int), .slice x.A x.v.pre.length x.c, .slice x.B x.v.build.length x.d, .slice x.L x.n x.e] 28) = W at HB HR HL hB1 ⊢
  obtain ⟨y1, y2, c0, c1, c2, c3, c4, c5, c6⟩ := HR.out
  go_wp2_with fail
  refine (Range.goodIs_any r x B W hlo HL.out hB1).mono ?_
  rintro e W2 ⟨rfl, hb⟩
  have HB2 := Lib.hid (HB.out.trans (hb.mono HB.out.size))
  have HR2 := Lib.hid (HR.out.kept hb HR.out.1)
  have HL2 := Lib.hid (HL.out.keep (KeepS.of_below (S := LtB B) hb))
  have hB2 : B ≤ W2.heap.size := Nat.le_trans hB1 hb.size
  clear hb y1 y2 c0 c1 c2 c3 c4 c5 c6 HB HR HL
  obtain ⟨y1, y2, c0, c1, c2, c3, c4, c5, c6⟩ := HR2.out
  cases hg : goodR r 0 with
  | true =>
    have HG := Lib.hid hg
    clear hg
    go_wp2_with fail
    refine (set_any 1500 r x B 0 W2 (hw HG.out) (Nat.le_refl _) HL2.out hB2 HG.out).mono ?_
    intro e w4 h4
    have HS : Hid (OfPost w r e w4) := by
      unfold Hid OfPost
      refine setIn_imp (h4.mono HB2.out) (fun o ho => ?_) (Nat.le_refl _)
      rw [if_pos HG.out]; exact ho
    obtain ⟨A4, n4, cc4, out4, rfl, q1, q2, q3, q4, q5, q6, q7⟩ := HS.out
    clear h4
    go_wp2
    go_ret
    exact HS.out
  | false =>
    have HG := Lib.hid hg
    clear hg
    go_wp2
    go_ret
    exact ⟨none, 0, 0, [], rfl, SpRow.none_ _ _, Nat.zero_le _, by
      show if goodR r 0 = true then SetOf r [] else ([] : List Sp) = []
      rw [HG.out]; rfl, (fun s hs => by cases hs), Nat.le_refl _, fun _ => rfl, HB2.out⟩
end Go.Proofs.YtgfbflnhjpbceaaGreatDoor.Nrm

namespace Go.Proofs.YtgfbflnhjpbceaaGreatDoor.Nrm
open Go.RowKit Num Ident Semver Prec Span
open Range (Rng noRng goodR goodL fits RV RAt RgRow LtB wt wtL wtL_len wt_mem KeepS)
/-- Is a range right, and a right version in its set? -/
def hasR (r : Rng) (v : Ver) : Bool := goodR r 0 && (goodV v && inV r v)
set_option maxRecDepth 100000 in
set_option maxHeartbeats 3200000 in
theorem has_norm (r : Rng) (x : RV) (B : Nat) (v : Ver) (VA : Option Addr) (vc : Nat) (VB : Option Addr) (vd : Nat) (w : World) (hx : Range.Lies w (LtB B) r x) (hB : B ≤ w.heap.size) (hlo : Range.LenOk r) (hw : goodR r 0 = true → wt r ≤ 1500)
    (hr1 : SRow w VA v.pre.length v.pre) (hr2 : SRow w VB v.build.length v.build) (hf : v.pre.length ≤ maxLen ∧ v.build.length ≤ maxLen ∧ (∀ x ∈ v.pre, x.length ≤ maxLen) ∧ (∀ x ∈ v.build, x.length ≤ maxLen)) :
    Calls Tryz.prog 18 #[x.agg, .agg #[.int .u64 (v.a : Int), .int .u64 (v.b : Int), .int .u64 (v.c : Int), .slice VA v.pre.length vc, .slice VB v.build.length vd]] w fun e w' => e = .returned (.bool (hasR r v)) ∧ Below w.heap.size w w' := by
  have HB : Hid (Below w.heap.size w ((w.alloc (.cells #[.int .i64 x.kind, .int .u64 (x.v.a : Int), .int .u64 (x.v.b : Int), .int .u64 (x.v.c : Int), .slice x.A x.v.pre.length x.c, .slice x.B x.v.build.length x.d, .slice x.L x.n x.e] 28)).alloc (.cells #[.int .u64 (v.a : Int), .int .u64 (v.b : Int), .int .u64 (v.c : Int), .slice VA v.pre.length vc, .slice VB v.build.length vd] 25))) := ((Below.refl _ _).alloc (Nat.le_refl _) _).alloc (by simp) _
  have HR : Hid (RAt ((w.alloc (.cells #[.int .i64 x.kind, .int .u64 (x.v.a : Int), .int .u64 (x.v.b : Int), .int .u64 (x.v.c : Int), .slice x.A x.v.pre.length x.c, .slice x.B x.v.build.length x.d, .slice x.L x.n x.e] 28)).alloc (.cells #[.int .u64 (v.a : Int), .int .u64 (v.b : Int), .int .u64 (v.c : Int), .slice VA v.pre.length vc, .slice VB v.build.length vd] 25)) w.heap.size x) := (RAt.new w 28 x).kept ((Below.refl _ _).alloc (Nat.le_refl _) _) (by simp)
  have HV5 : Hid (At5 ((w.alloc (.cells #[.int .i64 x.kind, .int .u64 (x.v.a : Int), .int .u64 (x.v.b : Int), .int .u64 (x.v.c : Int), .slice x.A x.v.pre.length x.c, .slice x.B x.v.build.length x.d, .slice x.L x.n x.e] 28)).alloc (.cells #[.int .u64 (v.a : Int), .int .u64 (v.b : Int), .int .u64 (v.c : Int), .slice VA v.pre.length vc, .slice VB v.build.length vd] 25)) (w.heap.size + 1) (.int .u64 (v.a : Int)) (.int .u64 (v.b : Int)) (.int .u64 (v.c : Int)) (.slice VA v.pre.length vc) (.slice VB v.build.length vd)) := by
    have h := At5.new (w.alloc (.cells #[.int .i64 x.kind, .int .u64 (x.v.a : Int), .int .u64 (x.v.b : Int), .int .u64 (x.v.c : Int), .slice x.A x.v.pre.length x.c, .slice x.B x.v.build.length x.d, .slice x.L x.n x.e] 28)) 25 (.int .u64 (v.a : Int)) (.int .u64 (v.b : Int)) (.int .u64 (v.c : Int)) (.slice VA v.pre.length vc) (.slice VB v.build.length vd)
    rw [size_alloc] at h; exact h
  have HL := Lib.hid (hx.keep (KeepS.of_below (S := LtB B) HB.out))
  have HRR : ∀ R, hasR r v = R → Hid (goodV v = true → R = (goodR r 0 && inV r v)) := fun R h g => by rw [← h]; unfold hasR; rw [g, Bool.true_and]
  have HRN : ∀ R, hasR r v = R → Hid (goodV v = false → R = false) := fun R h g => by rw [← h]; unfold hasR; rw [g, Bool.false_and, Bool.and_false]
  generalize hR : hasR r v = R
  replace HRR := HRR R hR
  replace HRN := HRN R hR
  clear hx hR
  unfold RV.agg
  go_enter Tryz.func18, Tryz.ntmps18
  go_upto_region 1 with (fail)
  generalize ((w.alloc (.cells #[.int .i64 x.kind, .int .u64 (x.v.a : Int), .int .u64 (x.v.b : Int), .int .u64 (x.v.c : Int), .slice x.A x.v.pre.length x.c, .slice x.B x.v.build.length x.d, .slice x.L x.n x.e] 28)).alloc (.cells #[.int .u64 (v.a : Int), .int .u64 (v.b : Int), .int .u64 (v.c : Int), .slice VA v.pre.length vc, .slice VB v.build.length vd] 25)) = W at HB HR HV5 HL ⊢
  replace HB : Hid (Below w.heap.size w W.drew) := HB.out.drew
  replace HR : Hid (RAt W.drew w.heap.size x) := HR.out
  replace HV5 : Hid (At5 W.drew (w.heap.size + 1) (.int .u64 (v.a : Int)) (.int .u64 (v.b : Int)) (.int .u64 (v.c : Int)) (.slice VA v.pre.length vc) (.slice VB v.build.length vd)) := HV5.out
  replace HL : Hid (Range.Lies W.drew (LtB B) r x) := HL.out.keep (KeepS.of_below (S := LtB B) (Below.refl _ _).drew)
  cases hg : goodV v with
  | true =>
    refine wp_region_held_drew (S := fun w' => RAt w' w.heap.size x ∧ At5 w' (w.heap.size + 1) (.int .u64 (v.a : Int)) (.int .u64 (v.b : Int)) (.int .u64 (v.c : Int)) (.slice VA v.pre.length vc) (.slice VB v.build.length vd)) (by kernel_rfl) ⟨HR.out, HV5.out⟩ (fun hHeld => ?_)
    generalize W.drew = W1 at HB HR HV5 HL hHeld ⊢
    refine wpAnyH_take (i := 0) (oi := { dst := some 5, op := Op.load 25 (Operand.tmp 3), type := 25, pos := _, after := _, guard := none }) (v := .agg #[.int .u64 (v.a : Int), .int .u64 (v.b : Int), .int .u64 (v.c : Int), .slice VA v.pre.length vc, .slice VB v.build.length vd]) rfl (by kernel_rfl) (by kernel_rfl) (by kernel_rfl) (fun _ _ _ h => h) (Or.inl ⟨by rfl, fun w' hS' => by obtain ⟨_, _, g0, g1, g2, g3, g4⟩ := hS'.2; go_simp⟩) (by assumption) ?_
    simp only [Act.put, List.setIfInBounds_toArray, List.set_cons_zero, List.set_cons_succ]
    refine wpAnyH_ready (rs := [1]) (by kernel_rfl) (by simp) ?_
    refine AllReadyH.cons (o := { dst := some 6, op := Op.call { callee := Callee.value (Operand.func 37), args := #[Operand.tmp 5], argTypes := #[25] }, type := 4, pos := _, after := _, guard := none }) rfl (fun K hK => ?_) AllReadyH.nil
    go_simp
    refine (vgood_any v VA vc VB vd _ (hr1.kept HB.out) (hr2.kept HB.out) hf.1 hf.2.1 hf.2.2.1 hf.2.2.2).mono ?_
    rintro e wm1 ⟨rfl, hb⟩
    have HB1 := Lib.hid (HB.out.trans (hb.mono HB.out.size))
    have HR1 := Lib.hid (HR.out.kept hb HR.out.1)
    have HV1 := Lib.hid (HV5.out.kept hb HV5.out.1)
    have HL1 := Lib.hid (HL.out.keep (KeepS.of_below (S := LtB B) hb))
    rw [hg]
    clear hb hHeld
    refine hK.out _ _ ⟨HR1.out, HV1.out⟩ (fun hHeld => ?_)
    clear hK K
    try simp only [Act.put, List.setIfInBounds_toArray, List.set_cons_zero, List.set_cons_succ]
    refine wpAnyH_take (i := 2) (oi := { dst := some 7, op := Op.move (Operand.tmp 6), type := 4, pos := _, after := _, guard := none }) (v := .bool true) rfl (by kernel_rfl) (by kernel_rfl) (by kernel_rfl) (fun _ _ _ h => h) (Or.inl ⟨by rfl, fun w' hS' => by go_simp⟩) (by assumption) ?_
    simp only [Act.put, List.setIfInBounds_toArray, List.set_cons_zero, List.set_cons_succ]
    refine wpAnyH_take (i := 3) (oi := { dst := some 8, op := Op.load 28 (Operand.tmp 2), type := 28, pos := _, after := _, guard := some (2, true) }) (v := .agg #[.int .i64 x.kind, .int .u64 (x.v.a : Int), .int .u64 (x.v.b : Int), .int .u64 (x.v.c : Int), .slice x.A x.v.pre.length x.c, .slice x.B x.v.build.length x.d, .slice x.L x.n x.e]) rfl (by kernel_rfl) (by kernel_rfl) (by kernel_rfl) (fun _ _ _ h => h) (Or.inl ⟨by rfl, fun w' hS' => by obtain ⟨y1, y2, c0, c1, c2, c3, c4, c5, c6⟩ := hS'.1; go_simp⟩) (by assumption) ?_
    simp only [Act.put, List.setIfInBounds_toArray, List.set_cons_zero, List.set_cons_succ]
    refine wpAnyH_take (i := 5) (oi := { dst := some 10, op := Op.load 25 (Operand.tmp 3), type := 25, pos := _, after := _, guard := some (2, true) }) (v := .agg #[.int .u64 (v.a : Int), .int .u64 (v.b : Int), .int .u64 (v.c : Int), .slice VA v.pre.length vc, .slice VB v.build.length vd]) rfl (by kernel_rfl) (by kernel_rfl) (by kernel_rfl) (fun _ _ _ h => h) (Or.inl ⟨by rfl, fun w' hS' => by obtain ⟨_, _, g0, g1, g2, g3, g4⟩ := hS'.2; go_simp⟩) (by assumption) ?_
    simp only [Act.put, List.setIfInBounds_toArray, List.set_cons_zero, List.set_cons_succ]
    refine wpAnyH_ready (rs := [4]) (by kernel_rfl) (by simp) ?_
    refine AllReadyH.cons (o := { dst := some 9, op := Op.call { callee := Callee.value (Operand.func 10), args := #[Operand.tmp 8], argTypes := #[28] }, type := 31, pos := _, after := _, guard := some (2, true) }) rfl (fun K hK => ?_) AllReadyH.nil
    go_simp
    refine (of_any r x B _ HL1.out (Nat.le_trans hB HB1.out.size) hlo hw).mono ?_
    rintro e wm2 ⟨A2, m2, cc2, o2, rfl, q1, q2, q3, q4, q5, q6, hb⟩
    have HB2 := Lib.hid (HB1.out.trans (hb.mono HB1.out.size))
    have HR2 := Lib.hid (HR1.out.kept hb HR1.out.1)
    have HV2 := Lib.hid (HV1.out.kept hb HV1.out.1)
    have HS2 := Lib.hid q1
    have hm2 : m2 ≤ 100000 := by
      revert q3
      cases hgr : goodR r 0 with
      | true => intro _; have := hw hgr; omega
      | false =>
        intro q3
        have h0 : o2.map RSp.sp = [] := q3
        have h1 : o2.length = 0 := by rw [← List.length_map (f := RSp.sp), h0]; rfl
        have := q1.1
        omega
    have HE : Hid (hasV (o2.map RSp.sp) v = R) := by
      rw [Hid, HRR.out hg]
      revert q3
      cases hgr : goodR r 0 with
      | true => intro q3; exact set_has q3 hgr hg
      | false => intro q3; rw [show o2.map RSp.sp = [] from q3]; rfl
    clear q1 q2 q3 q4 q5 q6
    clear hb hHeld
    refine hK.out _ _ ⟨HR2.out, HV2.out⟩ (fun hHeld => ?_)
    clear hK K
    try simp only [Act.put, List.setIfInBounds_toArray, List.set_cons_zero, List.set_cons_succ]
    refine wpAnyH_ready (rs := [6]) (by kernel_rfl) (by simp) ?_
    refine AllReadyH.cons (o := { dst := some 11, op := Op.call { callee := Callee.value (Operand.func 38), args := #[Operand.tmp 9, Operand.tmp 10], argTypes := #[31, 25] }, type := 4, pos := _, after := _, guard := some (2, true) }) rfl (fun K hK => ?_) AllReadyH.nil
    go_simp
    refine (has_any A2 m2 cc2 o2 v VA vc VB vd _ HS2.out hm2 (hr1.kept HB2.out) ⟨hf.1, hf.2.2.1⟩).mono ?_
    rintro e wm3 ⟨rfl, hb⟩
    have HB3 := Lib.hid (HB2.out.trans (hb.mono HB2.out.size))
    have HR3 := Lib.hid (HR2.out.kept hb HR2.out.1)
    have HV3 := Lib.hid (HV2.out.kept hb HV2.out.1)
    rw [show (o2.map RSp.sp).any (hasOne (aheadOf v) (behindOf v)) = R from HE.out]
    clear hb hHeld
    refine hK.out _ _ ⟨HR3.out, HV3.out⟩ (fun hHeld => ?_)
    clear hK K
    try simp only [Act.put, List.setIfInBounds_toArray, List.set_cons_zero, List.set_cons_succ]
    refine wpAnyH_take (i := 7) (oi := { dst := some 12, op := Op.pick (Operand.tmp 7) (Operand.tmp 11) (Operand.const (Value.bool false)), type := 4, pos := _, after := _, guard := none }) (v := .bool R) rfl (by kernel_rfl) (by kernel_rfl) (by kernel_rfl) (fun _ _ _ h => h) (Or.inl ⟨by rfl, fun w' hS' => by go_simp⟩) (by assumption) ?_
    simp only [Act.put, List.setIfInBounds_toArray, List.set_cons_zero, List.set_cons_succ]
    refine wpAnyH_take (i := 8) (oi := { dst := some 4, op := Op.assign (Operand.tmp 12), type := 4, pos := _, after := _, guard := none }) (v := .bool R) rfl (by kernel_rfl) (by kernel_rfl) (by kernel_rfl) (fun _ _ _ h => h) (Or.inl ⟨by rfl, fun w' hS' => by go_simp⟩) (by assumption) ?_
    simp only [Act.put, List.setIfInBounds_toArray, List.set_cons_zero, List.set_cons_succ]
    refine wpAnyH_done (by kernel_rfl) ?_ _
    go_wp2
    go_ret
    exact ⟨rfl, HB3.out⟩
  | false =>
    refine wp_region_held_drew (S := fun w' => RAt w' w.heap.size x ∧ At5 w' (w.heap.size + 1) (.int .u64 (v.a : Int)) (.int .u64 (v.b : Int)) (.int .u64 (v.c : Int)) (.slice VA v.pre.length vc) (.slice VB v.build.length vd)) (by kernel_rfl) ⟨HR.out, HV5.out⟩ (fun hHeld => ?_)
    generalize W.drew = W1 at HB HR HV5 HL hHeld ⊢
    refine wpAnyH_take (i := 0) (oi := { dst := some 5, op := Op.load 25 (Operand.tmp 3), type := 25, pos := _, after := _, guard := none }) (v := .agg #[.int .u64 (v.a : Int), .int .u64 (v.b : Int), .int .u64 (v.c : Int), .slice VA v.pre.length vc, .slice VB v.build.length vd]) rfl (by kernel_rfl) (by kernel_rfl) (by kernel_rfl) (fun _ _ _ h => h) (Or.inl ⟨by rfl, fun w' hS' => by obtain ⟨_, _, g0, g1, g2, g3, g4⟩ := hS'.2; go_simp⟩) (by assumption) ?_
    simp only [Act.put, List.setIfInBounds_toArray, List.set_cons_zero, List.set_cons_succ]
    refine wpAnyH_ready (rs := [1]) (by kernel_rfl) (by simp) ?_
    refine AllReadyH.cons (o := { dst := some 6, op := Op.call { callee := Callee.value (Operand.func 37), args := #[Operand.tmp 5], argTypes := #[25] }, type := 4, pos := _, after := _, guard := none }) rfl (fun K hK => ?_) AllReadyH.nil
    go_simp
    refine (vgood_any v VA vc VB vd _ (hr1.kept HB.out) (hr2.kept HB.out) hf.1 hf.2.1 hf.2.2.1 hf.2.2.2).mono ?_
    rintro e wm1 ⟨rfl, hb⟩
    have HB1 := Lib.hid (HB.out.trans (hb.mono HB.out.size))
    have HR1 := Lib.hid (HR.out.kept hb HR.out.1)
    have HV1 := Lib.hid (HV5.out.kept hb HV5.out.1)
    have HL1 := Lib.hid (HL.out.keep (KeepS.of_below (S := LtB B) hb))
    rw [hg]
    clear hb hHeld
    refine hK.out _ _ ⟨HR1.out, HV1.out⟩ (fun hHeld => ?_)
    clear hK K
    try simp only [Act.put, List.setIfInBounds_toArray, List.set_cons_zero, List.set_cons_succ]
    refine wpAnyH_take (i := 2) (oi := { dst := some 7, op := Op.move (Operand.tmp 6), type := 4, pos := _, after := _, guard := none }) (v := .bool false) rfl (by kernel_rfl) (by kernel_rfl) (by kernel_rfl) (fun _ _ _ h => h) (Or.inl ⟨by rfl, fun w' hS' => by go_simp⟩) (by assumption) ?_
    simp only [Act.put, List.setIfInBounds_toArray, List.set_cons_zero, List.set_cons_succ]
    refine wpAnyH_take (i := 3) (oi := { dst := some 8, op := Op.load 28 (Operand.tmp 2), type := 28, pos := _, after := _, guard := some (2, true) }) (v := undef) rfl (by kernel_rfl) (by kernel_rfl) (by kernel_rfl) (fun _ _ _ h => h) (Or.inr ⟨by rfl, rfl⟩) (by assumption) ?_
    simp only [Act.put, List.setIfInBounds_toArray, List.set_cons_zero, List.set_cons_succ]
    refine wpAnyH_take (i := 4) (oi := { dst := some 9, op := Op.call { callee := Callee.value (Operand.func 10), args := #[Operand.tmp 8], argTypes := #[28] }, type := 31, pos := _, after := _, guard := some (2, true) }) (v := undef) rfl (by kernel_rfl) (by kernel_rfl) (by kernel_rfl) (fun _ _ _ h => h) (Or.inr ⟨by rfl, rfl⟩) (by assumption) ?_
    simp only [Act.put, List.setIfInBounds_toArray, List.set_cons_zero, List.set_cons_succ]
    refine wpAnyH_take (i := 5) (oi := { dst := some 10, op := Op.load 25 (Operand.tmp 3), type := 25, pos := _, after := _, guard := some (2, true) }) (v := undef) rfl (by kernel_rfl) (by kernel_rfl) (by kernel_rfl) (fun _ _ _ h => h) (Or.inr ⟨by rfl, rfl⟩) (by assumption) ?_
    simp only [Act.put, List.setIfInBounds_toArray, List.set_cons_zero, List.set_cons_succ]
    refine wpAnyH_take (i := 6) (oi := { dst := some 11, op := Op.call { callee := Callee.value (Operand.func 38), args := #[Operand.tmp 9, Operand.tmp 10], argTypes := #[31, 25] }, type := 4, pos := _, after := _, guard := some (2, true) }) (v := undef) rfl (by kernel_rfl) (by kernel_rfl) (by kernel_rfl) (fun _ _ _ h => h) (Or.inr ⟨by rfl, rfl⟩) (by assumption) ?_
    simp only [Act.put, List.setIfInBounds_toArray, List.set_cons_zero, List.set_cons_succ]
    refine wpAnyH_take (i := 7) (oi := { dst := some 12, op := Op.pick (Operand.tmp 7) (Operand.tmp 11) (Operand.const (Value.bool false)), type := 4, pos := _, after := _, guard := none }) (v := .bool false) rfl (by kernel_rfl) (by kernel_rfl) (by kernel_rfl) (fun _ _ _ h => h) (Or.inl ⟨by rfl, fun w' hS' => by go_simp⟩) (by assumption) ?_
    simp only [Act.put, List.setIfInBounds_toArray, List.set_cons_zero, List.set_cons_succ]
    refine wpAnyH_take (i := 8) (oi := { dst := some 4, op := Op.assign (Operand.tmp 12), type := 4, pos := _, after := _, guard := none }) (v := .bool false) rfl (by kernel_rfl) (by kernel_rfl) (by kernel_rfl) (fun _ _ _ h => h) (Or.inl ⟨by rfl, fun w' hS' => by go_simp⟩) (by assumption) ?_
    simp only [Act.put, List.setIfInBounds_toArray, List.set_cons_zero, List.set_cons_succ]
    refine wpAnyH_done (by kernel_rfl) ?_ _
    obtain rfl : R = false := HRN.out hg
    go_wp2
    go_ret
    exact ⟨rfl, HB1.out⟩
end Go.Proofs.YtgfbflnhjpbceaaGreatDoor.Nrm

namespace Go.Proofs.YtgfbflnhjpbceaaGreatDoor.Nrm
open Go.RowKit Num Ident Semver
open Range (Rng noRng goodR goodL fits wt wtL RV RAt OpsTab Keep KeepS LtB zeroRV LenOk)
mutual
/-- how many ranges and identifiers a range has. -/
def tot : Rng → Nat
  | .mk _ v l => 1 + v.pre.length + v.build.length + totL l
def totL : List Rng → Nat
  | [] => 0
  | r :: rs => tot r + totL rs
end
theorem tot_eq (r : Rng) : tot r = 1 + r.ver.pre.length + r.ver.build.length + totL r.subs := by obtain ⟨k, v, l⟩ := r; rfl
theorem totL_take : ∀ (l : List Rng) (k : Nat), k < l.length → totL (l.take (k + 1)) = totL (l.take k) + tot (l.getD k noRng)
  | [], k, h => absurd h (Nat.not_lt_zero _)
  | r :: rs, 0, _ => by show tot r + totL (rs.take 0) = 0 + tot r; rw [List.take_zero]; show tot r + 0 = _; omega
  | r :: rs, k + 1, h => by
    show tot r + totL (rs.take (k + 1)) = tot r + totL (rs.take k) + tot (rs.getD k noRng)
    rw [totL_take rs k (by simpa using h)]; omega
theorem good_modest {r : Rng} {d : Nat} (h : goodR r d = true) : r.ver.pre.length ≤ 16 ∧ r.ver.build.length ≤ 16 := by
  obtain ⟨k, v, l⟩ := r
  rw [Range.goodR_eq, Bool.and_eq_true, Bool.and_eq_true] at h
  have h2 := h.1.2
  show v.pre.length ≤ 16 ∧ v.build.length ≤ 16
  cases ho : Range.ofVersion k with
  | true =>
    rw [Range.fits_ver ho, Bool.and_eq_true] at h2
    have h3 := h2.1
    unfold goodV at h3
    rw [Bool.and_eq_true, Bool.and_eq_true] at h3
    have a := Span.good_len true v.pre 0 (by omega) h3.2.1
    have b := Span.good_len false v.build 0 (by omega) h3.2.2
    omega
  | false =>
    cases hs : sameV v noVer with
    | false => rw [Range.fits_un ho hs] at h2; cases h2
    | true => rw [Span.sameV_none hs]; exact ⟨by decide, by decide⟩
theorem good_sub {r : Rng} {d j : Nat} (h : goodR r d = true) (hj : j < r.subs.length) : ∃ d', goodR (r.subs.getD j noRng) d' = true := by
  obtain ⟨k, v, l⟩ := r
  rw [Range.goodR_eq, Bool.and_eq_true] at h
  exact ⟨_, Range.goodL_at.1 h.2 j hj⟩
/-- what great tells of a right range. -/
def Tells (r : Rng) (most z : Int) : Prop := (∃ d, goodR r d = true) → 0 ≤ most → most ≤ 1000 → 0 ≤ z ∧ z ≤ most + 33 ∧ (z ≤ most → (tot r : Int) ≤ z)
set_option maxRecDepth 100000 in
set_option maxHeartbeats 3200000 in
theorem great_full : ∀ (m : Nat) (r : Rng) (x : RV) (B : Nat) (most : Int) (w : World), wt r ≤ m → LenOk r → Range.Lies w (LtB B) r x → B ≤ w.heap.size →
    Calls Tryz.prog 9 #[x.agg, .int .i64 most] w fun e w' => ∃ z : Int, e = .returned (.int .i64 z) ∧ Tells r most z ∧ Below w.heap.size w w'
  | 0, r, x, B, d, w, hm, _, hx, hB => by rw [Range.wt_eq] at hm; omega
  | m + 1, r, x, B, most, w, hm, hln0, hx, hB => by
    have IH := Lib.hid (fun r x most w => great_full m r x B most w)
    have hs := hx.says
    obtain ⟨f, hln, _, _⟩ := hs.subs
    have HB : Hid (Below w.heap.size w (w.alloc (.cells #[.int .i64 x.kind, .int .u64 (x.v.a : Int), .int .u64 (x.v.b : Int), .int .u64 (x.v.c : Int), .slice x.A x.v.pre.length x.c, .slice x.B x.v.build.length x.d, .slice x.L x.n x.e] 28))) := (Below.refl _ _).alloc (Nat.le_refl _) _
    have HRA : Hid (RAt (w.alloc (.cells #[.int .i64 x.kind, .int .u64 (x.v.a : Int), .int .u64 (x.v.b : Int), .int .u64 (x.v.c : Int), .slice x.A x.v.pre.length x.c, .slice x.B x.v.build.length x.d, .slice x.L x.n x.e] 28)) w.heap.size x) := RAt.new w _ x
    have HL := Lib.hid (hx.keep (KeepS.of_below (S := LtB B) HB.out))
    rw [Range.wt_eq] at hm
    have hlo := hln0.here
    have HLO := Lib.hid hln0
    have HT : Hid (tot r = 1 + x.v.pre.length + x.v.build.length + totL (r.subs.take x.n)) := by
      unfold Hid
      rw [tot_eq, ← hln, List.take_length, hs.ver]
    have HM : Hid ((∃ d, goodR r d = true) → x.v.pre.length ≤ 16 ∧ x.v.build.length ≤ 16) := fun ⟨d, h⟩ => by have := good_modest h; rw [hs.ver] at this; exact this
    have hnx : x.n ≤ 9223372036854775807 := by rw [← hln]; exact hlo
    have HLN := Lib.hid hln
    clear hs hx hln hln0 hlo
    unfold RV.agg
    go_enter Tryz.func9, Tryz.ntmps9
    go_upto_region 1 with (fail)
    generalize w.alloc (.cells #[.int .i64 x.kind, .int .u64 (x.v.a : Int), .int .u64 (x.v.b : Int), .int .u64 (x.v.c : Int), .slice x.A x.v.pre.length x.c, .slice x.B x.v.build.length x.d, .slice x.L x.n x.e] 28) = W at HB HRA HL ⊢
    obtain ⟨y1, y2, c0, c1, c2, c3, c4, c5, c6⟩ := HRA.out
    have HN0 : Hid (x.v.pre.length ≤ 16 ∧ x.v.build.length ≤ 16 → wrap64 (wrap64 (1 + (x.v.pre.length : Int)) + (x.v.build.length : Int)) = 1 + x.v.pre.length + x.v.build.length) := fun h => by unfold wrap64; omega
    go_wp2
    generalize wrap64 (wrap64 (1 + (x.v.pre.length : Int)) + (x.v.build.length : Int)) = n0 at HN0 ⊢
    generalize wrap64 (1 + (x.v.pre.length : Int)) = n1
    clear c0 c1 c2 c3 c4 c5 c6 y1 y2
    go_loopw [5, 6] (fun nv iv W' => ∃ (n : Int) (k : Nat), nv = .int .i64 n ∧ k ≤ x.n ∧ iv = .int .i64 (k : Int) ∧ Hid (Below W.heap.size W W') ∧ Hid ((∃ d, goodR r d = true) → 0 ≤ most → most ≤ 1000 → 0 ≤ n ∧ n ≤ most + 33 ∧ (n ≤ most → ((1 + x.v.pre.length + x.v.build.length + totL (r.subs.take k) : Nat) : Int) ≤ n))) (fun _ iv _ => x.n - (intOf iv).toNat)
    case atStart => exact ⟨n0, 0, rfl, Nat.zero_le _, rfl, Below.refl _ _, fun hg h0 h1 => by
      have hm := HM.out hg
      have := HN0.out hm
      refine ⟨by omega, by omega, fun _ => ?_⟩
      rw [List.take_zero]
      show ((1 + x.v.pre.length + x.v.build.length + 0 : Nat) : Int) ≤ n0
      omega⟩
    case round =>
      obtain ⟨n, k, rfl, hk, rfl, HB3, HQ⟩ := hrel
      have HR3 := Lib.hid (HRA.out.kept HB3.out HRA.out.1)
      obtain ⟨y1, y2, c0, c1, c2, c3, c4, c5, c6⟩ := HR3.out
      by_cases hlt : k < x.n
      · by_cases hnm : n ≤ most
        · obtain ⟨b, o, c, hLe, hSb, hcl, hcy⟩ := HL.out.says.subs.one hlt
          have hll : k < r.subs.length := by rw [HLN.out]; exact hlt
          have hmem : r.subs.getD k noRng ∈ r.subs := by
            rw [List.getD_eq_getElem?_getD, List.getElem?_eq_getElem (by omega)]; exact List.getElem_mem _
          have hwt : wt (r.subs.getD k noRng) ≤ m := by have := Range.wt_mem hmem; omega
          have HTK := Lib.hid (totL_take r.subs k hll)
          have HSub : Hid ((∃ d, goodR r d = true) → ∃ d, goodR (r.subs.getD k noRng) d = true) := fun ⟨d, h⟩ => good_sub h hll
          have hlo := HLO.out.sub hmem
          generalize r.subs.getD k noRng = q at hcy hwt HTK HSub hlo
          have hcw := (hcl.keep (KeepS.of_below (S := LtB B) HB3.out) hSb).cells
          obtain ⟨e0, e1, e2, e3, e4, e5, e6⟩ := hcw
          rw [hLe] at c6 ⊢
          clear hLe
          have HLc : Hid (Range.Lies wr (LtB B) q c) := hcy.keep (KeepS.of_below (S := LtB B) HB3.out)
          have hBr : B ≤ wr.heap.size := Nat.le_trans hB (Nat.le_trans HB.out.size HB3.out.size)
          clear hcl hcy hmem
          go_wp2_with fail
          refine (IH.out q c (wrap64 (most - n)) wr hwt hlo HLc.out hBr).mono ?_
          rintro e W3 ⟨z, rfl, hz, hb⟩
          have HB4 := Lib.hid (HB3.out.trans (hb.mono HB3.out.size))
          have HZ := Lib.hid hz
          clear hb hz c0 c1 c2 c3 c4 c5 c6 e0 e1 e2 e3 e4 e5 e6 y1 y2 HB3 HR3
          go_wp2
          refine ⟨⟨wrap64 (n + z), k + 1, rfl, by omega, by go_num, HB4.out, fun hg h0 h1 => ?_⟩, by simp [intOf]; omega⟩
          have q1 := HQ.out hg h0 h1
          have hw1 : wrap64 (most - n) = most - n := by unfold wrap64; omega
          have q2 := HZ.out
          rw [hw1] at q2
          have q3 := q2 (HSub.out hg) (by omega) (by omega)
          have hw2 : wrap64 (n + z) = n + z := by unfold wrap64; omega
          rw [hw2, HTK.out]
          refine ⟨by omega, by omega, fun h => ?_⟩
          have a := q1.2.2 hnm
          have b := q3.2.2 (by omega)
          omega
        · go_wp2
          go_ret
          exact ⟨n, rfl, fun hg h0 h1 => ⟨(HQ.out hg h0 h1).1, (HQ.out hg h0 h1).2.1, fun h => absurd h (by omega)⟩, HB.out.trans (HB3.out.mono HB.out.size)⟩
      · obtain rfl : k = x.n := by omega
        go_wp2
        go_ret
        exact ⟨n, rfl, fun hg h0 h1 => ⟨(HQ.out hg h0 h1).1, (HQ.out hg h0 h1).2.1, fun h => by rw [HT.out]; exact (HQ.out hg h0 h1).2.2 h⟩, HB.out.trans (HB3.out.mono HB.out.size)⟩
end Go.Proofs.YtgfbflnhjpbceaaGreatDoor.Nrm

namespace Go.Proofs.YtgfbflnhjpbceaaGreatDoor.Range
open Go.RowKit Num Ident Semver

def SevJE (w : World) (b : Nat) (A : Option Addr) (n c : Nat) (l : List UInt8) (kind deep : Int) (pf : List UInt8 → Out) (fur : List UInt8 → Option (List UInt8)) (tot : Out) (a' : Act) (W : World) : Prop :=
  ∃ (acc : List Rng) (xs : List RV) (q : Nat) (t : List UInt8) (k : Nat) (v : Value) (u11 u12 u13 u14 u15 u16 u17 u18 u19 u20 u21 u22 u23 u24 u25 u26 u27 u28 u29 u30 u31 u32 u33 u34 u35 : Value), Rd W b A n c q ∧ Pl l q t ∧ Moved b w W ∧ RAt W w.heap.size (zeroRV 0) ∧ OwnRg W (w.heap.size + 1) v acc xs ∧ acc.length + t.length ≤ l.length ∧ t.length < k ∧ sev pf fur kind k acc t = tot ∧
    a' = { tmps := #[.int .i64 kind, .int .i64 deep, .func (.func 114) #[.pointer (some ⟨b, 0, none⟩)] #[], .func (.func 115) #[.pointer (some ⟨b, 0, none⟩)] #[], undef, undef, undef, undef, .pointer (some ⟨w.heap.size, 0, none⟩), .int .i64 0, v, u11, u12, u13, u14, u15, u16, u17, u18, u19, u20, u21, u22, u23, u24, u25, u26, u27, u28, u29, u30, u31, u32, u33, u34, u35], defers := [] }
set_option maxRecDepth 100000 in
set_option maxHeartbeats 6400000 in
theorem severalE (b : Nat) (A : Option Addr) (n c p : Nat) (l s : List UInt8) (kind deep : Int) (pf : List UInt8 → Out) (fur : List UInt8 → Option (List UInt8)) (w : World) (hR : Rd w b A n c p) (hr : Row w A n l) (hn : n ≤ 30000000) (hs : Pl l p s) (ht : OpsTab w) (hpr : Prog pf) (hfa : Falls fur) (hpc : ∀ s, Piece (pf s).2.1 s)
    (hp : ∀ W q t, Rd W b A n c q → Row W A n l → OpsTab W → Pl l q t → Calls Tryz.prog 114 #[.pointer (some ⟨b, 0, none⟩), .int .i64 deep] W (RgPost b A n c l W (pf t)))
    (hf : ∀ W q t, Rd W b A n c q → Row W A n l → Pl l q t → Calls Tryz.prog 115 #[.pointer (some ⟨b, 0, none⟩)] W (FurPost b A n c q l W (fur t))) :
    Calls Tryz.prog 113 #[.int .i64 kind, .int .i64 deep, .func (.func 114) #[.pointer (some ⟨b, 0, none⟩)] #[], .func (.func 115) #[.pointer (some ⟨b, 0, none⟩)] #[]] w (RgPost b A n c l w (sev pf fur kind (s.length + 1) [] s)) := by
  have hbw := hR.lt
  have HP := Lib.hid hs
  have HL := Lib.hid hr.1
  have HR := Lib.hid hR
  have HRow := Lib.hid hr
  have HT := Lib.hid ht
  have HPR := Lib.hid hpr
  have HFA := Lib.hid hfa
  have HPC := Lib.hid hpc
  have HPF := Lib.hid hp
  have HFU := Lib.hid hf
  have H7 : Hid (RAt (w.alloc (.cells #[.int .i64 0, .int .u64 0, .int .u64 0, .int .u64 0, .slice none 0 0, .slice none 0 0, .slice none 0 0] 28)) w.heap.size (zeroRV 0)) := RAt.new w 28 (zeroRV 0)
  have HM : Hid (Moved b w (w.alloc (.cells #[.int .i64 0, .int .u64 0, .int .u64 0, .int .u64 0, .slice none 0 0, .slice none 0 0, .slice none 0 0] 28))) := (Moved.refl b w).alloc hbw _
  have hne : w.heap.size ≠ b := by omega
  clear hR hr hs ht hpr hfa hpc hp hf
  obtain ⟨tot, htot⟩ : ∃ tot, sev pf fur kind (s.length + 1) [] s = tot := ⟨_, rfl⟩
  rw [htot]
  have HTot := Lib.hid htot
  clear htot
  go_enter Tryz.func113, Tryz.ntmps113
  go_wp2
  refine wp_scope_back 0 (SevJE w b A n c l kind deep pf fur tot) (PsM b n) rfl ?_ ?_
  · rintro a' W ⟨acc, xs, q, t, k, v, u11, u12, u13, u14, u15, u16, u17, u18, u19, u20, u21, u22, u23, u24, u25, u26, u27, u28, u29, u30, u31, u32, u33, u34, u35, hR1, hP1, hM1, h71, hO1, hlen, hk, htot, rfl⟩
    have HK1 := Lib.hid (HR.out.keep hM1)
    have HRow1 := Lib.hid (row_keep HRow.out HK1.out)
    have HT1 := Lib.hid (HT.out.keep HK1.out)
    have HR1 := Lib.hid hR1
    have HP1 := Lib.hid hP1
    have HM1 := Lib.hid hM1
    have H71 := Lib.hid h71
    have HO1 := Lib.hid hO1
    have HTo := Lib.hid htot
    have hz1 : w.heap.size < W.heap.size := h71.1
    obtain ⟨k, rfl⟩ : ∃ j, k = j + 1 := ⟨k - 1, by omega⟩
    have HRq := Lib.hid HR1.out
    clear hR1 hP1 hM1 h71 hO1 htot
    go_wp2_with fail
    refine (HPF.out W q t HR1.out HRow1.out HT1.out HP1.out).mono ?_
    rintro e W1 ⟨x, q1, rfl, hx, hP2, hR2, hM2⟩
    unfold RV.agg
    obtain ⟨⟨f, s1, r⟩, hpt⟩ : ∃ y, pf t = y := ⟨_, rfl⟩
    have HB := Lib.hid (sev_bad (pf := pf) (ff := fur) (kind := kind) (n := k) (acc := acc) (s := t))
    have HO_ := Lib.hid (fun s' => sev_on (pf := pf) (ff := fur) (kind := kind) (n := k) (acc := acc) (s := t) (s' := s'))
    have HE := Lib.hid (sev_end (pf := pf) (ff := fur) (kind := kind) (n := k) (acc := acc) (s := t))
    have HG := Lib.hid (HPR.out t)
    have HPc := Lib.hid (HPC.out t)
    rw [hpt] at hx hP2 HB HO_ HE HG HPc ⊢
    simp only at hx hP2 HB HO_ HE HG HPc ⊢
    clear hpt
    have HX1 : Hid (Lies W1 (From (w.heap.size + 1)) r x) := hx.from_ hz1
    have HXW : Hid (Lies W1 (From W.heap.size) r x) := hx
    have HP2 := Lib.hid hP2
    have HR2 := Lib.hid hR2
    have HM2 := Lib.hid (HM1.out.trans hM2)
    have H72 := Lib.hid (H71.out.moved hM2 hne)
    have HO2 := Lib.hid (HO1.out.moved hM2 (by omega))
    have HOwn := Lib.hid (fun g h => (HO1.out.own.lt g h).2)
    have hz2 : w.heap.size < W1.heap.size := H72.out.1
    have hzW : W.heap.size ≤ W1.heap.size := hM2.size
    have HRow2 := Lib.hid (row_keep HRow.out (HR.out.keep HM2.out))
    clear hx hP2 hR2 hM2 HR1 HM1 H71 HO1 HRow1 HT1
    by_cases h0 : f = 0
    · subst h0
      have hr3 : Hid (Rd (W1.alloc (.cells #[.int .i64 x.kind, .int .u64 (x.v.a : Int), .int .u64 (x.v.b : Int), .int .u64 (x.v.c : Int), .slice x.A x.v.pre.length x.c, .slice x.B x.v.build.length x.d, .slice x.L x.n x.e] 28)) b A n c q1) := HR2.out.alloc _
      have hm3 : Hid (Moved b w (W1.alloc (.cells #[.int .i64 x.kind, .int .u64 (x.v.a : Int), .int .u64 (x.v.b : Int), .int .u64 (x.v.c : Int), .slice x.A x.v.pre.length x.c, .slice x.B x.v.build.length x.d, .slice x.L x.n x.e] 28))) := HM2.out.alloc hbw _
      have h73 : Hid (RAt (W1.alloc (.cells #[.int .i64 x.kind, .int .u64 (x.v.a : Int), .int .u64 (x.v.b : Int), .int .u64 (x.v.c : Int), .slice x.A x.v.pre.length x.c, .slice x.B x.v.build.length x.d, .slice x.L x.n x.e] 28)) w.heap.size (zeroRV 0)) := H72.out.kept ((Below.refl W1.heap.size W1).alloc (Nat.le_refl _) _) hz2
      have ho3 : Hid (OwnRg (W1.alloc (.cells #[.int .i64 x.kind, .int .u64 (x.v.a : Int), .int .u64 (x.v.b : Int), .int .u64 (x.v.c : Int), .slice x.A x.v.pre.length x.c, .slice x.B x.v.build.length x.d, .slice x.L x.n x.e] 28)) (w.heap.size + 1) v acc xs) := HO2.out.kept ((Below.refl _ _).alloc (Nat.le_refl _) _)
      have hx3 : Hid (Lies (W1.alloc (.cells #[.int .i64 x.kind, .int .u64 (x.v.a : Int), .int .u64 (x.v.b : Int), .int .u64 (x.v.c : Int), .slice x.A x.v.pre.length x.c, .slice x.B x.v.build.length x.d, .slice x.L x.n x.e] 28)) (From W.heap.size) r x) := HXW.out.keep (KeepS.alloc _ _)
      have ha3 : Hid (RAt (W1.alloc (.cells #[.int .i64 x.kind, .int .u64 (x.v.a : Int), .int .u64 (x.v.b : Int), .int .u64 (x.v.c : Int), .slice x.A x.v.pre.length x.c, .slice x.B x.v.build.length x.d, .slice x.L x.n x.e] 28)) W1.heap.size x) := RAt.new W1 28 x
      have hw3 : Hid (Row (W1.alloc (.cells #[.int .i64 x.kind, .int .u64 (x.v.a : Int), .int .u64 (x.v.b : Int), .int .u64 (x.v.c : Int), .slice x.A x.v.pre.length x.c, .slice x.B x.v.build.length x.d, .slice x.L x.n x.e] 28)) A n l) := HRow2.out.kept ((Below.refl _ _).alloc (Nat.le_refl _) _)
      have hacc : (acc.length + 1) * 104 ≤ 140737488355328 := by rw [HL.out] at hlen; omega
      clear HR2 HM2 H72 HO2 HRow2 HX1 HXW
      obtain ⟨g1, g2, d0, d1, d2, d3, d4, d5, d6⟩ := ha3.out
      go_wp2_with (first
        | (at_builtin
           have ho4 : Hid (OwnRg ((W1.alloc (.cells #[.int .i64 x.kind, .int .u64 (x.v.a : Int), .int .u64 (x.v.b : Int), .int .u64 (x.v.c : Int), .slice x.A x.v.pre.length x.c, .slice x.B x.v.build.length x.d, .slice x.L x.n x.e] 28)).alloc (.cells #[.int .i64 x.kind, .int .u64 (x.v.a : Int), .int .u64 (x.v.b : Int), .int .u64 (x.v.c : Int), .slice x.A x.v.pre.length x.c, .slice x.B x.v.build.length x.d, .slice x.L x.n x.e] 28)) (w.heap.size + 1) v acc xs) := ho3.out.kept ((Below.refl _ _).alloc (Nat.le_refl _) _)
           refine wpList_append_rg _ rfl _ _ rfl (w.heap.size + 1) v acc.length xs rfl ho4.out.own ⟨W1.heap.size + 1, 0, none⟩ x rfl (fun j u hu => by have := news_new (W1.alloc (.cells #[.int .i64 x.kind, .int .u64 (x.v.a : Int), .int .u64 (x.v.b : Int), .int .u64 (x.v.c : Int), .slice x.A x.v.pre.length x.c, .slice x.B x.v.build.length x.d, .slice x.L x.n x.e] 28)) x.vals 28 j u hu; rw [size_alloc] at this; exact this) hacc (by simp; omega) ?_
           intro v' W4 hown hgr hat
           have hR4 : Hid (Rd W4 b A n c q1) := (hr3.out.alloc _).grown hgr (by simp; intro e; have := (ho4.out.own.lt b e.symm).1; omega)
           have hM4 : Hid (Moved b w W4) := (hm3.out.alloc hbw _).grown hgr hbw (fun g e => Nat.le_of_succ_le (ho4.out.own.lt g e).1)
           have h74 : Hid (RAt W4 w.heap.size (zeroRV 0)) := (h73.out.kept ((Below.refl _ _).alloc (Nat.le_refl _) _) (by simp; omega)).grown hgr (by intro e; have := (ho4.out.own.lt _ e.symm).1; omega)
           have hA4 : Hid (RAt W4 W1.heap.size x) := (ha3.out.kept ((Below.refl _ _).alloc (Nat.le_refl _) _) (by simp)).grown hgr (by intro e; have := HOwn.out _ e.symm; omega)
           have hO4 : Hid (OwnRg W4 (w.heap.size + 1) v' (acc ++ [r]) (xs ++ [x])) := ho4.out.more hown hgr hat (hx3.out.keep (KeepS.alloc _ _)) hz1 HOwn.out
           have hW4 : Hid (Row W4 A n l) := row_keep HRow.out (HR.out.keep hM4.out)
           have hX4 : Hid (Lies W4 (From (w.heap.size + 1)) r x) := by
             have h1 : Lies ((W1.alloc (.cells #[.int .i64 x.kind, .int .u64 (x.v.a : Int), .int .u64 (x.v.b : Int), .int .u64 (x.v.c : Int), .slice x.A x.v.pre.length x.c, .slice x.B x.v.build.length x.d, .slice x.L x.n x.e] 28)).alloc (.cells #[.int .i64 x.kind, .int .u64 (x.v.a : Int), .int .u64 (x.v.b : Int), .int .u64 (x.v.c : Int), .slice x.A x.v.pre.length x.c, .slice x.B x.v.build.length x.d, .slice x.L x.n x.e] 28)) (fun g => From (w.heap.size + 1) g ∧ some g ≠ v.ownBlock) r x := (hx3.out.keep (KeepS.alloc _ _)).mono fun g hS _ => ⟨Nat.le_trans hz1 hS, fun e => by have := HOwn.out _ e.symm; unfold From at hS; omega⟩
             exact (h1.keep (KeepS.grown hgr fun g hS => hS.2)).mono fun g hS _ => hS.1
           clear hown hgr hat)
        | fail)
      clear g1 g2 d0 d1 d2 d3 d4 d5 d6 hr3 hm3 h73 ho3 hx3 ha3 hw3
      refine (HFU.out W4 q1 s1 hR4.out hW4.out HP2.out).mono ?_
      rintro e W5 ⟨hM5, hfp⟩
      have HM5 := Lib.hid (hM4.out.trans hM5)
      have H75 := Lib.hid (h74.out.moved hM5 hne)
      have HA5 := Lib.hid (hA4.out.moved hM5 (by omega))
      have HO5 := Lib.hid (hO4.out.moved hM5 (by omega))
      have HX5 : Hid (Lies W5 (From (w.heap.size + 1)) r x) := hX4.out.keep (KeepS.moved hM5 (fun h => by unfold From at h; omega))
      clear hM5 hR4 hM4 h74 hA4 hO4 hW4 hX4
      have hprog := HG.out (by first | rfl | trivial)
      cases hfu : fur s1 with
      | some s2 =>
        rw [hfu] at hfp
        obtain ⟨rfl, q2, hp5, hr5⟩ := hfp
        have HTo2 : Hid (sev pf fur kind k (acc ++ [r]) s2 = tot) := by
          have := HO_.out s2 (by first | rfl | trivial) hfu
          exact this.symm.trans HTo.out
        have hl2 := HFA.out s1 s2 hfu
        have HR5 := Lib.hid hr5
        have HP5 := Lib.hid hp5
        clear hr5 hp5 hfu
        go_wp2
        go_step3
        refine ⟨rfl, ⟨acc ++ [r], xs ++ [x], q2, s2, k, v', _, _, _, _, _, _, _, _, _, _, _, _, _, _, _, _, _, _, _, _, _, _, _, _, _, HR5.out, HP5.out, HM5.out, H75.out, HO5.out, by rw [List.length_append, List.length_singleton]; omega, by omega, HTo2.out, rfl⟩, ?_⟩
        have e1 := HP1.out.len
        have e2 := HP5.out.len
        have e3 := HP1.out.le
        have e4 := HP5.out.le
        exact psM_less HR5.out HRq.out (by rw [HL.out] at e1 e2 e3 e4; omega)
      | none =>
        rw [hfu] at hfp
        obtain ⟨rfl, hr5⟩ := hfp
        have HTo2 : Hid (tot = (0, s1, whole kind acc r)) := by
          have := HE.out (by first | rfl | trivial) hfu
          exact HTo.out.symm.trans this
        have HR5 := Lib.hid hr5
        clear hr5 hfu
        obtain ⟨L, e, rfl, he, hnil, hrow⟩ := HO5.out.row
        have HRw := Lib.hid hrow
        clear hrow HO5
        obtain ⟨y1, y2, c0, c1, c2, c3, c4, c5, c6⟩ := H75.out
        obtain ⟨g1, g2, d0, d1, d2, d3, d4, d5, d6⟩ := HA5.out
        have hw1 : W1.heap.size ≠ w.heap.size := by omega
        by_cases hac : acc = []
        · subst hac
          have HTo3 : Hid (tot = (0, s1, r)) := HTo2.out
          go_wp2
          simp only [Exit.jump]
          exact bodyPost_ret (v := .tuple #[.agg #[.int .i64 x.kind, .int .u64 (x.v.a : Int), .int .u64 (x.v.b : Int), .int .u64 (x.v.c : Int), .slice x.A x.v.pre.length x.c, .slice x.B x.v.build.length x.d, .slice x.L x.n x.e], .int .i64 0]) (by simp [results, Tryz.results113, go_sem, c0, c1, c2, c3, c4, c5, c6]) rfl (by rw [HTo3.out]; exact rg_end (x := x) hbw HX5.out HP2.out HR5.out HM5.out)
        · have hl2 : (acc ++ [r]).length ≠ 1 := by
            cases acc with
            | nil => exact absurd rfl hac
            | cons => simp
          have HTo3 : Hid (tot = (0, s1, .mk kind noVer (acc ++ [r]))) := by have := HTo2.out; unfold whole at this; rw [if_neg hac] at this; exact this
          generalize acc ++ [r] = al at hl2 he HRw HTo3 ⊢
          have hb1 : ((al.length : Int) == 1) = false := by simp; omega
          go_wp2
          simp only [Exit.jump]
          exact bodyPost_ret (v := .tuple #[.agg #[.int .i64 kind, .int .u64 0, .int .u64 0, .int .u64 0, .slice none 0 0, .slice none 0 0, .slice L al.length e], .int .i64 0]) (by simp [results, Tryz.results113, go_sem, c0, c1, c2, c3, c4, c5, c6]) rfl (by rw [HTo3.out]; exact rg_end (x := ⟨kind, noVer, none, 0, none, 0, L, al.length, e⟩) hbw (Lies.many kind HRw.out he hnil) HP2.out HR5.out HM5.out)
    · have HTo2 : Hid (tot = (f, s1, noRng)) := HTo.out.symm.trans (HB.out h0)
      have hb1 : ((f : Int) != 0) = true := by simp [h0]
      have hb2 : ((f : Int) == 0) = false := by simp [h0]
      clear h0 HB HO_ HE
      obtain ⟨y1, y2, c0, c1, c2, c3, c4, c5, c6⟩ := H72.out
      have hw1 : W1.heap.size ≠ w.heap.size := by omega
      go_wp2
      simp only [Exit.jump]
      exact bodyPost_ret (v := .tuple #[.agg #[.int .i64 0, .int .u64 0, .int .u64 0, .int .u64 0, .slice none 0 0, .slice none 0 0, .slice none 0 0], .int .i64 (f : Int)]) (by simp [results, Tryz.results113, go_sem, c0, c1, c2, c3, c4, c5, c6, y1]) rfl (by rw [HTo2.out]; exact (rg_end (x := zeroRV 0) hbw (Lies.zero _ _ 0) HP2.out HR2.out HM2.out).alloc hbw _)
  · intro HK
    go_wp2
    go_step3
    rename_i hK
    exact hK _ _ (HK.out _ _ ⟨[], [], p, s, s.length + 1, .slice none 0 0, _, _, _, _, _, _, _, _, _, _, _, _, _, _, _, _, _, _, _, _, _, _, _, _, _, HR.out.alloc _, HP.out, HM.out, H7.out, OwnRg.nil _ _, by have := HP.out.len; have h2 := HP.out.le; simp; omega, Nat.lt_succ_self _, HTot.out, rfl⟩)
end Go.Proofs.YtgfbflnhjpbceaaGreatDoor.Range

namespace Go.Proofs.YtgfbflnhjpbceaaGreatDoor.Range
open Go.RowKit Num Ident Semver

def SevJO (w : World) (b : Nat) (A : Option Addr) (n c : Nat) (l : List UInt8) (kind deep : Int) (pf : List UInt8 → Out) (fur : List UInt8 → Option (List UInt8)) (tot : Out) (a' : Act) (W : World) : Prop :=
  ∃ (acc : List Rng) (xs : List RV) (q : Nat) (t : List UInt8) (k : Nat) (v : Value) (u11 u12 u13 u14 u15 u16 u17 u18 u19 u20 u21 u22 u23 u24 u25 u26 u27 u28 u29 u30 u31 u32 u33 u34 u35 : Value), Rd W b A n c q ∧ Pl l q t ∧ Moved b w W ∧ RAt W w.heap.size (zeroRV 0) ∧ OwnRg W (w.heap.size + 1) v acc xs ∧ acc.length + t.length ≤ l.length ∧ t.length < k ∧ sev pf fur kind k acc t = tot ∧
    a' = { tmps := #[.int .i64 kind, .int .i64 deep, .func (.func 142) #[.pointer (some ⟨b, 0, none⟩)] #[], .func (.func 143) #[.pointer (some ⟨b, 0, none⟩)] #[], undef, undef, undef, undef, .pointer (some ⟨w.heap.size, 0, none⟩), .int .i64 0, v, u11, u12, u13, u14, u15, u16, u17, u18, u19, u20, u21, u22, u23, u24, u25, u26, u27, u28, u29, u30, u31, u32, u33, u34, u35], defers := [] }
set_option maxRecDepth 100000 in
set_option maxHeartbeats 6400000 in
theorem severalO (b : Nat) (A : Option Addr) (n c p : Nat) (l s : List UInt8) (kind deep : Int) (pf : List UInt8 → Out) (fur : List UInt8 → Option (List UInt8)) (w : World) (hR : Rd w b A n c p) (hr : Row w A n l) (hn : n ≤ 30000000) (hs : Pl l p s) (ht : OpsTab w) (hpr : Prog pf) (hfa : Falls fur) (hpc : ∀ s, Piece (pf s).2.1 s)
    (hp : ∀ W q t, Rd W b A n c q → Row W A n l → OpsTab W → Pl l q t → Calls Tryz.prog 142 #[.pointer (some ⟨b, 0, none⟩), .int .i64 deep] W (RgPost b A n c l W (pf t)))
    (hf : ∀ W q t, Rd W b A n c q → Row W A n l → Pl l q t → Calls Tryz.prog 143 #[.pointer (some ⟨b, 0, none⟩)] W (FurPost b A n c q l W (fur t))) :
    Calls Tryz.prog 113 #[.int .i64 kind, .int .i64 deep, .func (.func 142) #[.pointer (some ⟨b, 0, none⟩)] #[], .func (.func 143) #[.pointer (some ⟨b, 0, none⟩)] #[]] w (RgPost b A n c l w (sev pf fur kind (s.length + 1) [] s)) := by
  have hbw := hR.lt
  have HP := Lib.hid hs
  have HL := Lib.hid hr.1
  have HR := Lib.hid hR
  have HRow := Lib.hid hr
  have HT := Lib.hid ht
  have HPR := Lib.hid hpr
  have HFA := Lib.hid hfa
  have HPC := Lib.hid hpc
  have HPF := Lib.hid hp
  have HFU := Lib.hid hf
  have H7 : Hid (RAt (w.alloc (.cells #[.int .i64 0, .int .u64 0, .int .u64 0, .int .u64 0, .slice none 0 0, .slice none 0 0, .slice none 0 0] 28)) w.heap.size (zeroRV 0)) := RAt.new w 28 (zeroRV 0)
  have HM : Hid (Moved b w (w.alloc (.cells #[.int .i64 0, .int .u64 0, .int .u64 0, .int .u64 0, .slice none 0 0, .slice none 0 0, .slice none 0 0] 28))) := (Moved.refl b w).alloc hbw _
  have hne : w.heap.size ≠ b := by omega
  clear hR hr hs ht hpr hfa hpc hp hf
  obtain ⟨tot, htot⟩ : ∃ tot, sev pf fur kind (s.length + 1) [] s = tot := ⟨_, rfl⟩
  rw [htot]
  have HTot := Lib.hid htot
  clear htot
  go_enter Tryz.func113, Tryz.ntmps113
  go_wp2
  refine wp_scope_back 0 (SevJO w b A n c l kind deep pf fur tot) (PsM b n) rfl ?_ ?_
  · rintro a' W ⟨acc, xs, q, t, k, v, u11, u12, u13, u14, u15, u16, u17, u18, u19, u20, u21, u22, u23, u24, u25, u26, u27, u28, u29, u30, u31, u32, u33, u34, u35, hR1, hP1, hM1, h71, hO1, hlen, hk, htot, rfl⟩
    have HK1 := Lib.hid (HR.out.keep hM1)
    have HRow1 := Lib.hid (row_keep HRow.out HK1.out)
    have HT1 := Lib.hid (HT.out.keep HK1.out)
    have HR1 := Lib.hid hR1
    have HP1 := Lib.hid hP1
    have HM1 := Lib.hid hM1
    have H71 := Lib.hid h71
    have HO1 := Lib.hid hO1
    have HTo := Lib.hid htot
    have hz1 : w.heap.size < W.heap.size := h71.1
    obtain ⟨k, rfl⟩ : ∃ j, k = j + 1 := ⟨k - 1, by omega⟩
    have HRq := Lib.hid HR1.out
    clear hR1 hP1 hM1 h71 hO1 htot
    go_wp2_with fail
    refine (HPF.out W q t HR1.out HRow1.out HT1.out HP1.out).mono ?_
    rintro e W1 ⟨x, q1, rfl, hx, hP2, hR2, hM2⟩
    unfold RV.agg
    obtain ⟨⟨f, s1, r⟩, hpt⟩ : ∃ y, pf t = y := ⟨_, rfl⟩
    have HB := Lib.hid (sev_bad (pf := pf) (ff := fur) (kind := kind) (n := k) (acc := acc) (s := t))
    have HO_ := Lib.hid (fun s' => sev_on (pf := pf) (ff := fur) (kind := kind) (n := k) (acc := acc) (s := t) (s' := s'))
    have HE := Lib.hid (sev_end (pf := pf) (ff := fur) (kind := kind) (n := k) (acc := acc) (s := t))
    have HG := Lib.hid (HPR.out t)
    have HPc := Lib.hid (HPC.out t)
    rw [hpt] at hx hP2 HB HO_ HE HG HPc ⊢
    simp only at hx hP2 HB HO_ HE HG HPc ⊢
    clear hpt
    have HX1 : Hid (Lies W1 (From (w.heap.size + 1)) r x) := hx.from_ hz1
    have HXW : Hid (Lies W1 (From W.heap.size) r x) := hx
    have HP2 := Lib.hid hP2
    have HR2 := Lib.hid hR2
    have HM2 := Lib.hid (HM1.out.trans hM2)
    have H72 := Lib.hid (H71.out.moved hM2 hne)
    have HO2 := Lib.hid (HO1.out.moved hM2 (by omega))
    have HOwn := Lib.hid (fun g h => (HO1.out.own.lt g h).2)
    have hz2 : w.heap.size < W1.heap.size := H72.out.1
    have hzW : W.heap.size ≤ W1.heap.size := hM2.size
    have HRow2 := Lib.hid (row_keep HRow.out (HR.out.keep HM2.out))
    clear hx hP2 hR2 hM2 HR1 HM1 H71 HO1 HRow1 HT1
    by_cases h0 : f = 0
    · subst h0
      have hr3 : Hid (Rd (W1.alloc (.cells #[.int .i64 x.kind, .int .u64 (x.v.a : Int), .int .u64 (x.v.b : Int), .int .u64 (x.v.c : Int), .slice x.A x.v.pre.length x.c, .slice x.B x.v.build.length x.d, .slice x.L x.n x.e] 28)) b A n c q1) := HR2.out.alloc _
      have hm3 : Hid (Moved b w (W1.alloc (.cells #[.int .i64 x.kind, .int .u64 (x.v.a : Int), .int .u64 (x.v.b : Int), .int .u64 (x.v.c : Int), .slice x.A x.v.pre.length x.c, .slice x.B x.v.build.length x.d, .slice x.L x.n x.e] 28))) := HM2.out.alloc hbw _
      have h73 : Hid (RAt (W1.alloc (.cells #[.int .i64 x.kind, .int .u64 (x.v.a : Int), .int .u64 (x.v.b : Int), .int .u64 (x.v.c : Int), .slice x.A x.v.pre.length x.c, .slice x.B x.v.build.length x.d, .slice x.L x.n x.e] 28)) w.heap.size (zeroRV 0)) := H72.out.kept ((Below.refl W1.heap.size W1).alloc (Nat.le_refl _) _) hz2
      have ho3 : Hid (OwnRg (W1.alloc (.cells #[.int .i64 x.kind, .int .u64 (x.v.a : Int), .int .u64 (x.v.b : Int), .int .u64 (x.v.c : Int), .slice x.A x.v.pre.length x.c, .slice x.B x.v.build.length x.d, .slice x.L x.n x.e] 28)) (w.heap.size + 1) v acc xs) := HO2.out.kept ((Below.refl _ _).alloc (Nat.le_refl _) _)
      have hx3 : Hid (Lies (W1.alloc (.cells #[.int .i64 x.kind, .int .u64 (x.v.a : Int), .int .u64 (x.v.b : Int), .int .u64 (x.v.c : Int), .slice x.A x.v.pre.length x.c, .slice x.B x.v.build.length x.d, .slice x.L x.n x.e] 28)) (From W.heap.size) r x) := HXW.out.keep (KeepS.alloc _ _)
      have ha3 : Hid (RAt (W1.alloc (.cells #[.int .i64 x.kind, .int .u64 (x.v.a : Int), .int .u64 (x.v.b : Int), .int .u64 (x.v.c : Int), .slice x.A x.v.pre.length x.c, .slice x.B x.v.build.length x.d, .slice x.L x.n x.e] 28)) W1.heap.size x) := RAt.new W1 28 x
      have hw3 : Hid (Row (W1.alloc (.cells #[.int .i64 x.kind, .int .u64 (x.v.a : Int), .int .u64 (x.v.b : Int), .int .u64 (x.v.c : Int), .slice x.A x.v.pre.length x.c, .slice x.B x.v.build.length x.d, .slice x.L x.n x.e] 28)) A n l) := HRow2.out.kept ((Below.refl _ _).alloc (Nat.le_refl _) _)
      have hacc : (acc.length + 1) * 104 ≤ 140737488355328 := by rw [HL.out] at hlen; omega
      clear HR2 HM2 H72 HO2 HRow2 HX1 HXW
      obtain ⟨g1, g2, d0, d1, d2, d3, d4, d5, d6⟩ := ha3.out
      go_wp2_with (first
        | (at_builtin
           have ho4 : Hid (OwnRg ((W1.alloc (.cells #[.int .i64 x.kind, .int .u64 (x.v.a : Int), .int .u64 (x.v.b : Int), .int .u64 (x.v.c : Int), .slice x.A x.v.pre.length x.c, .slice x.B x.v.build.length x.d, .slice x.L x.n x.e] 28)).alloc (.cells #[.int .i64 x.kind, .int .u64 (x.v.a : Int), .int .u64 (x.v.b : Int), .int .u64 (x.v.c : Int), .slice x.A x.v.pre.length x.c, .slice x.B x.v.build.length x.d, .slice x.L x.n x.e] 28)) (w.heap.size + 1) v acc xs) := ho3.out.kept ((Below.refl _ _).alloc (Nat.le_refl _) _)
           refine wpList_append_rg _ rfl _ _ rfl (w.heap.size + 1) v acc.length xs rfl ho4.out.own ⟨W1.heap.size + 1, 0, none⟩ x rfl (fun j u hu => by have := news_new (W1.alloc (.cells #[.int .i64 x.kind, .int .u64 (x.v.a : Int), .int .u64 (x.v.b : Int), .int .u64 (x.v.c : Int), .slice x.A x.v.pre.length x.c, .slice x.B x.v.build.length x.d, .slice x.L x.n x.e] 28)) x.vals 28 j u hu; rw [size_alloc] at this; exact this) hacc (by simp; omega) ?_
           intro v' W4 hown hgr hat
           have hR4 : Hid (Rd W4 b A n c q1) := (hr3.out.alloc _).grown hgr (by simp; intro e; have := (ho4.out.own.lt b e.symm).1; omega)
           have hM4 : Hid (Moved b w W4) := (hm3.out.alloc hbw _).grown hgr hbw (fun g e => Nat.le_of_succ_le (ho4.out.own.lt g e).1)
           have h74 : Hid (RAt W4 w.heap.size (zeroRV 0)) := (h73.out.kept ((Below.refl _ _).alloc (Nat.le_refl _) _) (by simp; omega)).grown hgr (by intro e; have := (ho4.out.own.lt _ e.symm).1; omega)
           have hA4 : Hid (RAt W4 W1.heap.size x) := (ha3.out.kept ((Below.refl _ _).alloc (Nat.le_refl _) _) (by simp)).grown hgr (by intro e; have := HOwn.out _ e.symm; omega)
           have hO4 : Hid (OwnRg W4 (w.heap.size + 1) v' (acc ++ [r]) (xs ++ [x])) := ho4.out.more hown hgr hat (hx3.out.keep (KeepS.alloc _ _)) hz1 HOwn.out
           have hW4 : Hid (Row W4 A n l) := row_keep HRow.out (HR.out.keep hM4.out)
           have hX4 : Hid (Lies W4 (From (w.heap.size + 1)) r x) := by
             have h1 : Lies ((W1.alloc (.cells #[.int .i64 x.kind, .int .u64 (x.v.a : Int), .int .u64 (x.v.b : Int), .int .u64 (x.v.c : Int), .slice x.A x.v.pre.length x.c, .slice x.B x.v.build.length x.d, .slice x.L x.n x.e] 28)).alloc (.cells #[.int .i64 x.kind, .int .u64 (x.v.a : Int), .int .u64 (x.v.b : Int), .int .u64 (x.v.c : Int), .slice x.A x.v.pre.length x.c, .slice x.B x.v.build.length x.d, .slice x.L x.n x.e] 28)) (fun g => From (w.heap.size + 1) g ∧ some g ≠ v.ownBlock) r x := (hx3.out.keep (KeepS.alloc _ _)).mono fun g hS _ => ⟨Nat.le_trans hz1 hS, fun e => by have := HOwn.out _ e.symm; unfold From at hS; omega⟩
             exact (h1.keep (KeepS.grown hgr fun g hS => hS.2)).mono fun g hS _ => hS.1
           clear hown hgr hat)
        | fail)
      clear g1 g2 d0 d1 d2 d3 d4 d5 d6 hr3 hm3 h73 ho3 hx3 ha3 hw3
      refine (HFU.out W4 q1 s1 hR4.out hW4.out HP2.out).mono ?_
      rintro e W5 ⟨hM5, hfp⟩
      have HM5 := Lib.hid (hM4.out.trans hM5)
      have H75 := Lib.hid (h74.out.moved hM5 hne)
      have HA5 := Lib.hid (hA4.out.moved hM5 (by omega))
      have HO5 := Lib.hid (hO4.out.moved hM5 (by omega))
      have HX5 : Hid (Lies W5 (From (w.heap.size + 1)) r x) := hX4.out.keep (KeepS.moved hM5 (fun h => by unfold From at h; omega))
      clear hM5 hR4 hM4 h74 hA4 hO4 hW4 hX4
      have hprog := HG.out (by first | rfl | trivial)
      cases hfu : fur s1 with
      | some s2 =>
        rw [hfu] at hfp
        obtain ⟨rfl, q2, hp5, hr5⟩ := hfp
        have HTo2 : Hid (sev pf fur kind k (acc ++ [r]) s2 = tot) := by
          have := HO_.out s2 (by first | rfl | trivial) hfu
          exact this.symm.trans HTo.out
        have hl2 := HFA.out s1 s2 hfu
        have HR5 := Lib.hid hr5
        have HP5 := Lib.hid hp5
        clear hr5 hp5 hfu
        go_wp2
        go_step3
        refine ⟨rfl, ⟨acc ++ [r], xs ++ [x], q2, s2, k, v', _, _, _, _, _, _, _, _, _, _, _, _, _, _, _, _, _, _, _, _, _, _, _, _, _, HR5.out, HP5.out, HM5.out, H75.out, HO5.out, by rw [List.length_append, List.length_singleton]; omega, by omega, HTo2.out, rfl⟩, ?_⟩
        have e1 := HP1.out.len
        have e2 := HP5.out.len
        have e3 := HP1.out.le
        have e4 := HP5.out.le
        exact psM_less HR5.out HRq.out (by rw [HL.out] at e1 e2 e3 e4; omega)
      | none =>
        rw [hfu] at hfp
        obtain ⟨rfl, hr5⟩ := hfp
        have HTo2 : Hid (tot = (0, s1, whole kind acc r)) := by
          have := HE.out (by first | rfl | trivial) hfu
          exact HTo.out.symm.trans this
        have HR5 := Lib.hid hr5
        clear hr5 hfu
        obtain ⟨L, e, rfl, he, hnil, hrow⟩ := HO5.out.row
        have HRw := Lib.hid hrow
        clear hrow HO5
        obtain ⟨y1, y2, c0, c1, c2, c3, c4, c5, c6⟩ := H75.out
        obtain ⟨g1, g2, d0, d1, d2, d3, d4, d5, d6⟩ := HA5.out
        have hw1 : W1.heap.size ≠ w.heap.size := by omega
        by_cases hac : acc = []
        · subst hac
          have HTo3 : Hid (tot = (0, s1, r)) := HTo2.out
          go_wp2
          simp only [Exit.jump]
          exact bodyPost_ret (v := .tuple #[.agg #[.int .i64 x.kind, .int .u64 (x.v.a : Int), .int .u64 (x.v.b : Int), .int .u64 (x.v.c : Int), .slice x.A x.v.pre.length x.c, .slice x.B x.v.build.length x.d, .slice x.L x.n x.e], .int .i64 0]) (by simp [results, Tryz.results113, go_sem, c0, c1, c2, c3, c4, c5, c6]) rfl (by rw [HTo3.out]; exact rg_end (x := x) hbw HX5.out HP2.out HR5.out HM5.out)
        · have hl2 : (acc ++ [r]).length ≠ 1 := by
            cases acc with
            | nil => exact absurd rfl hac
            | cons => simp
          have HTo3 : Hid (tot = (0, s1, .mk kind noVer (acc ++ [r]))) := by have := HTo2.out; unfold whole at this; rw [if_neg hac] at this; exact this
          generalize acc ++ [r] = al at hl2 he HRw HTo3 ⊢
          have hb1 : ((al.length : Int) == 1) = false := by simp; omega
          go_wp2
          simp only [Exit.jump]
          exact bodyPost_ret (v := .tuple #[.agg #[.int .i64 kind, .int .u64 0, .int .u64 0, .int .u64 0, .slice none 0 0, .slice none 0 0, .slice L al.length e], .int .i64 0]) (by simp [results, Tryz.results113, go_sem, c0, c1, c2, c3, c4, c5, c6]) rfl (by rw [HTo3.out]; exact rg_end (x := ⟨kind, noVer, none, 0, none, 0, L, al.length, e⟩) hbw (Lies.many kind HRw.out he hnil) HP2.out HR5.out HM5.out)
    · have HTo2 : Hid (tot = (f, s1, noRng)) := HTo.out.symm.trans (HB.out h0)
      have hb1 : ((f : Int) != 0) = true := by simp [h0]
      have hb2 : ((f : Int) == 0) = false := by simp [h0]
      clear h0 HB HO_ HE
      obtain ⟨y1, y2, c0, c1, c2, c3, c4, c5, c6⟩ := H72.out
      have hw1 : W1.heap.size ≠ w.heap.size := by omega
      go_wp2
      simp only [Exit.jump]
      exact bodyPost_ret (v := .tuple #[.agg #[.int .i64 0, .int .u64 0, .int .u64 0, .int .u64 0, .slice none 0 0, .slice none 0 0, .slice none 0 0], .int .i64 (f : Int)]) (by simp [results, Tryz.results113, go_sem, c0, c1, c2, c3, c4, c5, c6, y1]) rfl (by rw [HTo2.out]; exact (rg_end (x := zeroRV 0) hbw (Lies.zero _ _ 0) HP2.out HR2.out HM2.out).alloc hbw _)
  · intro HK
    go_wp2
    go_step3
    rename_i hK
    exact hK _ _ (HK.out _ _ ⟨[], [], p, s, s.length + 1, .slice none 0 0, _, _, _, _, _, _, _, _, _, _, _, _, _, _, _, _, _, _, _, _, _, _, _, _, _, HR.out.alloc _, HP.out, HM.out, H7.out, OwnRg.nil _ _, by have := HP.out.len; have h2 := HP.out.le; simp; omega, Nat.lt_succ_self _, HTot.out, rfl⟩)
end Go.Proofs.YtgfbflnhjpbceaaGreatDoor.Range

namespace Go.Proofs.YtgfbflnhjpbceaaGreatDoor.Range
open Go.RowKit Num Ident Semver

/-- A part's reader does what pf tells, so deep. -/
def PartOK (f : FuncId) (b : Nat) (A : Option Addr) (n c : Nat) (l : List UInt8) (deep : Int) (pf : List UInt8 → Out) : Prop :=
  ∀ (W : World) (q : Nat) (t : List UInt8), Rd W b A n c q → Row W A n l → OpsTab W → Pl l q t → Calls Tryz.prog f #[.pointer (some ⟨b, 0, none⟩), .int .i64 deep] W (RgPost b A n c l W (pf t))
set_option maxRecDepth 100000 in
set_option maxHeartbeats 3200000 in
theorem every_ok (b : Nat) (A : Option Addr) (n c : Nat) (l : List UInt8) (deep : Int) (pf : List UInt8 → Out) (hn : n ≤ 30000000) (hc : n ≤ c) (hpr : Prog pf) (hpc : Pieces pf) (ho : PartOK 142 b A n c l deep pf) : PartOK 114 b A n c l deep (fun s => sev pf furO 9 (s.length + 1) [] s) := by
  intro w p s hR hr ht hs
  have HS : Hid (∀ W, Rd W b A n c p → Row W A n l → OpsTab W → Calls Tryz.prog 113 #[.int .i64 9, .int .i64 deep, .func (.func 142) #[.pointer (some ⟨b, 0, none⟩)] #[], .func (.func 143) #[.pointer (some ⟨b, 0, none⟩)] #[]] W (RgPost b A n c l W (sev pf furO 9 (s.length + 1) [] s))) := fun W h1 h2 h3 =>
    severalO b A n c p l s 9 deep pf furO W h1 h2 hn hs h3 hpr furO_piece.falls hpc ho (fun W q t h1 h2 h3 => furO_any b A n c q l t W h1 h2 hc h3)
  clear ho
  obtain ⟨t, htt⟩ : ∃ t, sev pf furO 9 (s.length + 1) [] s = t := ⟨_, rfl⟩
  rw [htt] at HS
  show Calls _ _ _ _ (RgPost b A n c l w (sev pf furO 9 (s.length + 1) [] s))
  rw [htt]
  clear htt
  have hbw := hR.lt
  have HP := Lib.hid hs
  have HL := Lib.hid hr.1
  have HR := Lib.hid hR
  have HRow := Lib.hid hr
  have HT := Lib.hid ht
  have H7 : Hid (RAt (w.alloc (.cells #[.int .i64 0, .int .u64 0, .int .u64 0, .int .u64 0, .slice none 0 0, .slice none 0 0, .slice none 0 0] 28)) w.heap.size (zeroRV 0)) := RAt.new w 28 (zeroRV 0)
  have HM : Hid (Moved b w (w.alloc (.cells #[.int .i64 0, .int .u64 0, .int .u64 0, .int .u64 0, .slice none 0 0, .slice none 0 0, .slice none 0 0] 28))) := (Moved.refl b w).alloc hbw _
  have HR0 : Hid (Rd (w.alloc (.cells #[.int .i64 0, .int .u64 0, .int .u64 0, .int .u64 0, .slice none 0 0, .slice none 0 0, .slice none 0 0] 28)) b A n c p) := hR.alloc _
  have HRow0 : Hid (Row (w.alloc (.cells #[.int .i64 0, .int .u64 0, .int .u64 0, .int .u64 0, .slice none 0 0, .slice none 0 0, .slice none 0 0] 28)) A n l) := hr.kept ((Below.refl _ _).alloc (Nat.le_refl _) _)
  have HT0 : Hid (OpsTab (w.alloc (.cells #[.int .i64 0, .int .u64 0, .int .u64 0, .int .u64 0, .slice none 0 0, .slice none 0 0, .slice none 0 0] 28))) := ht.keep (Keep.of_below ((Below.refl _ _).alloc (Nat.le_refl _) _))
  have hne : w.heap.size ≠ b := by omega
  have hmf : ∀ (fn : Fn) (first cap : Array Value) (w : World), (Instr.makeFunc fn first cap).run Tryz.prog w = .ok (.func fn first cap) w := fun _ _ _ _ => rfl
  clear hR hr hs ht
  go_enter Tryz.func114, Tryz.ntmps114
  go_wp2_with fail
  refine (HS.out _ HR0.out HRow0.out HT0.out).mono ?_
  rintro e W1 ⟨x, q1, rfl, hx, hP1, hR1, hM1⟩
  unfold RV.agg
  have HX := Lib.hid hx
  rw [size_alloc] at HX
  have HP1 := Lib.hid hP1
  have HR1 := Lib.hid hR1
  have HM1 := Lib.hid (HM.out.trans hM1)
  have H71 := Lib.hid (H7.out.moved hM1 hne)
  clear hx hP1 hR1 hM1
  obtain ⟨y1, y2, c0, c1, c2, c3, c4, c5, c6⟩ := H71.out
  go_wp2
  exact bodyPost_ret (v := .tuple #[.agg #[.int .i64 x.kind, .int .u64 (x.v.a : Int), .int .u64 (x.v.b : Int), .int .u64 (x.v.c : Int), .slice x.A x.v.pre.length x.c, .slice x.B x.v.build.length x.d, .slice x.L x.n x.e], .int .i64 (t.1 : Int)]) (by simp [results, Tryz.results114, go_sem, c0, c1, c2, c3, c4, c5, c6]) rfl (rg_end (x := x) (f := t.1) (s := t.2.1) (r := t.2.2) hbw HX.out HP1.out HR1.out HM1.out)
set_option maxRecDepth 100000 in
set_option maxHeartbeats 3200000 in
theorem expr_ok (b : Nat) (A : Option Addr) (n c : Nat) (l : List UInt8) (deep : Int) (pf : List UInt8 → Out) (hn : n ≤ 30000000) (hc : n ≤ c) (hpr : Prog pf) (hpc : Pieces pf) (ho : PartOK 114 b A n c l deep pf) : PartOK 88 b A n c l deep (fun s => sev pf furE 10 (s.length + 1) [] s) := by
  intro w p s hR hr ht hs
  have HS : Hid (∀ W, Rd W b A n c p → Row W A n l → OpsTab W → Calls Tryz.prog 113 #[.int .i64 10, .int .i64 deep, .func (.func 114) #[.pointer (some ⟨b, 0, none⟩)] #[], .func (.func 115) #[.pointer (some ⟨b, 0, none⟩)] #[]] W (RgPost b A n c l W (sev pf furE 10 (s.length + 1) [] s))) := fun W h1 h2 h3 =>
    severalE b A n c p l s 10 deep pf furE W h1 h2 hn hs h3 hpr furE_piece.falls hpc ho (fun W q t h1 h2 h3 => furE_any b A n c q l t W h1 h2 hc h3)
  clear ho
  obtain ⟨t, htt⟩ : ∃ t, sev pf furE 10 (s.length + 1) [] s = t := ⟨_, rfl⟩
  rw [htt] at HS
  show Calls _ _ _ _ (RgPost b A n c l w (sev pf furE 10 (s.length + 1) [] s))
  rw [htt]
  clear htt
  have hbw := hR.lt
  have HP := Lib.hid hs
  have HL := Lib.hid hr.1
  have HR := Lib.hid hR
  have HRow := Lib.hid hr
  have HT := Lib.hid ht
  have H7 : Hid (RAt (w.alloc (.cells #[.int .i64 0, .int .u64 0, .int .u64 0, .int .u64 0, .slice none 0 0, .slice none 0 0, .slice none 0 0] 28)) w.heap.size (zeroRV 0)) := RAt.new w 28 (zeroRV 0)
  have HM : Hid (Moved b w (w.alloc (.cells #[.int .i64 0, .int .u64 0, .int .u64 0, .int .u64 0, .slice none 0 0, .slice none 0 0, .slice none 0 0] 28))) := (Moved.refl b w).alloc hbw _
  have HR0 : Hid (Rd (w.alloc (.cells #[.int .i64 0, .int .u64 0, .int .u64 0, .int .u64 0, .slice none 0 0, .slice none 0 0, .slice none 0 0] 28)) b A n c p) := hR.alloc _
  have HRow0 : Hid (Row (w.alloc (.cells #[.int .i64 0, .int .u64 0, .int .u64 0, .int .u64 0, .slice none 0 0, .slice none 0 0, .slice none 0 0] 28)) A n l) := hr.kept ((Below.refl _ _).alloc (Nat.le_refl _) _)
  have HT0 : Hid (OpsTab (w.alloc (.cells #[.int .i64 0, .int .u64 0, .int .u64 0, .int .u64 0, .slice none 0 0, .slice none 0 0, .slice none 0 0] 28))) := ht.keep (Keep.of_below ((Below.refl _ _).alloc (Nat.le_refl _) _))
  have hne : w.heap.size ≠ b := by omega
  have hmf : ∀ (fn : Fn) (first cap : Array Value) (w : World), (Instr.makeFunc fn first cap).run Tryz.prog w = .ok (.func fn first cap) w := fun _ _ _ _ => rfl
  clear hR hr hs ht
  go_enter Tryz.func88, Tryz.ntmps88
  go_wp2_with fail
  refine (HS.out _ HR0.out HRow0.out HT0.out).mono ?_
  rintro e W1 ⟨x, q1, rfl, hx, hP1, hR1, hM1⟩
  unfold RV.agg
  have HX := Lib.hid hx
  rw [size_alloc] at HX
  have HP1 := Lib.hid hP1
  have HR1 := Lib.hid hR1
  have HM1 := Lib.hid (HM.out.trans hM1)
  have H71 := Lib.hid (H7.out.moved hM1 hne)
  clear hx hP1 hR1 hM1
  obtain ⟨y1, y2, c0, c1, c2, c3, c4, c5, c6⟩ := H71.out
  go_wp2
  exact bodyPost_ret (v := .tuple #[.agg #[.int .i64 x.kind, .int .u64 (x.v.a : Int), .int .u64 (x.v.b : Int), .int .u64 (x.v.c : Int), .slice x.A x.v.pre.length x.c, .slice x.B x.v.build.length x.d, .slice x.L x.n x.e], .int .i64 (t.1 : Int)]) (by simp [results, Tryz.results88, go_sem, c0, c1, c2, c3, c4, c5, c6]) rfl (rg_end (x := x) (f := t.1) (s := t.2.1) (r := t.2.2) hbw HX.out HP1.out HR1.out HM1.out)
end Go.Proofs.YtgfbflnhjpbceaaGreatDoor.Range

namespace Go.Proofs.YtgfbflnhjpbceaaGreatDoor.Range
open Go.RowKit Num Ident Semver

/-- What stands one deeper behind a mark. -/
def insideF (deep : Int) (m : Nat) (pf : List UInt8 → Out) (s : List UInt8) : Out := if deep = 64 then (8, s, noRng) else pf (blanks (s.drop m))
set_option maxRecDepth 100000 in
set_option maxHeartbeats 3200000 in
theorem insideE (b : Nat) (A : Option Addr) (n c : Nat) (l : List UInt8) (p : Nat) (s mark : List UInt8) (deep : Int) (pf : List UInt8 → Out) (w : World) (hR : Rd w b A n c p) (hr : Row w A n l) (hs : Pl l p s) (ht : OpsTab w) (hd : 0 ≤ deep ∧ deep ≤ 64) (hst : stands mark s = true) (hp : deep ≠ 64 → PartOK 88 b A n c l (deep + 1) pf) :
    Calls Tryz.prog 169 #[.pointer (some ⟨b, 0, none⟩), .string (mk mark), .int .i64 deep, .func (.func 88) #[.pointer (some ⟨b, 0, none⟩)] #[]] w (RgPost b A n c l w (insideF deep mark.length pf s)) := by
  have hpm : p + mark.length ≤ n := by
    have h1 := stands_len hst
    rw [hs.len, hr.1] at h1
    have h2 := hs.le
    rw [hr.1] at h2
    omega
  have hbw := hR.lt
  have HP := Lib.hid hs
  have HL := Lib.hid hr.1
  have HR := Lib.hid hR
  have HRow := Lib.hid hr
  have HT := Lib.hid ht
  have H7 : Hid (RAt (w.alloc (.cells #[.int .i64 0, .int .u64 0, .int .u64 0, .int .u64 0, .slice none 0 0, .slice none 0 0, .slice none 0 0] 28)) w.heap.size (zeroRV 0)) := RAt.new w 28 (zeroRV 0)
  have HM : Hid (Moved b w (w.alloc (.cells #[.int .i64 0, .int .u64 0, .int .u64 0, .int .u64 0, .slice none 0 0, .slice none 0 0, .slice none 0 0] 28))) := (Moved.refl b w).alloc hbw _
  have HR0 : Hid (Rd (w.alloc (.cells #[.int .i64 0, .int .u64 0, .int .u64 0, .int .u64 0, .slice none 0 0, .slice none 0 0, .slice none 0 0] 28)) b A n c p) := hR.alloc _
  have HRow0 : Hid (Row (w.alloc (.cells #[.int .i64 0, .int .u64 0, .int .u64 0, .int .u64 0, .slice none 0 0, .slice none 0 0, .slice none 0 0] 28)) A n l) := hr.kept ((Below.refl _ _).alloc (Nat.le_refl _) _)
  have HT0 : Hid (OpsTab (w.alloc (.cells #[.int .i64 0, .int .u64 0, .int .u64 0, .int .u64 0, .slice none 0 0, .slice none 0 0, .slice none 0 0] 28))) := ht.keep (Keep.of_below ((Below.refl _ _).alloc (Nat.le_refl _) _))
  have hne : w.heap.size ≠ b := by omega
  have hmf : ∀ (fn : Fn) (first cap : Array Value) (w : World), (Instr.makeFunc fn first cap).run Tryz.prog w = .ok (.func fn first cap) w := fun _ _ _ _ => rfl
  clear hR hr hs ht
  by_cases h64 : deep = 64
  · have HF : Hid (insideF deep mark.length pf s = (8, s, noRng)) := if_pos h64
    subst h64
    clear hp hst
    obtain ⟨y1, y2, c0, c1, c2, c3, c4, c5, c6⟩ := H7.out
    rw [HF.out]
    go_enter Tryz.func169, Tryz.ntmps169
    go_wp2
    exact bodyPost_ret (v := .tuple #[.agg #[.int .i64 0, .int .u64 0, .int .u64 0, .int .u64 0, .slice none 0 0, .slice none 0 0, .slice none 0 0], .int .i64 8]) (by simp [results, Tryz.results169, go_sem]) rfl (⟨zeroRV 0, p, rfl, Lies.zero _ _ 0, HP.out, HR0.out, HM.out⟩)
  · have HF : Hid (insideF deep mark.length pf s = pf (blanks (s.drop mark.length))) := if_neg h64
    have HPP := Lib.hid (hp h64)
    have hb1 : (deep == 64) = false := by simp [h64]
    have hd1 := hd.1
    have hd2 := hd.2
    obtain ⟨s2, hs2⟩ : ∃ s2, blanks (s.drop mark.length) = s2 := ⟨_, rfl⟩
    obtain ⟨t, ht⟩ : ∃ t, pf s2 = t := ⟨_, rfl⟩
    rw [HF.out, hs2, ht]
    have HS2 := Lib.hid hs2
    have HTT := Lib.hid ht
    clear hp hst h64 hd hs2 ht
    go_enter Tryz.func169, Tryz.ntmps169
    go_wp2_with fail
    have hsz : ((mk mark).size : Int) = (mark.length : Int) := rfl
    first
      | refine (pass_any b A n c p mark.length l s _ HR0.out HRow0.out HP.out hpm).mono ?_
      | (rw [hsz]; refine (pass_any b A n c p mark.length l s _ HR0.out HRow0.out HP.out hpm).mono ?_)
    rintro e W2 ⟨rfl, q2, hq2, hR2, hM2⟩
    rw [HS2.out] at hq2
    have HR2 := Lib.hid hR2
    have HP2 := Lib.hid hq2
    have H72 := Lib.hid (H7.out.moved hM2 hne)
    have HK2 := Lib.hid (HR0.out.keep hM2)
    have HRow2 := Lib.hid (row_keep HRow0.out HK2.out)
    have HT2 := Lib.hid (HT0.out.keep HK2.out)
    have HM2 := Lib.hid (HM.out.trans hM2)
    have hz2 : w.heap.size < W2.heap.size := H72.out.1
    clear hR2 hq2 hM2 HK2 HR0 HM H7 HRow0 HT0 HF
    go_wp2_with fail
    refine (HPP.out W2 q2 s2 HR2.out HRow2.out HT2.out HP2.out).mono ?_
    rw [HTT.out]
    rintro e W3 ⟨x, q3, rfl, hx, hP3, hR3, hM3⟩
    unfold RV.agg
    have HX : Hid (Lies W3 (From (w.heap.size + 1)) t.2.2 x) := hx.from_ hz2
    have HP3 := Lib.hid hP3
    have HR3 := Lib.hid hR3
    have HM3 := Lib.hid (HM2.out.trans hM3)
    have H73 := Lib.hid (H72.out.moved hM3 hne)
    clear hx hP3 hR3 hM3
    obtain ⟨y1, y2, c0, c1, c2, c3, c4, c5, c6⟩ := H73.out
    go_wp2
    exact bodyPost_ret (v := .tuple #[.agg #[.int .i64 x.kind, .int .u64 (x.v.a : Int), .int .u64 (x.v.b : Int), .int .u64 (x.v.c : Int), .slice x.A x.v.pre.length x.c, .slice x.B x.v.build.length x.d, .slice x.L x.n x.e], .int .i64 (t.1 : Int)]) (by simp [results, Tryz.results169, go_sem, c0, c1, c2, c3, c4, c5, c6]) rfl (rg_end (x := x) (f := t.1) (s := t.2.1) (r := t.2.2) hbw HX.out HP3.out HR3.out HM3.out)
set_option maxRecDepth 100000 in
set_option maxHeartbeats 3200000 in
theorem insideO (b : Nat) (A : Option Addr) (n c : Nat) (l : List UInt8) (p : Nat) (s mark : List UInt8) (deep : Int) (pf : List UInt8 → Out) (w : World) (hR : Rd w b A n c p) (hr : Row w A n l) (hs : Pl l p s) (ht : OpsTab w) (hd : 0 ≤ deep ∧ deep ≤ 64) (hst : stands mark s = true) (hp : deep ≠ 64 → PartOK 142 b A n c l (deep + 1) pf) :
    Calls Tryz.prog 169 #[.pointer (some ⟨b, 0, none⟩), .string (mk mark), .int .i64 deep, .func (.func 142) #[.pointer (some ⟨b, 0, none⟩)] #[]] w (RgPost b A n c l w (insideF deep mark.length pf s)) := by
  have hpm : p + mark.length ≤ n := by
    have h1 := stands_len hst
    rw [hs.len, hr.1] at h1
    have h2 := hs.le
    rw [hr.1] at h2
    omega
  have hbw := hR.lt
  have HP := Lib.hid hs
  have HL := Lib.hid hr.1
  have HR := Lib.hid hR
  have HRow := Lib.hid hr
  have HT := Lib.hid ht
  have H7 : Hid (RAt (w.alloc (.cells #[.int .i64 0, .int .u64 0, .int .u64 0, .int .u64 0, .slice none 0 0, .slice none 0 0, .slice none 0 0] 28)) w.heap.size (zeroRV 0)) := RAt.new w 28 (zeroRV 0)
  have HM : Hid (Moved b w (w.alloc (.cells #[.int .i64 0, .int .u64 0, .int .u64 0, .int .u64 0, .slice none 0 0, .slice none 0 0, .slice none 0 0] 28))) := (Moved.refl b w).alloc hbw _
  have HR0 : Hid (Rd (w.alloc (.cells #[.int .i64 0, .int .u64 0, .int .u64 0, .int .u64 0, .slice none 0 0, .slice none 0 0, .slice none 0 0] 28)) b A n c p) := hR.alloc _
  have HRow0 : Hid (Row (w.alloc (.cells #[.int .i64 0, .int .u64 0, .int .u64 0, .int .u64 0, .slice none 0 0, .slice none 0 0, .slice none 0 0] 28)) A n l) := hr.kept ((Below.refl _ _).alloc (Nat.le_refl _) _)
  have HT0 : Hid (OpsTab (w.alloc (.cells #[.int .i64 0, .int .u64 0, .int .u64 0, .int .u64 0, .slice none 0 0, .slice none 0 0, .slice none 0 0] 28))) := ht.keep (Keep.of_below ((Below.refl _ _).alloc (Nat.le_refl _) _))
  have hne : w.heap.size ≠ b := by omega
  have hmf : ∀ (fn : Fn) (first cap : Array Value) (w : World), (Instr.makeFunc fn first cap).run Tryz.prog w = .ok (.func fn first cap) w := fun _ _ _ _ => rfl
  clear hR hr hs ht
  by_cases h64 : deep = 64
  · have HF : Hid (insideF deep mark.length pf s = (8, s, noRng)) := if_pos h64
    subst h64
    clear hp hst
    obtain ⟨y1, y2, c0, c1, c2, c3, c4, c5, c6⟩ := H7.out
    rw [HF.out]
    go_enter Tryz.func169, Tryz.ntmps169
    go_wp2
    exact bodyPost_ret (v := .tuple #[.agg #[.int .i64 0, .int .u64 0, .int .u64 0, .int .u64 0, .slice none 0 0, .slice none 0 0, .slice none 0 0], .int .i64 8]) (by simp [results, Tryz.results169, go_sem]) rfl (⟨zeroRV 0, p, rfl, Lies.zero _ _ 0, HP.out, HR0.out, HM.out⟩)
  · have HF : Hid (insideF deep mark.length pf s = pf (blanks (s.drop mark.length))) := if_neg h64
    have HPP := Lib.hid (hp h64)
    have hb1 : (deep == 64) = false := by simp [h64]
    have hd1 := hd.1
    have hd2 := hd.2
    obtain ⟨s2, hs2⟩ : ∃ s2, blanks (s.drop mark.length) = s2 := ⟨_, rfl⟩
    obtain ⟨t, ht⟩ : ∃ t, pf s2 = t := ⟨_, rfl⟩
    rw [HF.out, hs2, ht]
    have HS2 := Lib.hid hs2
    have HTT := Lib.hid ht
    clear hp hst h64 hd hs2 ht
    go_enter Tryz.func169, Tryz.ntmps169
    go_wp2_with fail
    have hsz : ((mk mark).size : Int) = (mark.length : Int) := rfl
    first
      | refine (pass_any b A n c p mark.length l s _ HR0.out HRow0.out HP.out hpm).mono ?_
      | (rw [hsz]; refine (pass_any b A n c p mark.length l s _ HR0.out HRow0.out HP.out hpm).mono ?_)
    rintro e W2 ⟨rfl, q2, hq2, hR2, hM2⟩
    rw [HS2.out] at hq2
    have HR2 := Lib.hid hR2
    have HP2 := Lib.hid hq2
    have H72 := Lib.hid (H7.out.moved hM2 hne)
    have HK2 := Lib.hid (HR0.out.keep hM2)
    have HRow2 := Lib.hid (row_keep HRow0.out HK2.out)
    have HT2 := Lib.hid (HT0.out.keep HK2.out)
    have HM2 := Lib.hid (HM.out.trans hM2)
    have hz2 : w.heap.size < W2.heap.size := H72.out.1
    clear hR2 hq2 hM2 HK2 HR0 HM H7 HRow0 HT0 HF
    go_wp2_with fail
    refine (HPP.out W2 q2 s2 HR2.out HRow2.out HT2.out HP2.out).mono ?_
    rw [HTT.out]
    rintro e W3 ⟨x, q3, rfl, hx, hP3, hR3, hM3⟩
    unfold RV.agg
    have HX : Hid (Lies W3 (From (w.heap.size + 1)) t.2.2 x) := hx.from_ hz2
    have HP3 := Lib.hid hP3
    have HR3 := Lib.hid hR3
    have HM3 := Lib.hid (HM2.out.trans hM3)
    have H73 := Lib.hid (H72.out.moved hM3 hne)
    clear hx hP3 hR3 hM3
    obtain ⟨y1, y2, c0, c1, c2, c3, c4, c5, c6⟩ := H73.out
    go_wp2
    exact bodyPost_ret (v := .tuple #[.agg #[.int .i64 x.kind, .int .u64 (x.v.a : Int), .int .u64 (x.v.b : Int), .int .u64 (x.v.c : Int), .slice x.A x.v.pre.length x.c, .slice x.B x.v.build.length x.d, .slice x.L x.n x.e], .int .i64 (t.1 : Int)]) (by simp [results, Tryz.results169, go_sem, c0, c1, c2, c3, c4, c5, c6]) rfl (rg_end (x := x) (f := t.1) (s := t.2.1) (r := t.2.2) hbw HX.out HP3.out HR3.out HM3.out)
set_option maxRecDepth 100000 in
set_option maxHeartbeats 6400000 in
theorem bracket_ok (b : Nat) (A : Option Addr) (n c : Nat) (l : List UInt8) (p : Nat) (s : List UInt8) (deep : Int) (pf : List UInt8 → Out) (w : World) (hR : Rd w b A n c p) (hr : Row w A n l) (hs : Pl l p s) (ht : OpsTab w) (hc : n ≤ c) (hd : 0 ≤ deep ∧ deep ≤ 64) (hst : stands [40] s = true) (hp : deep ≠ 64 → PartOK 88 b A n c l (deep + 1) pf) :
    Calls Tryz.prog 158 #[.pointer (some ⟨b, 0, none⟩), .int .i64 deep] w (RgPost b A n c l w (shutF (insideF deep 1 pf s))) := by
  have hbw := hR.lt
  have HP := Lib.hid hs
  have HL := Lib.hid hr.1
  have HR := Lib.hid hR
  have HRow := Lib.hid hr
  have HT := Lib.hid ht
  have H7 : Hid (RAt (w.alloc (.cells #[.int .i64 0, .int .u64 0, .int .u64 0, .int .u64 0, .slice none 0 0, .slice none 0 0, .slice none 0 0] 28)) w.heap.size (zeroRV 0)) := RAt.new w 28 (zeroRV 0)
  have HM : Hid (Moved b w (w.alloc (.cells #[.int .i64 0, .int .u64 0, .int .u64 0, .int .u64 0, .slice none 0 0, .slice none 0 0, .slice none 0 0] 28))) := (Moved.refl b w).alloc hbw _
  have HR0 : Hid (Rd (w.alloc (.cells #[.int .i64 0, .int .u64 0, .int .u64 0, .int .u64 0, .slice none 0 0, .slice none 0 0, .slice none 0 0] 28)) b A n c p) := hR.alloc _
  have HRow0 : Hid (Row (w.alloc (.cells #[.int .i64 0, .int .u64 0, .int .u64 0, .int .u64 0, .slice none 0 0, .slice none 0 0, .slice none 0 0] 28)) A n l) := hr.kept ((Below.refl _ _).alloc (Nat.le_refl _) _)
  have HT0 : Hid (OpsTab (w.alloc (.cells #[.int .i64 0, .int .u64 0, .int .u64 0, .int .u64 0, .slice none 0 0, .slice none 0 0, .slice none 0 0] 28))) := ht.keep (Keep.of_below ((Below.refl _ _).alloc (Nat.le_refl _) _))
  have hne : w.heap.size ≠ b := by omega
  have hmf : ∀ (fn : Fn) (first cap : Array Value) (w : World), (Instr.makeFunc fn first cap).run Tryz.prog w = .ok (.func fn first cap) w := fun _ _ _ _ => rfl
  clear hR hr hs ht
  obtain ⟨⟨f, s1, r⟩, hk⟩ : ∃ t, insideF deep 1 pf s = t := ⟨_, rfl⟩
  rw [hk]
  have HKI := Lib.hid hk
  clear hk
  go_enter Tryz.func158, Tryz.ntmps158
  go_wp2_with fail
  refine (insideE b A n c l p s [40] deep pf _ HR0.out HRow0.out HP.out HT0.out hd hst hp).mono ?_
  have e1 : insideF deep ([40] : List UInt8).length pf s = (f, s1, r) := HKI.out
  rw [e1]
  rintro e W1 ⟨x, q1, rfl, hx, hP1, hR1, hM1⟩
  unfold RV.agg
  simp only at hx hP1 ⊢
  have HX := Lib.hid hx
  rw [size_alloc] at HX
  have HP1 := Lib.hid hP1
  have HR1 := Lib.hid hR1
  have HM1 := Lib.hid (HM.out.trans hM1)
  have H71 := Lib.hid (H7.out.moved hM1 hne)
  have hz1 : w.heap.size < W1.heap.size := H71.out.1
  have HK1 := Lib.hid (HR.out.keep HM1.out)
  have HRow1 := Lib.hid (row_keep HRow.out HK1.out)
  clear hx hP1 hR1 hM1 HR0 HM H7 HRow0 HT0 hp hst
  by_cases h0 : f = 0
  · subst h0
    have HF : Hid (shutF (0, s1, r) = if stands [41] s1 = true then (0, blanks (s1.drop 1), r) else (lackN s1, s1, noRng)) := if_neg (by simp)
    have hR2 : Hid (Rd (W1.alloc (.cells #[.int .i64 x.kind, .int .u64 (x.v.a : Int), .int .u64 (x.v.b : Int), .int .u64 (x.v.c : Int), .slice x.A x.v.pre.length x.c, .slice x.B x.v.build.length x.d, .slice x.L x.n x.e] 28)) b A n c q1) := HR1.out.alloc _
    have hM2 : Hid (Moved b w (W1.alloc (.cells #[.int .i64 x.kind, .int .u64 (x.v.a : Int), .int .u64 (x.v.b : Int), .int .u64 (x.v.c : Int), .slice x.A x.v.pre.length x.c, .slice x.B x.v.build.length x.d, .slice x.L x.n x.e] 28))) := HM1.out.alloc hbw _
    have h72 : Hid (RAt (W1.alloc (.cells #[.int .i64 x.kind, .int .u64 (x.v.a : Int), .int .u64 (x.v.b : Int), .int .u64 (x.v.c : Int), .slice x.A x.v.pre.length x.c, .slice x.B x.v.build.length x.d, .slice x.L x.n x.e] 28)) w.heap.size (zeroRV 0)) := H71.out.kept ((Below.refl W1.heap.size W1).alloc (Nat.le_refl _) _) hz1
    have ha2 : Hid (RAt (W1.alloc (.cells #[.int .i64 x.kind, .int .u64 (x.v.a : Int), .int .u64 (x.v.b : Int), .int .u64 (x.v.c : Int), .slice x.A x.v.pre.length x.c, .slice x.B x.v.build.length x.d, .slice x.L x.n x.e] 28)) W1.heap.size x) := RAt.new W1 28 x
    have hX2 : Hid (Lies (W1.alloc (.cells #[.int .i64 x.kind, .int .u64 (x.v.a : Int), .int .u64 (x.v.b : Int), .int .u64 (x.v.c : Int), .slice x.A x.v.pre.length x.c, .slice x.B x.v.build.length x.d, .slice x.L x.n x.e] 28)) (From (w.heap.size + 1)) r x) := HX.out.keep (KeepS.alloc _ _)
    have hRow2 : Hid (Row (W1.alloc (.cells #[.int .i64 x.kind, .int .u64 (x.v.a : Int), .int .u64 (x.v.b : Int), .int .u64 (x.v.c : Int), .slice x.A x.v.pre.length x.c, .slice x.B x.v.build.length x.d, .slice x.L x.n x.e] 28)) A n l) := HRow1.out.kept ((Below.refl _ _).alloc (Nat.le_refl _) _)
    clear HR1 HM1 H71 HX HRow1 HK1
    go_wp2_with fail
    refine (stands_any b A n c q1 l s1 [41] _ hR2.out hRow2.out hc HP1.out (by decide)).mono ?_
    rintro e W3 ⟨rfl, hr3, hm3⟩
    have HR3 := Lib.hid hr3
    have HM3 := Lib.hid (hM2.out.trans hm3)
    have H73 := Lib.hid (h72.out.moved hm3 hne)
    have HA3 := Lib.hid (ha2.out.moved hm3 (by omega))
    have HX3 : Hid (Lies W3 (From (w.heap.size + 1)) r x) := hX2.out.keep (KeepS.moved hm3 (fun h => by unfold From at h; omega))
    have HRow3 := Lib.hid (row_keep HRow.out (HR.out.keep HM3.out))
    clear hr3 hm3 hR2 hM2 h72 ha2 hX2 hRow2
    cases hst1 : stands [41] s1 with
    | true =>
      have HF2 : Hid (shutF (0, s1, r) = (0, blanks (s1.drop 1), r)) := HF.out.trans (if_pos hst1)
      have hpm : q1 + 1 ≤ n := by
        have h1 := stands_len hst1
        rw [HP1.out.len, HL.out] at h1
        have h2 := HP1.out.le
        rw [HL.out] at h2
        simp only [List.length_singleton] at h1
        omega
      clear hst1
      go_wp2_with fail
      refine (pass_any b A n c q1 1 l s1 _ HR3.out HRow3.out HP1.out hpm).mono ?_
      rintro e W4 ⟨rfl, q4, hq4, hr4, hm4⟩
      have HR4 := Lib.hid hr4
      have HP4 := Lib.hid hq4
      have HM4 := Lib.hid (HM3.out.trans hm4)
      have H74 := Lib.hid (H73.out.moved hm4 hne)
      have HA4 := Lib.hid (HA3.out.moved hm4 (by omega))
      have HX4 : Hid (Lies W4 (From (w.heap.size + 1)) r x) := HX3.out.keep (KeepS.moved hm4 (fun h => by unfold From at h; omega))
      clear hr4 hq4 hm4 HR3 HM3 H73 HA3 HX3 HRow3
      obtain ⟨y1, y2, c0, c1, c2, c3, c4, c5, c6⟩ := H74.out
      obtain ⟨_, _, d0, d1, d2, d3, d4, d5, d6⟩ := HA4.out
      go_wp2
      exact bodyPost_ret (v := .tuple #[.agg #[.int .i64 x.kind, .int .u64 (x.v.a : Int), .int .u64 (x.v.b : Int), .int .u64 (x.v.c : Int), .slice x.A x.v.pre.length x.c, .slice x.B x.v.build.length x.d, .slice x.L x.n x.e], .int .i64 0]) (by simp [results, Tryz.results158, go_sem, c0, c1, c2, c3, c4, c5, c6]) rfl (by rw [HF2.out]; exact rg_end (x := x) (f := 0) hbw HX4.out HP4.out HR4.out HM4.out)
    | false =>
      have HF2 : Hid (shutF (0, s1, r) = (lackN s1, s1, noRng)) := HF.out.trans (if_neg (by rw [hst1]; simp))
      clear hst1
      go_wp2_with fail
      refine (lack_any b A n c q1 l s1 _ HR3.out HRow3.out HP1.out).mono ?_
      rintro e W4 ⟨rfl, hr4, hm4⟩
      have HR4 := Lib.hid hr4
      have HM4 := Lib.hid (HM3.out.trans hm4)
      have H74 := Lib.hid (H73.out.moved hm4 hne)
      clear hr4 hm4 HR3 HM3 H73 HA3 HX3 HRow3
      obtain ⟨y1, y2, c0, c1, c2, c3, c4, c5, c6⟩ := H74.out
      go_wp2
      exact bodyPost_ret (v := .tuple #[.agg #[.int .i64 0, .int .u64 0, .int .u64 0, .int .u64 0, .slice none 0 0, .slice none 0 0, .slice none 0 0], .int .i64 (lackN s1 : Int)]) (by simp [results, Tryz.results158, go_sem, c0, c1, c2, c3, c4, c5, c6]) rfl (by rw [HF2.out]; exact rg_end (x := zeroRV 0) hbw (Lies.zero _ _ 0) HP1.out HR4.out HM4.out)
  · have HF : Hid (shutF (f, s1, r) = (f, s1, noRng)) := if_pos h0
    have hb1 : ((f : Int) != 0) = true := by simp [h0]
    have hb2 : ((f : Int) == 0) = false := by simp [h0]
    clear h0
    obtain ⟨y1, y2, c0, c1, c2, c3, c4, c5, c6⟩ := H71.out
    have hw1 : W1.heap.size ≠ w.heap.size := by omega
    go_wp2
    exact bodyPost_ret (v := .tuple #[.agg #[.int .i64 0, .int .u64 0, .int .u64 0, .int .u64 0, .slice none 0 0, .slice none 0 0, .slice none 0 0], .int .i64 (f : Int)]) (by simp [results, Tryz.results158, go_sem, c0, c1, c2, c3, c4, c5, c6, y1]) rfl (by rw [HF.out]; exact (rg_end (x := zeroRV 0) hbw (Lies.zero _ _ 0) HP1.out HR1.out HM1.out).alloc hbw _)
set_option maxRecDepth 100000 in
set_option maxHeartbeats 6400000 in
theorem not_ok (b : Nat) (A : Option Addr) (n c : Nat) (l : List UInt8) (p : Nat) (s : List UInt8) (deep : Int) (pf : List UInt8 → Out) (w : World) (hR : Rd w b A n c p) (hr : Row w A n l) (hs : Pl l p s) (ht : OpsTab w) (hd : 0 ≤ deep ∧ deep ≤ 64) (hst : stands [33] s = true) (hp : deep ≠ 64 → PartOK 142 b A n c l (deep + 1) pf) :
    Calls Tryz.prog 159 #[.pointer (some ⟨b, 0, none⟩), .int .i64 deep] w (RgPost b A n c l w (notF (insideF deep 1 pf s))) := by
  have hbw := hR.lt
  have HP := Lib.hid hs
  have HL := Lib.hid hr.1
  have HR := Lib.hid hR
  have HRow := Lib.hid hr
  have HT := Lib.hid ht
  have H7 : Hid (RAt (w.alloc (.cells #[.int .i64 0, .int .u64 0, .int .u64 0, .int .u64 0, .slice none 0 0, .slice none 0 0, .slice none 0 0] 28)) w.heap.size (zeroRV 0)) := RAt.new w 28 (zeroRV 0)
  have HM : Hid (Moved b w (w.alloc (.cells #[.int .i64 0, .int .u64 0, .int .u64 0, .int .u64 0, .slice none 0 0, .slice none 0 0, .slice none 0 0] 28))) := (Moved.refl b w).alloc hbw _
  have HR0 : Hid (Rd (w.alloc (.cells #[.int .i64 0, .int .u64 0, .int .u64 0, .int .u64 0, .slice none 0 0, .slice none 0 0, .slice none 0 0] 28)) b A n c p) := hR.alloc _
  have HRow0 : Hid (Row (w.alloc (.cells #[.int .i64 0, .int .u64 0, .int .u64 0, .int .u64 0, .slice none 0 0, .slice none 0 0, .slice none 0 0] 28)) A n l) := hr.kept ((Below.refl _ _).alloc (Nat.le_refl _) _)
  have HT0 : Hid (OpsTab (w.alloc (.cells #[.int .i64 0, .int .u64 0, .int .u64 0, .int .u64 0, .slice none 0 0, .slice none 0 0, .slice none 0 0] 28))) := ht.keep (Keep.of_below ((Below.refl _ _).alloc (Nat.le_refl _) _))
  have hne : w.heap.size ≠ b := by omega
  have hmf : ∀ (fn : Fn) (first cap : Array Value) (w : World), (Instr.makeFunc fn first cap).run Tryz.prog w = .ok (.func fn first cap) w := fun _ _ _ _ => rfl
  clear hR hr hs ht
  obtain ⟨⟨f, s1, r⟩, hk⟩ : ∃ t, insideF deep 1 pf s = t := ⟨_, rfl⟩
  rw [hk]
  have HKI := Lib.hid hk
  clear hk
  go_enter Tryz.func159, Tryz.ntmps159
  go_wp2_with fail
  refine (insideO b A n c l p s [33] deep pf _ HR0.out HRow0.out HP.out HT0.out hd hst hp).mono ?_
  have e1 : insideF deep ([33] : List UInt8).length pf s = (f, s1, r) := HKI.out
  rw [e1]
  rintro e W1 ⟨x, q1, rfl, hx, hP1, hR1, hM1⟩
  unfold RV.agg
  simp only at hx hP1 ⊢
  have HX := Lib.hid hx
  rw [size_alloc] at HX
  have HP1 := Lib.hid hP1
  have HR1 := Lib.hid hR1
  have HM1 := Lib.hid (HM.out.trans hM1)
  have H71 := Lib.hid (H7.out.moved hM1 hne)
  have hz1 : w.heap.size < W1.heap.size := H71.out.1
  have HK1 := Lib.hid (HR.out.keep HM1.out)
  have HRow1 := Lib.hid (row_keep HRow.out HK1.out)
  clear hx hP1 hR1 hM1 HR0 HM H7 HRow0 HT0 hp hst
  by_cases h0 : f = 0
  · subst h0
    have HF : Hid (notF (0, s1, r) = (0, s1, .mk 11 noVer [r])) := if_neg (by simp)
    obtain ⟨V, hV⟩ : ∃ V, setR W1 w.heap.size ⟨11, noVer, none, 0, none, 0, some ⟨W1.heap.size + 1, 0, none⟩, 1, 1⟩ = V := ⟨_, rfl⟩
    have hVs : V.heap.size = W1.heap.size := by rw [← hV]; unfold setR; simp
    have hXV : Hid (Lies V (From (w.heap.size + 1)) r x) := by rw [← hV]; exact HX.out.keep (setR_keep (Nat.not_succ_le_self _) _)
    have hX2 : Hid (Lies ((V.alloc (.cells #[.int .i64 x.kind, .int .u64 (x.v.a : Int), .int .u64 (x.v.b : Int), .int .u64 (x.v.c : Int), .slice x.A x.v.pre.length x.c, .slice x.B x.v.build.length x.d, .slice x.L x.n x.e] 28)).alloc (.cells #[.int .i64 x.kind, .int .u64 (x.v.a : Int), .int .u64 (x.v.b : Int), .int .u64 (x.v.c : Int), .slice x.A x.v.pre.length x.c, .slice x.B x.v.build.length x.d, .slice x.L x.n x.e] 28)) (From (w.heap.size + 1)) r x) := (hXV.out.keep (KeepS.alloc _ _)).keep (KeepS.alloc _ _)
    have hrow : Hid (RgRow ((V.alloc (.cells #[.int .i64 x.kind, .int .u64 (x.v.a : Int), .int .u64 (x.v.b : Int), .int .u64 (x.v.c : Int), .slice x.A x.v.pre.length x.c, .slice x.B x.v.build.length x.d, .slice x.L x.n x.e] 28)).alloc (.cells #[.int .i64 x.kind, .int .u64 (x.v.a : Int), .int .u64 (x.v.b : Int), .int .u64 (x.v.c : Int), .slice x.A x.v.pre.length x.c, .slice x.B x.v.build.length x.d, .slice x.L x.n x.e] 28)) (From (w.heap.size + 1)) (some ⟨W1.heap.size + 1, 0, none⟩) 1 [r]) := by
      refine ⟨fun _ => x, rfl, fun _ => ⟨W1.heap.size + 1, 0, rfl, by unfold From; omega, fun k hk i u hu => ?_⟩, fun k hk => ?_⟩
      · obtain rfl : k = 0 := by omega
        have := news_new (V.alloc (.cells #[.int .i64 x.kind, .int .u64 (x.v.a : Int), .int .u64 (x.v.b : Int), .int .u64 (x.v.c : Int), .slice x.A x.v.pre.length x.c, .slice x.B x.v.build.length x.d, .slice x.L x.n x.e] 28)) x.vals 28 i u hu
        rw [size_alloc, add_none, hVs] at this
        rw [Nat.zero_mul, Nat.add_zero]; exact this
      · obtain rfl : k = 0 := by omega
        exact hX2.out
    have hR2 : Hid (Rd ((V.alloc (.cells #[.int .i64 x.kind, .int .u64 (x.v.a : Int), .int .u64 (x.v.b : Int), .int .u64 (x.v.c : Int), .slice x.A x.v.pre.length x.c, .slice x.B x.v.build.length x.d, .slice x.L x.n x.e] 28)).alloc (.cells #[.int .i64 x.kind, .int .u64 (x.v.a : Int), .int .u64 (x.v.b : Int), .int .u64 (x.v.c : Int), .slice x.A x.v.pre.length x.c, .slice x.B x.v.build.length x.d, .slice x.L x.n x.e] 28)) b A n c q1) := by rw [← hV]; exact ((setR_rd HR1.out hbw _).alloc _).alloc _
    have hM2 : Hid (Moved b w ((V.alloc (.cells #[.int .i64 x.kind, .int .u64 (x.v.a : Int), .int .u64 (x.v.b : Int), .int .u64 (x.v.c : Int), .slice x.A x.v.pre.length x.c, .slice x.B x.v.build.length x.d, .slice x.L x.n x.e] 28)).alloc (.cells #[.int .i64 x.kind, .int .u64 (x.v.a : Int), .int .u64 (x.v.b : Int), .int .u64 (x.v.c : Int), .slice x.A x.v.pre.length x.c, .slice x.B x.v.build.length x.d, .slice x.L x.n x.e] 28))) := by rw [← hV]; exact ((setR_moved HM1.out hbw (Nat.le_refl _) _).alloc hbw _).alloc hbw _
    have hfin : Hid (RgPost b A n c l w (0, s1, .mk 11 noVer [r]) (.returned (.tuple #[(RV.agg ⟨11, noVer, none, 0, none, 0, some ⟨W1.heap.size + 1, 0, none⟩, 1, 1⟩), .int .i64 0])) ((V.alloc (.cells #[.int .i64 x.kind, .int .u64 (x.v.a : Int), .int .u64 (x.v.b : Int), .int .u64 (x.v.c : Int), .slice x.A x.v.pre.length x.c, .slice x.B x.v.build.length x.d, .slice x.L x.n x.e] 28)).alloc (.cells #[.int .i64 x.kind, .int .u64 (x.v.a : Int), .int .u64 (x.v.b : Int), .int .u64 (x.v.c : Int), .slice x.A x.v.pre.length x.c, .slice x.B x.v.build.length x.d, .slice x.L x.n x.e] 28))) :=
      ⟨⟨11, noVer, none, 0, none, 0, some ⟨W1.heap.size + 1, 0, none⟩, 1, 1⟩, q1, rfl, (Lies.many 11 hrow.out (Nat.le_refl _) (fun h => by cases h)).from_ (Nat.le_succ _), HP1.out, hR2.out, hM2.out⟩
    rw [← hV] at hfin
    clear hV hVs hXV hX2 hrow hR2 hM2
    obtain ⟨y1, y2, c0, c1, c2, c3, c4, c5, c6⟩ := H71.out
    have hw1 : W1.heap.size ≠ w.heap.size := by omega
    have hw2 : W1.heap.size + 1 ≠ w.heap.size := by omega
    have y3 : w.heap.size < W1.heap.size + 1 := by omega
    go_wp2
    exact bodyPost_ret (v := .tuple #[.agg #[.int .i64 11, .int .u64 0, .int .u64 0, .int .u64 0, .slice none 0 0, .slice none 0 0, .slice (some ⟨W1.heap.size + 1, 0, none⟩) 1 1], .int .i64 0]) (by simp [results, Tryz.results159, go_sem, c0, c1, c2, c3, c4, c5, c6, y1, y3]) rfl (by rw [HF.out]; exact hfin.out)
  · have HF : Hid (notF (f, s1, r) = (f, s1, noRng)) := if_pos h0
    have hb1 : ((f : Int) != 0) = true := by simp [h0]
    have hb2 : ((f : Int) == 0) = false := by simp [h0]
    clear h0
    obtain ⟨y1, y2, c0, c1, c2, c3, c4, c5, c6⟩ := H71.out
    have hw1 : W1.heap.size ≠ w.heap.size := by omega
    go_wp2
    exact bodyPost_ret (v := .tuple #[.agg #[.int .i64 0, .int .u64 0, .int .u64 0, .int .u64 0, .slice none 0 0, .slice none 0 0, .slice none 0 0], .int .i64 (f : Int)]) (by simp [results, Tryz.results159, go_sem, c0, c1, c2, c3, c4, c5, c6, y1]) rfl (by rw [HF.out]; exact (rg_end (x := zeroRV 0) hbw (Lies.zero _ _ 0) HP1.out HR1.out HM1.out).alloc hbw _)
end Go.Proofs.YtgfbflnhjpbceaaGreatDoor.Range

namespace Go.Proofs.YtgfbflnhjpbceaaGreatDoor.Range
open Go.RowKit Num Ident Semver

/-- A one that stands so deep, by what reads an expr and a one that stand one deeper. -/
def oneD (deep : Int) (pe po : List UInt8 → Out) (s : List UInt8) : Out :=
  if stands [42] s = true then (0, blanks (s.drop 1), noRng)
  else if stands [40] s = true then shutF (insideF deep 1 pe s)
  else if (opOf s).2 = [] ∧ stands [33] s = true then notF (insideF deep 1 po s)
  else verAt (opOf s).1 (blanks (s.drop (opOf s).2.length))
theorem pone_oneD (k : Nat) (d : Int) (h : d + k = 64) (s : List UInt8) : pone k s = oneD d (exprF (pone (k - 1))) (pone (k - 1)) s := by
  cases k with
  | zero =>
    have hd : d = 64 := by omega
    subst hd
    rw [pone_zero]
    unfold oneF oneD insideF
    rfl
  | succ k =>
    have hd : d ≠ 64 := by omega
    rw [pone_succ, Nat.add_sub_cancel]
    unfold oneF oneD insideF
    rw [if_neg hd, if_neg hd]
theorem op_stands (s : List UInt8) : stands (opOf s).2 s = true := by
  have hop : ∀ (l : List (List UInt8)) (k : Int), stands (opFrom s l k).2 s = true := by
    intro l
    induction l with
    | nil => intro k; exact stands_nil s
    | cons t r ih =>
      intro k
      rw [opFrom]
      split
      · rename_i h; exact h
      · exact ih _
  exact hop _ _
theorem mk_empty : (mk []).toList.isEmpty = true := (empty_iff _).2 rfl
theorem mk_some {t : List UInt8} (h : t ≠ []) : (mk t).toList.isEmpty = false := (empty_no _).2 fun e => h (List.eq_nil_of_length_eq_zero e)
theorem mk_eq0 : ((mk []).toList == (⟨#[]⟩ : ByteArray).toList) = true := by rw [show (⟨#[]⟩ : ByteArray) = mk [] from rfl]; simp
theorem mk_ne0 {t : List UInt8} (h : t ≠ []) : ((mk t).toList == (⟨#[]⟩ : ByteArray).toList) = false := by
  rw [Lib.toList_data, Lib.toList_data, beq_eq_false_iff_ne]; exact h
set_option maxRecDepth 100000 in
set_option maxHeartbeats 6400000 in
theorem one_ok (b : Nat) (A : Option Addr) (n c : Nat) (l : List UInt8) (deep : Int) (pe po : List UInt8 → Out) (hc : n ≤ c) (hd : 0 ≤ deep ∧ deep ≤ 64) (he : deep ≠ 64 → PartOK 88 b A n c l (deep + 1) pe) (ho : deep ≠ 64 → PartOK 142 b A n c l (deep + 1) po) : PartOK 142 b A n c l deep (oneD deep pe po) := by
  intro w p s hR hr ht hs
  have hbw := hR.lt
  have HP := Lib.hid hs
  have HL := Lib.hid hr.1
  have HR := Lib.hid hR
  have HRow := Lib.hid hr
  have HT := Lib.hid ht
  have H7 : Hid (RAt (w.alloc (.cells #[.int .i64 0, .int .u64 0, .int .u64 0, .int .u64 0, .slice none 0 0, .slice none 0 0, .slice none 0 0] 28)) w.heap.size (zeroRV 0)) := RAt.new w 28 (zeroRV 0)
  have HM : Hid (Moved b w (w.alloc (.cells #[.int .i64 0, .int .u64 0, .int .u64 0, .int .u64 0, .slice none 0 0, .slice none 0 0, .slice none 0 0] 28))) := (Moved.refl b w).alloc hbw _
  have HR0 : Hid (Rd (w.alloc (.cells #[.int .i64 0, .int .u64 0, .int .u64 0, .int .u64 0, .slice none 0 0, .slice none 0 0, .slice none 0 0] 28)) b A n c p) := hR.alloc _
  have HRow0 : Hid (Row (w.alloc (.cells #[.int .i64 0, .int .u64 0, .int .u64 0, .int .u64 0, .slice none 0 0, .slice none 0 0, .slice none 0 0] 28)) A n l) := hr.kept ((Below.refl _ _).alloc (Nat.le_refl _) _)
  have HT0 : Hid (OpsTab (w.alloc (.cells #[.int .i64 0, .int .u64 0, .int .u64 0, .int .u64 0, .slice none 0 0, .slice none 0 0, .slice none 0 0] 28))) := ht.keep (Keep.of_below ((Below.refl _ _).alloc (Nat.le_refl _) _))
  have hne : w.heap.size ≠ b := by omega
  have hmf : ∀ (fn : Fn) (first cap : Array Value) (w : World), (Instr.makeFunc fn first cap).run Tryz.prog w = .ok (.func fn first cap) w := fun _ _ _ _ => rfl
  clear hR hr hs ht
  have hpn : p ≤ n := by have := HP.out.le; rw [HL.out] at this; exact this
  have HLE : Hid (∀ t : List UInt8, stands t s = true → p + t.length ≤ n) := fun t h => by
    have h1 := stands_len h
    rw [HP.out.len, HL.out] at h1
    omega
  have HOS := Lib.hid (HLE.out _ (op_stands s))
  have HOL : Hid ((opOf s).2.length ≤ 10) := by
    have := opFrom_kind s
    rcases this with ⟨_, h⟩ | ⟨_, h⟩ | ⟨_, h⟩ | ⟨_, h⟩ | ⟨_, h⟩ | ⟨_, h⟩ | ⟨_, h⟩ | ⟨_, h⟩ | ⟨_, h⟩ <;> (unfold Hid; rw [h]; decide)
  obtain ⟨t, htt⟩ : ∃ t, oneD deep pe po s = t := ⟨_, rfl⟩
  rw [htt]
  have HT_ : Hid ((if stands [42] s = true then (0, blanks (s.drop 1), noRng) else if stands [40] s = true then shutF (insideF deep 1 pe s) else if (opOf s).2 = [] ∧ stands [33] s = true then notF (insideF deep 1 po s) else verAt (opOf s).1 (blanks (s.drop (opOf s).2.length))) = t) := htt
  clear htt
  have HOP := Lib.hid (fun W h1 h2 h3 => op_any b A n c p l s W h1 h2 hc HP.out h3)
  obtain ⟨⟨kd, o⟩, hop⟩ : ∃ z, opOf s = z := ⟨_, rfl⟩
  rw [hop] at HOP HT_ HOS HOL
  simp only at HOP HT_ HOS HOL
  clear hop
  go_enter Tryz.func142, Tryz.ntmps142
  go_wp2_with fail
  refine (HOP.out _ HR0.out HRow0.out HT0.out).mono ?_
  rintro e W1 ⟨rfl, hR, hM⟩
  have HM1 := Lib.hid (HM.out.trans hM)
  have H71 := Lib.hid (H7.out.moved hM hne)
  have HR1 := Lib.hid hR
  have HRow1 := Lib.hid (row_keep HRow.out (HR.out.keep HM1.out))
  have HT1 := Lib.hid (HT.out.keep (HR.out.keep HM1.out))
  clear hR hM HR0 HM H7 HRow0 HT0
  go_wp2_with fail
  refine (stands_any b A n c p l s [42] _ HR1.out HRow1.out hc HP.out (by decide)).mono ?_
  rintro e W2 ⟨rfl, hR, hM⟩
  have HM2 := Lib.hid (HM1.out.trans hM)
  have H72 := Lib.hid (H71.out.moved hM hne)
  have HR2 := Lib.hid hR
  have HRow2 := Lib.hid (row_keep HRow.out (HR.out.keep HM2.out))
  have HT2 := Lib.hid (HT.out.keep (HR.out.keep HM2.out))
  clear hR hM HR1 HM1 H71 HRow1 HT1
  cases h42 : stands [42] s with
  | true =>
    have HF : Hid (t = (0, blanks (s.drop 1), noRng)) := HT_.out.symm.trans (if_pos h42)
    have hpm := HLE.out [42] h42
    clear h42
    go_wp2_with fail
    refine (pass_any b A n c p 1 l s _ HR2.out HRow2.out HP.out hpm).mono ?_
    rintro e W3 ⟨rfl, q3, hP, hR, hM⟩
    have HM3 := Lib.hid (HM2.out.trans hM)
    have H73 := Lib.hid (H72.out.moved hM hne)
    have HR3 := Lib.hid hR
    have HP3 := Lib.hid hP
    clear hR hM hP
    obtain ⟨y1, y2, c0, c1, c2, c3, c4, c5, c6⟩ := H73.out
    go_wp2
    exact bodyPost_ret (v := .tuple #[.agg #[.int .i64 0, .int .u64 0, .int .u64 0, .int .u64 0, .slice none 0 0, .slice none 0 0, .slice none 0 0], .int .i64 0]) (by simp [results, Tryz.results142, go_sem, c0, c1, c2, c3, c4, c5, c6]) rfl (by rw [HF.out]; exact rg_end (x := zeroRV 0) (f := 0) hbw (Lies.zero _ _ 0) HP3.out HR3.out HM3.out)
  | false =>
    have HT2_ : Hid ((if stands [40] s = true then shutF (insideF deep 1 pe s) else if o = [] ∧ stands [33] s = true then notF (insideF deep 1 po s) else verAt kd (blanks (s.drop o.length))) = t) := (if_neg (by rw [h42]; simp)).symm.trans HT_.out
    clear h42 HT_
    go_wp2_with fail
    refine (stands_any b A n c p l s [40] _ HR2.out HRow2.out hc HP.out (by decide)).mono ?_
    rintro e W3 ⟨rfl, hR, hM⟩
    have HM3 := Lib.hid (HM2.out.trans hM)
    have H73 := Lib.hid (H72.out.moved hM hne)
    have HR3 := Lib.hid hR
    have HRow3 := Lib.hid (row_keep HRow.out (HR.out.keep HM3.out))
    have HT3 := Lib.hid (HT.out.keep (HR.out.keep HM3.out))
    clear hR hM HR2 HM2 H72 HRow2 HT2
    cases h40 : stands [40] s with
    | true =>
      have HF : Hid (shutF (insideF deep 1 pe s) = t) := (if_pos h40).symm.trans HT2_.out
      have HST := Lib.hid h40
      clear h40
      go_wp2_with fail
      refine (bracket_ok b A n c l p s deep pe _ HR3.out HRow3.out HP.out HT3.out hc hd HST.out he).mono ?_
      rw [HF.out]
      rintro e W4 ⟨x, q4, rfl, hx, hP, hR, hM⟩
      unfold RV.agg
      have hz : w.heap.size < W3.heap.size := H73.out.1
      have HX : Hid (Lies W4 (From (w.heap.size + 1)) t.2.2 x) := hx.from_ hz
      have HPx := Lib.hid hP
      have HRx := Lib.hid hR
      have HMx := Lib.hid (HM3.out.trans hM)
      have H7x := Lib.hid (H73.out.moved hM hne)
      clear hx hP hR hM
      obtain ⟨y1, y2, c0, c1, c2, c3, c4, c5, c6⟩ := H7x.out
      go_wp2
      exact bodyPost_ret (v := .tuple #[.agg #[.int .i64 x.kind, .int .u64 (x.v.a : Int), .int .u64 (x.v.b : Int), .int .u64 (x.v.c : Int), .slice x.A x.v.pre.length x.c, .slice x.B x.v.build.length x.d, .slice x.L x.n x.e], .int .i64 (t.1 : Int)]) (by simp [results, Tryz.results142, go_sem, c0, c1, c2, c3, c4, c5, c6]) rfl (rg_end (x := x) (f := t.1) (s := t.2.1) (r := t.2.2) hbw HX.out HPx.out HRx.out HMx.out)
    | false =>
      have HT3_ : Hid ((if o = [] ∧ stands [33] s = true then notF (insideF deep 1 po s) else verAt kd (blanks (s.drop o.length))) = t) := (if_neg (by rw [h40]; simp)).symm.trans HT2_.out
      clear h40 HT2_
      have HVER : Hid (∀ (W : World) (q : Nat) (s2 : List UInt8), Rd W b A n c q → Row W A n l → Pl l q s2 → Calls Tryz.prog 160 #[.pointer (some ⟨b, 0, none⟩), .int .i64 kd] W (RgPost b A n c l W (verAt kd s2))) := fun W q s2 h1 h2 h3 => ver_any b A n c q l s2 kd W h1 h2 hc h3
      have hsz : ((mk o).size : Int) = (o.length : Int) := rfl
      have hpo := HOS.out
      by_cases ho0 : o = []
      · subst ho0
        have he1 := mk_empty
        have he2 := mk_eq0
        go_wp2_with fail
        refine (stands_any b A n c p l s [33] _ HR3.out HRow3.out hc HP.out (by decide)).mono ?_
        rintro e W4 ⟨rfl, hR, hM⟩
        have HM4 := Lib.hid (HM3.out.trans hM)
        have H74 := Lib.hid (H73.out.moved hM hne)
        have HR4 := Lib.hid hR
        have HRow4 := Lib.hid (row_keep HRow.out (HR.out.keep HM4.out))
        have HT4 := Lib.hid (HT.out.keep (HR.out.keep HM4.out))
        clear hR hM HR3 HM3 H73 HRow3 HT3
        cases h33 : stands [33] s with
        | true =>
          have HF : Hid (notF (insideF deep 1 po s) = t) := (if_pos ⟨by first | rfl | trivial, h33⟩).symm.trans HT3_.out
          have HST := Lib.hid h33
          clear h33
          go_wp2_with fail
          refine (not_ok b A n c l p s deep po _ HR4.out HRow4.out HP.out HT4.out hd HST.out ho).mono ?_
          rw [HF.out]
          rintro e W5 ⟨x, q5, rfl, hx, hP, hR, hM⟩
          unfold RV.agg
          have hz : w.heap.size < W4.heap.size := H74.out.1
          have HX : Hid (Lies W5 (From (w.heap.size + 1)) t.2.2 x) := hx.from_ hz
          have HPx := Lib.hid hP
          have HRx := Lib.hid hR
          have HMx := Lib.hid (HM4.out.trans hM)
          have H7x := Lib.hid (H74.out.moved hM hne)
          clear hx hP hR hM
          obtain ⟨y1, y2, c0, c1, c2, c3, c4, c5, c6⟩ := H7x.out
          go_wp2
          exact bodyPost_ret (v := .tuple #[.agg #[.int .i64 x.kind, .int .u64 (x.v.a : Int), .int .u64 (x.v.b : Int), .int .u64 (x.v.c : Int), .slice x.A x.v.pre.length x.c, .slice x.B x.v.build.length x.d, .slice x.L x.n x.e], .int .i64 (t.1 : Int)]) (by simp [results, Tryz.results142, go_sem, c0, c1, c2, c3, c4, c5, c6]) rfl (rg_end (x := x) (f := t.1) (s := t.2.1) (r := t.2.2) hbw HX.out HPx.out HRx.out HMx.out)
        | false =>
          have HF : Hid (verAt kd (blanks (s.drop ([] : List UInt8).length)) = t) := (if_neg (by rw [h33]; simp)).symm.trans HT3_.out
          clear h33
          obtain ⟨s2, hs2⟩ : ∃ s2, blanks (s.drop ([] : List UInt8).length) = s2 := ⟨_, rfl⟩
          rw [hs2] at HF
          go_wp2_with fail
          first
            | refine (pass_any b A n c p ([] : List UInt8).length l s _ HR4.out HRow4.out HP.out hpo).mono ?_
            | (rw [hsz]; refine (pass_any b A n c p ([] : List UInt8).length l s _ HR4.out HRow4.out HP.out hpo).mono ?_)
          rintro e W5 ⟨rfl, q5, hP, hR, hM⟩
          rw [hs2] at hP
          have HP5 := Lib.hid hP
          have HM5 := Lib.hid (HM4.out.trans hM)
          have H75 := Lib.hid (H74.out.moved hM hne)
          have HR5 := Lib.hid hR
          have HRow5 := Lib.hid (row_keep HRow.out (HR.out.keep HM5.out))
          clear hR hM hP hs2
          go_wp2_with fail
          refine (HVER.out W5 q5 s2 HR5.out HRow5.out HP5.out).mono ?_
          rw [HF.out]
          rintro e W6 ⟨x, q6, rfl, hx, hP, hR, hM⟩
          unfold RV.agg
          have hz : w.heap.size < W5.heap.size := H75.out.1
          have HX : Hid (Lies W6 (From (w.heap.size + 1)) t.2.2 x) := hx.from_ hz
          have HPx := Lib.hid hP
          have HRx := Lib.hid hR
          have HMx := Lib.hid (HM5.out.trans hM)
          have H7x := Lib.hid (H75.out.moved hM hne)
          clear hx hP hR hM
          obtain ⟨y1, y2, c0, c1, c2, c3, c4, c5, c6⟩ := H7x.out
          go_wp2
          exact bodyPost_ret (v := .tuple #[.agg #[.int .i64 x.kind, .int .u64 (x.v.a : Int), .int .u64 (x.v.b : Int), .int .u64 (x.v.c : Int), .slice x.A x.v.pre.length x.c, .slice x.B x.v.build.length x.d, .slice x.L x.n x.e], .int .i64 (t.1 : Int)]) (by simp [results, Tryz.results142, go_sem, c0, c1, c2, c3, c4, c5, c6]) rfl (rg_end (x := x) (f := t.1) (s := t.2.1) (r := t.2.2) hbw HX.out HPx.out HRx.out HMx.out)
      · have he1 := mk_some ho0
        have he2 := mk_ne0 ho0
        have HF : Hid (verAt kd (blanks (s.drop o.length)) = t) := (if_neg (fun h => ho0 h.1)).symm.trans HT3_.out
        clear ho0
        obtain ⟨s2, hs2⟩ : ∃ s2, blanks (s.drop o.length) = s2 := ⟨_, rfl⟩
        rw [hs2] at HF
        go_wp2_with fail
        first
          | refine (pass_any b A n c p o.length l s _ HR3.out HRow3.out HP.out hpo).mono ?_
          | (rw [hsz]; refine (pass_any b A n c p o.length l s _ HR3.out HRow3.out HP.out hpo).mono ?_)
        rintro e W4 ⟨rfl, q4, hP, hR, hM⟩
        rw [hs2] at hP
        have HP4 := Lib.hid hP
        have HM4 := Lib.hid (HM3.out.trans hM)
        have H74 := Lib.hid (H73.out.moved hM hne)
        have HR4 := Lib.hid hR
        have HRow4 := Lib.hid (row_keep HRow.out (HR.out.keep HM4.out))
        clear hR hM hP hs2
        go_wp2_with fail
        refine (HVER.out W4 q4 s2 HR4.out HRow4.out HP4.out).mono ?_
        rw [HF.out]
        rintro e W5 ⟨x, q5, rfl, hx, hP, hR, hM⟩
        unfold RV.agg
        have hz : w.heap.size < W4.heap.size := H74.out.1
        have HX : Hid (Lies W5 (From (w.heap.size + 1)) t.2.2 x) := hx.from_ hz
        have HPx := Lib.hid hP
        have HRx := Lib.hid hR
        have HMx := Lib.hid (HM4.out.trans hM)
        have H7x := Lib.hid (H74.out.moved hM hne)
        clear hx hP hR hM
        obtain ⟨y1, y2, c0, c1, c2, c3, c4, c5, c6⟩ := H7x.out
        go_wp2
        exact bodyPost_ret (v := .tuple #[.agg #[.int .i64 x.kind, .int .u64 (x.v.a : Int), .int .u64 (x.v.b : Int), .int .u64 (x.v.c : Int), .slice x.A x.v.pre.length x.c, .slice x.B x.v.build.length x.d, .slice x.L x.n x.e], .int .i64 (t.1 : Int)]) (by simp [results, Tryz.results142, go_sem, c0, c1, c2, c3, c4, c5, c6]) rfl (rg_end (x := x) (f := t.1) (s := t.2.1) (r := t.2.2) hbw HX.out HPx.out HRx.out HMx.out)
/-- All of the reader, by how much deeper its ones may stand. -/
theorem pone_ok (b : Nat) (A : Option Addr) (n c : Nat) (l : List UInt8) (hn : n ≤ 30000000) (hc : n ≤ c) : ∀ (k : Nat) (d : Int), 0 ≤ d → d + k = 64 → PartOK 142 b A n c l d (pone k) := by
  have hev : ∀ (k : Nat) (d : Int), PartOK 142 b A n c l d (pone k) → PartOK 88 b A n c l d (exprF (pone k)) := fun k d h => by
    have h1 := every_ok b A n c l d (pone k) hn hc (pone_prog k) (pone_piece k) h
    exact expr_ok b A n c l d (everyF (pone k)) hn hc (everyF_prog (pone_prog k)) (everyF_piece (pone_piece k)) h1
  intro k
  induction k with
  | zero =>
    intro d hd0 hd
    have hd64 : d = 64 := by omega
    subst hd64
    have h := one_ok b A n c l 64 (exprF (pone (0 - 1))) (pone (0 - 1)) hc ⟨by omega, by omega⟩ (fun h => absurd rfl h) (fun h => absurd rfl h)
    intro W q t h1 h2 h3 h4
    rw [pone_oneD 0 64 (by omega)]
    exact h W q t h1 h2 h3 h4
  | succ k ih =>
    intro d hd0 hd
    have hk := ih (d + 1) (by omega) (by omega)
    have h := one_ok b A n c l d (exprF (pone (k + 1 - 1))) (pone (k + 1 - 1)) hc ⟨by omega, by omega⟩ (fun _ => hev k (d + 1) hk) (fun _ => hk)
    intro W q t h1 h2 h3 h4
    rw [pone_oneD (k + 1) d (by omega)]
    exact h W q t h1 h2 h3 h4
theorem expr64_ok (b : Nat) (A : Option Addr) (n c : Nat) (l : List UInt8) (hn : n ≤ 30000000) (hc : n ≤ c) : PartOK 88 b A n c l 0 (exprF (pone 64)) := by
  have h1 := every_ok b A n c l 0 (pone 64) hn hc (pone_prog 64) (pone_piece 64) (pone_ok b A n c l hn hc 64 0 (by omega) (by omega))
  exact expr_ok b A n c l 0 (everyF (pone 64)) hn hc (everyF_prog (pone_prog 64)) (everyF_piece (pone_piece 64)) h1
end Go.Proofs.YtgfbflnhjpbceaaGreatDoor.Range

namespace Go.Proofs.YtgfbflnhjpbceaaGreatDoor.Range
open Go.RowKit Num Ident Semver

/-- What Parse and Read leave: the range, the place, the error's number. -/
def ParPost (w : World) (r : POut) (e : Ending) (w' : World) : Prop :=
  ∃ x : RV, e = .returned (.tuple #[x.agg, .int .i64 (r.2.1 : Int), .int .i64 (r.1 : Int)]) ∧ Lies w' (From w.heap.size) r.2.2 x ∧ Below w.heap.size w w'
theorem par_end {w W : World} {f q : Nat} {r : Rng} {x : RV} (hL : Lies W (From (w.heap.size + 1)) r x) (hb : Below w.heap.size w W) : ParPost w (f, q, r) (.returned (.tuple #[x.agg, .int .i64 (q : Int), .int .i64 (f : Int)])) (setR W w.heap.size x) :=
  ⟨x, rfl, (hL.keep (setR_keep (Nat.not_succ_le_self _) x)).from_ (Nat.le_succ _), hb.trans (setR_below _ (Nat.le_refl _) x)⟩
theorem setR_rd_lt {W : World} {g b : Nat} {A : Option Addr} {n c p : Nat} {x : RV} (h : Rd W b A n c p) (hne : b ≠ g) : Rd (setR W g x) b A n c p := by
  have hb : (setR W g x).heap[b]? = W.heap[b]? := by
    unfold setR
    simp only [Below.heap_setCell _ _ _ _ (show b ≠ Addr.block ⟨g, _, none⟩ from hne)]
  have hz : (setR W g x).heap.size = W.heap.size := by unfold setR; simp
  have kc : ∀ o, (setR W g x).cell? ⟨b, o, none⟩ = W.cell? ⟨b, o, none⟩ := fun o => World.cell?_of_block (w := W) (a := ⟨b, o, none⟩) hb
  exact ⟨by rw [hz]; exact h.lt, fun o => (World.frozen?_of_block (w := W) (a := ⟨b, o, none⟩) hb).trans (h.open_ o), (kc 0).trans h.row, (kc 1).trans h.at_, (kc 2).trans h.end_⟩
theorem KeepS.drew (S : Nat → Prop) (w : World) : KeepS S w w.drew := ⟨Nat.le_refl _, fun _ _ _ _ h => h⟩
theorem RAt.drew {W : World} {g : Nat} {x : RV} (h : RAt W g x) : RAt W.drew g x := h
theorem ParPost.drew {w W : World} {r : POut} {e : Ending} (h : ParPost w r e W) : ParPost w r e W.drew := by
  obtain ⟨x, h1, h2, h3⟩ := h
  exact ⟨x, h1, h2.keep (KeepS.drew _ _), h3.drew⟩
theorem Rd.new (w : World) (A : Option Addr) (n c p : Nat) (t : TypeId) : Rd (w.alloc (.cells #[.slice A n c, .int .i64 (p : Int)] t)) w.heap.size A n c p := by
  refine ⟨by simp, fun o => by simp [go_sem], ?_, ?_, ?_⟩ <;> simp [go_sem]
set_option maxRecDepth 100000 in
set_option maxHeartbeats 1600000 in
theorem parse_out (A : Option Addr) (n c : Nat) (l : List UInt8) (p : Int) (w : World) (h : Row w A n l) (ho : p < 0 ∨ (n : Int) < p) :
    Calls Tryz.prog 49 #[.slice A n c, .int .i64 p] w (ParPost w (pparse l p)) := by
  have HE : Hid (pparse l p = (1, 0, noRng)) := by unfold Hid pparse; rw [if_pos (by rw [h.1]; exact ho)]
  have HB : Hid (Below w.heap.size w (w.alloc (.cells #[.int .i64 0, .int .u64 0, .int .u64 0, .int .u64 0, .slice none 0 0, .slice none 0 0, .slice none 0 0] 28))) := (Below.refl _ _).alloc (Nat.le_refl _) _
  rw [HE.out]
  clear h HE
  by_cases h0 : p < 0
  · go_enter Tryz.func49, Tryz.ntmps49
    go_wp2
    exact bodyPost_ret (v := .tuple #[.agg #[.int .i64 0, .int .u64 0, .int .u64 0, .int .u64 0, .slice none 0 0, .slice none 0 0, .slice none 0 0], .int .i64 0, .int .i64 1]) (by simp [results, Tryz.results49, go_sem]) rfl (⟨zeroRV 0, rfl, Lies.zero _ _ 0, HB.out⟩)
  · have h1 : (n : Int) < p := by omega
    clear ho
    go_enter Tryz.func49, Tryz.ntmps49
    go_wp2
    exact bodyPost_ret (v := .tuple #[.agg #[.int .i64 0, .int .u64 0, .int .u64 0, .int .u64 0, .slice none 0 0, .slice none 0 0, .slice none 0 0], .int .i64 0, .int .i64 1]) (by simp [results, Tryz.results49, go_sem]) rfl (⟨zeroRV 0, rfl, Lies.zero _ _ 0, HB.out⟩)
set_option maxRecDepth 100000 in
set_option maxHeartbeats 6400000 in
theorem parse_in (A : Option Addr) (n c : Nat) (l : List UInt8) (p : Nat) (w : World) (h : Row w A n l) (hc : n ≤ c) (hn : n ≤ 30000000) (hp : p ≤ n) (ht : OpsTab w) :
    Calls Tryz.prog 49 #[.slice A n c, .int .i64 p] w (ParPost w (pparse l p)) := by
  have HL := Lib.hid h.1
  have hp0 : ¬ (p : Int) < 0 := by omega
  have hp1 : ¬ n < p := by omega
  obtain ⟨b, hb⟩ : ∃ b, w.heap.size + 1 = b := ⟨_, rfl⟩
  have HR0 : Hid (Rd ((w.alloc (.cells #[.int .i64 0, .int .u64 0, .int .u64 0, .int .u64 0, .slice none 0 0, .slice none 0 0, .slice none 0 0] 28)).alloc (.cells #[.slice A n c, .int .i64 (p : Int)] 115)) b A n c p) := by have := Rd.new (w.alloc (.cells #[.int .i64 0, .int .u64 0, .int .u64 0, .int .u64 0, .slice none 0 0, .slice none 0 0, .slice none 0 0] 28)) A n c p 115; rw [size_alloc, hb] at this; exact this
  have HB0 : Hid (Below w.heap.size w ((w.alloc (.cells #[.int .i64 0, .int .u64 0, .int .u64 0, .int .u64 0, .slice none 0 0, .slice none 0 0, .slice none 0 0] 28)).alloc (.cells #[.slice A n c, .int .i64 (p : Int)] 115))) := ((Below.refl _ _).alloc (Nat.le_refl _) _).alloc (by simp) _
  have HRow0 : Hid (Row ((w.alloc (.cells #[.int .i64 0, .int .u64 0, .int .u64 0, .int .u64 0, .slice none 0 0, .slice none 0 0, .slice none 0 0] 28)).alloc (.cells #[.slice A n c, .int .i64 (p : Int)] 115)) A n l) := h.kept HB0.out
  have HT0 : Hid (OpsTab ((w.alloc (.cells #[.int .i64 0, .int .u64 0, .int .u64 0, .int .u64 0, .slice none 0 0, .slice none 0 0, .slice none 0 0] 28)).alloc (.cells #[.slice A n c, .int .i64 (p : Int)] 115))) := ht.keep (Keep.of_below HB0.out)
  have H70 : Hid (RAt ((w.alloc (.cells #[.int .i64 0, .int .u64 0, .int .u64 0, .int .u64 0, .slice none 0 0, .slice none 0 0, .slice none 0 0] 28)).alloc (.cells #[.slice A n c, .int .i64 (p : Int)] 115)) w.heap.size (zeroRV 0)) := (RAt.new w 28 (zeroRV 0)).kept ((Below.refl _ _).alloc (Nat.le_refl _) _) (by simp)
  have HPl : Hid (Pl l p (l.drop p)) := ⟨by rw [HL.out]; exact hp, rfl⟩
  have HX : Hid (PartOK 88 b A n c l 0 (exprF (pone 64))) := expr64_ok b A n c l hn hc
  have hne : w.heap.size ≠ b := by omega
  have hbs : b < (((w.alloc (.cells #[.int .i64 0, .int .u64 0, .int .u64 0, .int .u64 0, .slice none 0 0, .slice none 0 0, .slice none 0 0] 28)).alloc (.cells #[.slice A n c, .int .i64 (p : Int)] 115))).heap.size := HR0.out.lt
  obtain ⟨⟨f, s2, r⟩, hk⟩ : ∃ t, exprF (pone 64) (blanks (l.drop p)) = t := ⟨_, rfl⟩
  have HE : Hid (pparse l p = (f, l.length - s2.length, r)) := by
    unfold Hid pparse; rw [if_neg (by rw [HL.out]; omega), Int.toNat_natCast, hk]
  have HKx := Lib.hid hk
  rw [HE.out]
  clear h ht hk
  go_enter Tryz.func49, Tryz.ntmps49
  go_wp2_with fail
  try rw [hb]
  refine (pass_any b A n c p 0 l (l.drop p) _ HR0.out HRow0.out HPl.out hp).mono ?_
  rw [List.drop_zero]
  rintro e W1 ⟨rfl, q1, hq1, hR1, hM1⟩
  have HK1 := Lib.hid (HR0.out.keep hM1)
  have HRow1 := Lib.hid (row_keep HRow0.out HK1.out)
  have HT1 := Lib.hid (HT0.out.keep HK1.out)
  have H71 := Lib.hid (H70.out.moved hM1 hne)
  have HB1 := Lib.hid (HB0.out.trans ((hM1.below_of (Nat.le_of_lt hbs)).mono (by omega)))
  have HR1 := Lib.hid hR1
  have HQ1 := Lib.hid hq1
  have hbs1 : b < W1.heap.size := hR1.lt
  clear hR1 hM1 hq1 HR0 HRow0 HT0 H70 HB0 HK1
  go_wp2_with fail
  refine (HX.out W1 q1 _ HR1.out HRow1.out HT1.out HQ1.out).mono ?_
  rw [HKx.out]
  rintro e W2 ⟨x, q2, rfl, hx, hP2, hR2, hM2⟩
  unfold RV.agg
  simp only at hx hP2 ⊢
  have H72 := Lib.hid (H71.out.moved hM2 hne)
  have HB2 := Lib.hid (HB1.out.trans ((hM2.below_of (Nat.le_of_lt hbs1)).mono (by omega)))
  have HR2 := Lib.hid hR2
  have HX2 : Hid (Lies W2 (From (w.heap.size + 1)) r x) := hx.from_ (by omega)
  have hq2 : q2 = l.length - s2.length := by
    have h1 := hP2.len
    have h2 := hP2.le
    omega
  subst hq2
  clear hx hP2 hR2 hM2 H71 HB1 HR1 HRow1 HT1 HQ1 HKx HX
  obtain ⟨y1, y2, c0, c1, c2, c3, c4, c5, c6⟩ := H72.out
  have HV : Hid (RAt (((((((W2.setCell ⟨w.heap.size, 0, none⟩ (.int .i64 x.kind)).setCell ⟨w.heap.size, 1, none⟩ (.int .u64 (x.v.a : Int))).setCell ⟨w.heap.size, 2, none⟩ (.int .u64 (x.v.b : Int))).setCell ⟨w.heap.size, 3, none⟩ (.int .u64 (x.v.c : Int))).setCell ⟨w.heap.size, 4, none⟩ (.slice x.A x.v.pre.length x.c)).setCell ⟨w.heap.size, 5, none⟩ (.slice x.B x.v.build.length x.d)).setCell ⟨w.heap.size, 6, none⟩ (.slice x.L x.n x.e)) w.heap.size x) := setR_at H72.out
  have HRV : Hid (Rd (((((((W2.setCell ⟨w.heap.size, 0, none⟩ (.int .i64 x.kind)).setCell ⟨w.heap.size, 1, none⟩ (.int .u64 (x.v.a : Int))).setCell ⟨w.heap.size, 2, none⟩ (.int .u64 (x.v.b : Int))).setCell ⟨w.heap.size, 3, none⟩ (.int .u64 (x.v.c : Int))).setCell ⟨w.heap.size, 4, none⟩ (.slice x.A x.v.pre.length x.c)).setCell ⟨w.heap.size, 5, none⟩ (.slice x.B x.v.build.length x.d)).setCell ⟨w.heap.size, 6, none⟩ (.slice x.L x.n x.e)) b A n c (l.length - s2.length)) := setR_rd_lt HR2.out hne.symm
  have HBV : Hid (Below w.heap.size w (((((((W2.setCell ⟨w.heap.size, 0, none⟩ (.int .i64 x.kind)).setCell ⟨w.heap.size, 1, none⟩ (.int .u64 (x.v.a : Int))).setCell ⟨w.heap.size, 2, none⟩ (.int .u64 (x.v.b : Int))).setCell ⟨w.heap.size, 3, none⟩ (.int .u64 (x.v.c : Int))).setCell ⟨w.heap.size, 4, none⟩ (.slice x.A x.v.pre.length x.c)).setCell ⟨w.heap.size, 5, none⟩ (.slice x.B x.v.build.length x.d)).setCell ⟨w.heap.size, 6, none⟩ (.slice x.L x.n x.e))) := HB2.out.trans (setR_below _ (Nat.le_refl _) x)
  have HXV : Hid (Lies (((((((W2.setCell ⟨w.heap.size, 0, none⟩ (.int .i64 x.kind)).setCell ⟨w.heap.size, 1, none⟩ (.int .u64 (x.v.a : Int))).setCell ⟨w.heap.size, 2, none⟩ (.int .u64 (x.v.b : Int))).setCell ⟨w.heap.size, 3, none⟩ (.int .u64 (x.v.c : Int))).setCell ⟨w.heap.size, 4, none⟩ (.slice x.A x.v.pre.length x.c)).setCell ⟨w.heap.size, 5, none⟩ (.slice x.B x.v.build.length x.d)).setCell ⟨w.heap.size, 6, none⟩ (.slice x.L x.n x.e)) (From (w.heap.size + 1)) r x) := HX2.out.keep (setR_keep (Nat.not_succ_le_self _) x)
  go_upto_region 6 with (fail)
  clear y1 y2 c0 c1 c2 c3 c4 c5 c6 H72 HR2 HB2 HX2
  generalize (((((((W2.setCell ⟨w.heap.size, 0, none⟩ (.int .i64 x.kind)).setCell ⟨w.heap.size, 1, none⟩ (.int .u64 (x.v.a : Int))).setCell ⟨w.heap.size, 2, none⟩ (.int .u64 (x.v.b : Int))).setCell ⟨w.heap.size, 3, none⟩ (.int .u64 (x.v.c : Int))).setCell ⟨w.heap.size, 4, none⟩ (.slice x.A x.v.pre.length x.c)).setCell ⟨w.heap.size, 5, none⟩ (.slice x.B x.v.build.length x.d)).setCell ⟨w.heap.size, 6, none⟩ (.slice x.L x.n x.e)) = V at HV HRV HBV HXV ⊢
  have HVd : Hid (RAt V.drew w.heap.size x) := HV.out.drew
  have HRd : Hid (Rd V.drew b A n c (l.length - s2.length)) := HRV.out.drew
  refine wp_region_held_drew (S := fun w' => RAt w' w.heap.size x ∧ w'.cell? ⟨b, 1, none⟩ = some (.int .i64 ((l.length - s2.length : Nat) : Int))) (by kernel_rfl) ⟨HVd.out, HRd.out.at_⟩ (fun hHeld => ?_)
  refine wpAnyH_take (i := 0) (oi := { dst := some 25, op := Op.load 28 (Operand.tmp 4), type := 28, pos := _, after := _, guard := none }) (v := .agg #[.int .i64 x.kind, .int .u64 (x.v.a : Int), .int .u64 (x.v.b : Int), .int .u64 (x.v.c : Int), .slice x.A x.v.pre.length x.c, .slice x.B x.v.build.length x.d, .slice x.L x.n x.e]) rfl (by kernel_rfl) (by kernel_rfl) (by kernel_rfl) (fun _ _ _ h => h) (Or.inl ⟨by rfl, fun w' hS' => by obtain ⟨_, _, x0, x1, x2, x3, x4, x5, x6⟩ := hS'.1; go_simp⟩) (by assumption) ?_
  simp only [Act.put, List.setIfInBounds_toArray, List.set_cons_zero, List.set_cons_succ]
  refine wpAnyH_take (i := 1) (oi := { dst := some 26, op := Op.fieldAddr 115 (Operand.tmp 7) 1, type := 0, pos := _, after := _, guard := none }) (v := .pointer (some ⟨b, 1, none⟩)) rfl (by kernel_rfl) (by kernel_rfl) (by kernel_rfl) (fun _ _ _ h => h) (Or.inl ⟨by rfl, fun w' hS' => by go_simp⟩) (by assumption) ?_
  simp only [Act.put, List.setIfInBounds_toArray, List.set_cons_zero, List.set_cons_succ]
  refine wpAnyH_take (i := 2) (oi := { dst := some 27, op := Op.load 3 (Operand.tmp 26), type := 3, pos := _, after := _, guard := none }) (v := .int .i64 ((l.length - s2.length : Nat) : Int)) rfl (by kernel_rfl) (by kernel_rfl) (by kernel_rfl) (fun _ _ _ h => h) (Or.inl ⟨by rfl, fun w' hS' => by have x := hS'.2; go_simp⟩) (by assumption) ?_
  simp only [Act.put, List.setIfInBounds_toArray, List.set_cons_zero, List.set_cons_succ]
  refine wpAnyH_take (i := 3) (oi := { dst := some 28, op := Op.move (Operand.tmp 6), type := 46, pos := _, after := _, guard := none }) (v := .int .i64 (f : Int)) rfl (by kernel_rfl) (by kernel_rfl) (by kernel_rfl) (fun _ _ _ h => h) (Or.inl ⟨by rfl, fun w' hS' => by go_simp⟩) (by assumption) ?_
  simp only [Act.put, List.setIfInBounds_toArray, List.set_cons_zero, List.set_cons_succ]
  refine wpAnyH_ready (rs := [4]) (by kernel_rfl) (by simp) ?_
  refine AllReadyH.cons (o := { dst := none, op := Op.store 28 (Operand.tmp 4) (Operand.tmp 25), type := 0, pos := _, after := _, guard := none }) rfl (fun K hK => ?_) AllReadyH.nil
  obtain ⟨z1, z2, x0, x1, x2, x3, x4, x5, x6⟩ := HV.out
  go_simp
  have HV2 : Hid (RAt (setR V w.heap.size x).drew w.heap.size x) := RAt.drew (setR_at HV.out)
  have HRV2 : Hid (Rd (setR V w.heap.size x).drew b A n c (l.length - s2.length)) := (setR_rd_lt HRV.out hne.symm).drew
  have HP2 : Hid (ParPost w (f, l.length - s2.length, r) (.returned (.tuple #[x.agg, .int .i64 ((l.length - s2.length : Nat) : Int), .int .i64 (f : Int)])) (setR V w.heap.size x).drew) := ParPost.drew (par_end HXV.out HBV.out)
  clear z1 z2 x0 x1 x2 x3 x4 x5 x6 hHeld
  refine hK.out _ _ ⟨HV2.out, HRV2.out.at_⟩ (fun hHeld => ?_)
  clear hK K
  try simp only [Act.put, List.setIfInBounds_toArray, List.set_cons_zero, List.set_cons_succ]
  refine wpAnyH_take (i := 5) (oi := { dst := some 5, op := Op.assign (Operand.tmp 27), type := 3, pos := _, after := _, guard := none }) (v := .int .i64 ((l.length - s2.length : Nat) : Int)) rfl (by kernel_rfl) (by kernel_rfl) (by kernel_rfl) (fun _ _ _ h => h) (Or.inl ⟨by rfl, fun w' hS' => by go_simp⟩) (by assumption) ?_
  simp only [Act.put, List.setIfInBounds_toArray, List.set_cons_zero, List.set_cons_succ]
  refine wpAnyH_take (i := 6) (oi := { dst := some 6, op := Op.assign (Operand.tmp 28), type := 46, pos := _, after := _, guard := none }) (v := .int .i64 (f : Int)) rfl (by kernel_rfl) (by kernel_rfl) (by kernel_rfl) (fun _ _ _ h => h) (Or.inl ⟨by rfl, fun w' hS' => by go_simp⟩) (by assumption) ?_
  simp only [Act.put, List.setIfInBounds_toArray, List.set_cons_zero, List.set_cons_succ]
  refine wpAnyH_done (by kernel_rfl) ?_ _
  change Exit.then _ _ _ _ (setR V w.heap.size x).drew
  generalize (setR V w.heap.size x).drew = U at HV2 HP2 ⊢
  obtain ⟨z1, z2, x0, x1, x2, x3, x4, x5, x6⟩ := HV2.out
  go_wp2
  exact bodyPost_ret (v := .tuple #[.agg #[.int .i64 x.kind, .int .u64 (x.v.a : Int), .int .u64 (x.v.b : Int), .int .u64 (x.v.c : Int), .slice x.A x.v.pre.length x.c, .slice x.B x.v.build.length x.d, .slice x.L x.n x.e], .int .i64 ((l.length - s2.length : Nat) : Int), .int .i64 (f : Int)]) (by simp [results, Tryz.results49, go_sem, x0, x1, x2, x3, x4, x5, x6]) rfl HP2.out

theorem parse_any (A : Option Addr) (n c : Nat) (l : List UInt8) (p : Int) (w : World) (h : Row w A n l) (hc : n ≤ c) (hn : n ≤ 30000000) (ht : OpsTab w) :
    Calls Tryz.prog 49 #[.slice A n c, .int .i64 p] w (ParPost w (pparse l p)) := by
  by_cases ho : p < 0 ∨ (n : Int) < p
  · exact parse_out A n c l p w h ho
  · obtain ⟨k, rfl⟩ := Int.eq_ofNat_of_zero_le (show 0 ≤ p by omega)
    exact parse_in A n c l k w h hc hn (by omega) ht
set_option maxRecDepth 100000 in
set_option maxHeartbeats 3200000 in
theorem read_any (s : ByteArray) (w : World) (hs : s.size ≤ 30000000) (ht : OpsTab w) :
    Calls Tryz.prog 24 #[.string s] w (ParPost w (pread s.data.toList)) := by
  have HL := Lib.hid (Lib.size_eq s)
  obtain ⟨cc, W, hcc, hcv, hr, hb⟩ := run_bytes (w.alloc (.cells #[.int .i64 0, .int .u64 0, .int .u64 0, .int .u64 0, .slice none 0 0, .slice none 0 0, .slice none 0 0] 28)) s (by unfold maxLen; omega)
  have H7 : Hid (RAt W w.heap.size (zeroRV 0)) := (RAt.new w 28 (zeroRV 0)).kept hb (by simp)
  have HB : Hid (Below w.heap.size w W) := ((Below.refl w.heap.size w).alloc (Nat.le_refl _) _).trans (hb.mono (by simp))
  have HT : Hid (OpsTab W) := ht.keep (Keep.of_below HB.out)
  have hz : w.heap.size + 1 ≤ W.heap.size := by have := hb.size; simpa using this
  rw [size_alloc] at hr hcv
  have HR := Lib.hid hr
  clear hr hb ht
  generalize s.data.toList = l at HL HR
  have HP := Lib.hid (fun A n c W hW hc hn hT => parse_any A n c l 0 W hW hc hn hT)
  have HI : Hid (pread l = if (pparse l 0).1 ≠ 0 then ((pparse l 0).1, (pparse l 0).2.1, noRng) else if (pparse l 0).2.1 ≠ l.length then (13, (pparse l 0).2.1, noRng) else (0, 0, (pparse l 0).2.2)) := rfl
  obtain ⟨⟨f, q, r⟩, hk⟩ : ∃ t, pparse l 0 = t := ⟨_, rfl⟩
  rw [hk] at HP HI
  simp only at HI
  clear hk
  go_enter Tryz.func24, Tryz.ntmps24
  go_wp2_with fail
  refine (HP.out _ _ _ W HR.out hcc hs HT.out).mono ?_
  rintro e W1 ⟨x, rfl, hx, hb1⟩
  unfold RV.agg
  simp only at hx ⊢
  have H71 := Lib.hid (H7.out.kept hb1 (by omega))
  have HB1 := Lib.hid (HB.out.trans (hb1.mono (by omega)))
  have HX : Hid (Lies W1 (From (w.heap.size + 1)) r x) := hx.from_ (by omega)
  obtain ⟨y1, y2, c0, c1, c2, c3, c4, c5, c6⟩ := H71.out
  have HV : Hid (RAt (((((((W1.setCell ⟨w.heap.size, 0, none⟩ (.int .i64 x.kind)).setCell ⟨w.heap.size, 1, none⟩ (.int .u64 (x.v.a : Int))).setCell ⟨w.heap.size, 2, none⟩ (.int .u64 (x.v.b : Int))).setCell ⟨w.heap.size, 3, none⟩ (.int .u64 (x.v.c : Int))).setCell ⟨w.heap.size, 4, none⟩ (.slice x.A x.v.pre.length x.c)).setCell ⟨w.heap.size, 5, none⟩ (.slice x.B x.v.build.length x.d)).setCell ⟨w.heap.size, 6, none⟩ (.slice x.L x.n x.e)) w.heap.size x) := setR_at H71.out
  have HBV : Hid (Below w.heap.size w (((((((W1.setCell ⟨w.heap.size, 0, none⟩ (.int .i64 x.kind)).setCell ⟨w.heap.size, 1, none⟩ (.int .u64 (x.v.a : Int))).setCell ⟨w.heap.size, 2, none⟩ (.int .u64 (x.v.b : Int))).setCell ⟨w.heap.size, 3, none⟩ (.int .u64 (x.v.c : Int))).setCell ⟨w.heap.size, 4, none⟩ (.slice x.A x.v.pre.length x.c)).setCell ⟨w.heap.size, 5, none⟩ (.slice x.B x.v.build.length x.d)).setCell ⟨w.heap.size, 6, none⟩ (.slice x.L x.n x.e))) := HB1.out.trans (setR_below _ (Nat.le_refl _) x)
  have HXV : Hid (Lies (((((((W1.setCell ⟨w.heap.size, 0, none⟩ (.int .i64 x.kind)).setCell ⟨w.heap.size, 1, none⟩ (.int .u64 (x.v.a : Int))).setCell ⟨w.heap.size, 2, none⟩ (.int .u64 (x.v.b : Int))).setCell ⟨w.heap.size, 3, none⟩ (.int .u64 (x.v.c : Int))).setCell ⟨w.heap.size, 4, none⟩ (.slice x.A x.v.pre.length x.c)).setCell ⟨w.heap.size, 5, none⟩ (.slice x.B x.v.build.length x.d)).setCell ⟨w.heap.size, 6, none⟩ (.slice x.L x.n x.e)) (From (w.heap.size + 1)) r x) := HX.out.keep (setR_keep (Nat.not_succ_le_self _) x)
  clear hx hb1 H7 HB HT hcv HR
  go_upto_region 2 with (fail)
  clear y1 y2 c0 c1 c2 c3 c4 c5 c6 H71 HB1 HX
  generalize (((((((W1.setCell ⟨w.heap.size, 0, none⟩ (.int .i64 x.kind)).setCell ⟨w.heap.size, 1, none⟩ (.int .u64 (x.v.a : Int))).setCell ⟨w.heap.size, 2, none⟩ (.int .u64 (x.v.b : Int))).setCell ⟨w.heap.size, 3, none⟩ (.int .u64 (x.v.c : Int))).setCell ⟨w.heap.size, 4, none⟩ (.slice x.A x.v.pre.length x.c)).setCell ⟨w.heap.size, 5, none⟩ (.slice x.B x.v.build.length x.d)).setCell ⟨w.heap.size, 6, none⟩ (.slice x.L x.n x.e)) = V at HV HBV HXV ⊢
  obtain ⟨y1, y2, c0, c1, c2, c3, c4, c5, c6⟩ := HV.out
  by_cases h0 : f = 0
  · subst h0
    by_cases h1 : q = s.size
    · have HI2 : Hid (pread l = (0, 0, r)) := HI.out.trans ((if_neg (by simp)).trans (if_neg (by rw [← HL.out]; simpa using h1)))
      have hb1 : ((q : Int) != (s.size : Int)) = false := by simp [h1]
      clear h1 HI
      go_wp2
      exact bodyPost_ret (v := .tuple #[.agg #[.int .i64 x.kind, .int .u64 (x.v.a : Int), .int .u64 (x.v.b : Int), .int .u64 (x.v.c : Int), .slice x.A x.v.pre.length x.c, .slice x.B x.v.build.length x.d, .slice x.L x.n x.e], .int .i64 0, .int .i64 0]) (by simp [results, Tryz.results24, go_sem, c0, c1, c2, c3, c4, c5, c6]) rfl (by rw [HI2.out]; exact par_end (x := x) (f := 0) (q := 0) HXV.out HBV.out)
    · have HI2 : Hid (pread l = (13, q, noRng)) := HI.out.trans ((if_neg (by simp)).trans (if_pos (by rw [← HL.out]; exact h1)))
      have hb1 : ((q : Int) != (s.size : Int)) = true := by simp; omega
      clear h1 HI
      go_wp2
      exact bodyPost_ret (v := .tuple #[.agg #[.int .i64 0, .int .u64 0, .int .u64 0, .int .u64 0, .slice none 0 0, .slice none 0 0, .slice none 0 0], .int .i64 (q : Int), .int .i64 13]) (by simp [results, Tryz.results24, go_sem, c0, c1, c2, c3, c4, c5, c6]) rfl (by rw [HI2.out]; exact par_end (x := zeroRV 0) (f := 13) (Lies.zero _ _ 0) HBV.out)
  · have HI2 : Hid (pread l = (f, q, noRng)) := HI.out.trans (if_pos h0)
    have hb1 : ((f : Int) != 0) = true := by simp [h0]
    have hb2 : ((f : Int) == 0) = false := by simp [h0]
    clear h0 HI
    go_wp2
    exact bodyPost_ret (v := .tuple #[.agg #[.int .i64 0, .int .u64 0, .int .u64 0, .int .u64 0, .slice none 0 0, .slice none 0 0, .slice none 0 0], .int .i64 (q : Int), .int .i64 (f : Int)]) (by simp [results, Tryz.results24, go_sem, c0, c1, c2, c3, c4, c5, c6]) rfl (by rw [HI2.out]; exact par_end (x := zeroRV 0) (Lies.zero _ _ 0) HBV.out)
end Go.Proofs.YtgfbflnhjpbceaaGreatDoor.Range

namespace Go.Proofs.YtgfbflnhjpbceaaGreatDoor.Nrm
open Go.RowKit Num Ident Semver Prec Span
open Range (Rng noRng goodR goodL fits wt wtL)
def exA : List UInt8 := (⟨#[94, 49, 46, 50, 46, 48, 44, 32, 33, 61, 49, 46, 51, 46, 48]⟩ : ByteArray).data.toList
def exT : List UInt8 := (⟨#[62, 61, 49, 46, 50, 46, 48, 44, 32, 60, 50, 46, 48, 46, 48, 45, 48, 44, 32, 33, 61, 49, 46, 51, 46, 48]⟩ : ByteArray).data.toList
def v120 : Ver := ⟨1, 2, 0, [], []⟩
def v130 : Ver := ⟨1, 3, 0, [], []⟩
def rA : Rng := .mk 9 noVer [.mk 7 v120 [], .mk 6 v130 []]
def oA : List Sp := [⟨aheadOf v120, aheadOf v130⟩, ⟨behindOf v130, ⟨1, firstV 2 0 0⟩⟩]
theorem exA_read : Range.pread exA = (0, 0, rA) := by rfl
theorem rA_good : goodR rA 0 = true := by decide
theorem oA_norm : Span.Norm oA := (goodS_norm oA).1 (by decide)
theorem oA_chain : Chain oA := fun i hi => by
  have : i = 0 := by have : oA.length = 2 := rfl; omega
  subst this; decide
theorem oA_set : SetOf rA oA := by
  refine ⟨oA_norm, fun c => ?_⟩
  rw [row_sem oA oA_norm (by simp [oA]) oA_chain c]
  show (stand (aheadOf v120) c ≤ 0 ∧ stand c ⟨1, firstV 2 0 0⟩ < 0 ∧ ∀ s ∈ [(⟨aheadOf v120, aheadOf v130⟩ : Sp)], ¬ inOne ⟨aheadOf s.hi.v, behindOf s.hi.v⟩ c) ↔ inC rA c
  have hv : goodV v120 = true := by decide
  unfold rA
  rw [inC_and]
  simp only [List.mem_cons, List.mem_nil_iff, or_false, forall_eq_or_imp, forall_eq]
  rw [inC_ver (by omega) (by omega), inC_ver (by omega) (by omega)]
  have h7 : inK 7 v120 c ↔ stand (aheadOf v120) c ≤ 0 ∧ stand c ⟨1, firstV 2 0 0⟩ < 0 := Iff.rfl
  have h6 : inK 6 v130 c ↔ ¬ inOne ⟨aheadOf v130, behindOf v130⟩ c := Iff.rfl
  rw [h7, h6]
  have hw : stand (aheadOf v120) c ≤ 0 ∧ stand c ⟨1, firstV 2 0 0⟩ < 0 → inOne ⟨low, high⟩ c := fun h => within (s := ⟨aheadOf v120, ⟨1, firstV 2 0 0⟩⟩) (ahead_right hv) (by decide) h
  constructor
  · rintro ⟨a, b, d⟩
    exact ⟨hw ⟨a, b⟩, ⟨hw ⟨a, b⟩, a, b⟩, hw ⟨a, b⟩, d⟩
  · rintro ⟨_, ⟨_, a, b⟩, _, d⟩
    exact ⟨a, b, d⟩
theorem oA_text : Range.textR (plainR oA) = exT := by decide +kernel
end Go.Proofs.YtgfbflnhjpbceaaGreatDoor.Nrm
