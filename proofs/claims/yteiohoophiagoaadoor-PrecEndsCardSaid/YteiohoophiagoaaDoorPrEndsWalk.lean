/-
  PrecEnds: caret's and tilde's end, or that there is none, are as the document says; a right version stands ahead of both, and no version of their numbers ahead of them. Conditions: the rows read as lists of texts, of lengths that the form allows.
-/
import Derived.Test.YteiohoophiagoaaDoorPrAwake
import Derived.Test.YteiohoophiagoaaDoorPrAt
import Derived.Test.YteiohoophiagoaaDoorSvShort
import Derived.Test.YteiohoophiagoaaDoorSvRefSmall
namespace Go.Proofs.YteiohoophiagoaaDoor.Prec
open Go.RowKit Num Ident Semver

theorem end_fit (x y z i : Nat) : Fit (verOf (endV x y z i)).pre ∧ (verOf (endV x y z i)).build = [] := by
  unfold endV
  split
  · split
    · exact ⟨Fit.nil, rfl⟩
    · exact ⟨Fit.zero, rfl⟩
  · split
    · split
      · exact ⟨Fit.nil, rfl⟩
      · exact ⟨Fit.zero, rfl⟩
    · split
      · exact ⟨Fit.nil, rfl⟩
      · exact ⟨Fit.zero, rfl⟩
/-- Both of the ends at once, as the program and the document tell them. -/
theorem caret_told (v : Ver) : ∃ (x : Ver) (s : Bool), (∀ A c B d W, Calls Tryd.prog 8 #[.agg #[.int .u64 (v.a : Int), .int .u64 (v.b : Int), .int .u64 (v.c : Int), .slice A v.pre.length c, .slice B v.build.length d]] W (EndIs W x s)) ∧ (∀ A c B d W, Calls Tryd.prog 10 #[.agg #[.int .u64 (v.a : Int), .int .u64 (v.b : Int), .int .u64 (v.c : Int), .slice A v.pre.length c, .slice B v.build.length d]] W (EndIs W x s)) ∧ (s = true → cmpV v x = -1) ∧ Fit x.pre ∧ x.build = [] := by
  refine ⟨verOf (caretV v), (caretV v).isSome, fun A c B d W => caret_any v A c B d W, fun A c B d W => refCaret_any v A c B d W, fun h => ?_, (end_fit _ _ _ _).1, (end_fit _ _ _ _).2⟩
  cases k : caretV v with
  | none => rw [k] at h; cases h
  | some e => exact caret_ahead k
theorem tilde_told (v : Ver) : ∃ (x : Ver) (s : Bool), (∀ A c B d W, Calls Tryd.prog 9 #[.agg #[.int .u64 (v.a : Int), .int .u64 (v.b : Int), .int .u64 (v.c : Int), .slice A v.pre.length c, .slice B v.build.length d]] W (EndIs W x s)) ∧ (∀ A c B d W, Calls Tryd.prog 11 #[.agg #[.int .u64 (v.a : Int), .int .u64 (v.b : Int), .int .u64 (v.c : Int), .slice A v.pre.length c, .slice B v.build.length d]] W (EndIs W x s)) ∧ (s = true → cmpV v x = -1) ∧ Fit x.pre ∧ x.build = [] := by
  refine ⟨verOf (tildeV v), (tildeV v).isSome, fun A c B d W => tilde_any v A c B d W, fun A c B d W => refTilde_any v A c B d W, fun h => ?_, (end_fit _ _ _ _).1, (end_fit _ _ _ _).2⟩
  cases k : tildeV v with
  | none => rw [k] at h; cases h
  | some e => exact tilde_ahead k
theorem first_told (v : Ver) : ∃ (x : Ver), (∀ W, Calls Tryd.prog 13 #[.int .u64 (v.a : Int), .int .u64 (v.b : Int), .int .u64 (v.c : Int)] W (FirstPost W x)) ∧ (∀ W, Calls Tryd.prog 14 #[.int .u64 (v.a : Int), .int .u64 (v.b : Int), .int .u64 (v.c : Int)] W (FirstPost W x)) ∧ cmpV x v ≤ 0 ∧ Fit x.pre ∧ x.build = [] :=
  ⟨firstV v.a v.b v.c, fun W => first_any _ _ _ W, fun W => refFirst_any _ _ _ W, first_le v, Fit.zero, rfl⟩
theorem same_told (x : Ver) (A B : Option Addr) (c d : Nat) (w : World) (r1 : SRow w A x.pre.length x.pre) (q1 : SRow w B x.pre.length x.pre) (hn : x.pre.length ≤ maxLen) (hb : x.build = []) :
    Calls Tryd.prog 12 #[.agg #[.int .u64 (x.a : Int), .int .u64 (x.b : Int), .int .u64 (x.c : Int), .slice A x.pre.length c, .slice none x.build.length 0], .agg #[.int .u64 (x.a : Int), .int .u64 (x.b : Int), .int .u64 (x.c : Int), .slice B x.pre.length d, .slice none x.build.length 0]] w fun e w' => e = .returned (.bool true) ∧ Below w.heap.size w w' := by
  have k0 : x.build.length = 0 := by rw [hb]; rfl
  have s0 : SRow w none x.build.length x.build := by rw [hb]; exact SRow.none_ _ _
  have k := refSame_any x x A none B none c 0 d 0 w r1 s0 q1 s0 hn (by rw [k0]; unfold maxLen; omega) hn (by rw [k0]; unfold maxLen; omega)
  rw [sameV_self] at k
  exact k
theorem no_build {W : World} {x : Ver} (h : x.build = []) : SRow W none x.build.length x.build := by rw [h]; exact SRow.none_ _ _
theorem no_fit {x : Ver} (h : x.build = []) : Fit x.build := by rw [h]; exact Fit.nil

set_option maxRecDepth 100000 in
set_option maxHeartbeats 6400000 in
theorem precEnds_any (u : Ver) (A1 A2 : Option Addr) (c1 c2 : Nat) (v : Ver) (B1 B2 : Option Addr) (d1 d2 : Nat) (w : World) (ru : SRow w A1 u.pre.length u.pre) (su : SRow w A2 u.build.length u.build) (rv : SRow w B1 v.pre.length v.pre) (sv : SRow w B2 v.build.length v.build)
    (nu : u.pre.length ≤ maxLen) (mu : u.build.length ≤ maxLen) (nv : v.pre.length ≤ maxLen) (mv : v.build.length ≤ maxLen) :
    Calls Tryd.prog 3 #[.agg #[.int .u64 (u.a : Int), .int .u64 (u.b : Int), .int .u64 (u.c : Int), .slice A1 u.pre.length c1, .slice A2 u.build.length c2], .agg #[.int .u64 (v.a : Int), .int .u64 (v.b : Int), .int .u64 (v.c : Int), .slice B1 v.pre.length d1, .slice B2 v.build.length d2]] w fun e w' => e = .returned (.bool true) ∧ Below w.heap.size w w' := by
  have Ku : Hid (VAt ((w.alloc (.cells #[.int .u64 (u.a : Int), .int .u64 (u.b : Int), .int .u64 (u.c : Int), .slice A1 u.pre.length c1, .slice A2 u.build.length c2] 25)).alloc (.cells #[.int .u64 (v.a : Int), .int .u64 (v.b : Int), .int .u64 (v.c : Int), .slice B1 v.pre.length d1, .slice B2 v.build.length d2] 25)) (w.heap.size) u A1 c1 A2 c2) := (VAt.new w ru su 25).alloc _
  have Kv : Hid (VAt ((w.alloc (.cells #[.int .u64 (u.a : Int), .int .u64 (u.b : Int), .int .u64 (u.c : Int), .slice A1 u.pre.length c1, .slice A2 u.build.length c2] 25)).alloc (.cells #[.int .u64 (v.a : Int), .int .u64 (v.b : Int), .int .u64 (v.c : Int), .slice B1 v.pre.length d1, .slice B2 v.build.length d2] 25)) (w.heap.size + 1) v B1 d1 B2 d2) := by
    have k := VAt.new (w.alloc (.cells #[.int .u64 (u.a : Int), .int .u64 (u.b : Int), .int .u64 (u.c : Int), .slice A1 u.pre.length c1, .slice A2 u.build.length c2] 25)) (c := d1) (d := d2) (rv.kept ((Below.refl _ _).alloc (Nat.le_refl _) _)) (sv.kept ((Below.refl _ _).alloc (Nat.le_refl _) _)) 25
    rw [size_alloc] at k
    exact k
  have HB : Hid (Below w.heap.size w ((w.alloc (.cells #[.int .u64 (u.a : Int), .int .u64 (u.b : Int), .int .u64 (u.c : Int), .slice A1 u.pre.length c1, .slice A2 u.build.length c2] 25)).alloc (.cells #[.int .u64 (v.a : Int), .int .u64 (v.b : Int), .int .u64 (v.c : Int), .slice B1 v.pre.length d1, .slice B2 v.build.length d2] 25))) := ((Below.refl _ _).alloc (Nat.le_refl _) _).alloc (by simp) _
  have Nu := Lib.hid nu
  have Mu := Lib.hid mu
  have Nv := Lib.hid nv
  have Mv := Lib.hid mv
  clear ru su nu mu rv sv nv mv
  obtain ⟨x, sx, h1, h2, h3, h4, h5⟩ := caret_told u
  have Px := Lib.hid h1
  have Qx := Lib.hid h2
  have Cx := Lib.hid h3
  have Fx := Lib.hid h4
  have Ux := Lib.hid h5
  clear h1 h2 h3 h4 h5
  obtain ⟨y, sy, h1, h2, h3, h4, h5⟩ := tilde_told u
  have Py := Lib.hid h1
  have Qy := Lib.hid h2
  have Cy := Lib.hid h3
  have Fy := Lib.hid h4
  have Uy := Lib.hid h5
  clear h1 h2 h3 h4 h5
  obtain ⟨f, h1, h2, h3, h4, h5⟩ := first_told u
  have Pf := Lib.hid h1
  have Qf := Lib.hid h2
  have Cf := Lib.hid h3
  have Ff := Lib.hid h4
  have Uf := Lib.hid h5
  clear h1 h2 h3 h4 h5
  obtain ⟨g, h1, h2, h3, h4, h5⟩ := first_told v
  have Pg := Lib.hid h1
  have Qg := Lib.hid h2
  have Cg := Lib.hid h3
  have Fg := Lib.hid h4
  have Ug := Lib.hid h5
  clear h1 h2 h3 h4 h5
  go_enter Tryd.func3, Tryd.ntmps3
  go_upto_region 1 with (fail)
  generalize ((w.alloc (.cells #[.int .u64 (u.a : Int), .int .u64 (u.b : Int), .int .u64 (u.c : Int), .slice A1 u.pre.length c1, .slice A2 u.build.length c2] 25)).alloc (.cells #[.int .u64 (v.a : Int), .int .u64 (v.b : Int), .int .u64 (v.c : Int), .slice B1 v.pre.length d1, .slice B2 v.build.length d2] 25)) = W0 at Ku Kv HB ⊢
  obtain ⟨u_0, u_1, u_2, u_3, u_4⟩ := Ku.out.cells
  obtain ⟨v_0, v_1, v_2, v_3, v_4⟩ := Kv.out.cells
  go_wp2_with fail
  refine (awake_any _).mono ?_
  rintro e W1 ⟨rfl, hb⟩
  replace Ku := Lib.hid (Ku.out.kept hb)
  replace Kv := Lib.hid (Kv.out.kept hb)
  replace HB := Lib.hid (HB.out.trans (hb.mono HB.out.size))
  clear hb
  clear u_0 u_1 u_2 u_3 u_4 v_0 v_1 v_2 v_3 v_4
  obtain ⟨u_0, u_1, u_2, u_3, u_4⟩ := Ku.out.cells
  obtain ⟨v_0, v_1, v_2, v_3, v_4⟩ := Kv.out.cells
  go_wp2_with fail
  refine (vshort_any u A1 c1 A2 c2 _ Ku.out.2.1 Ku.out.2.2 Nu.out Mu.out).mono ?_
  rintro e W2 ⟨rfl, hb⟩
  replace Ku := Lib.hid (Ku.out.kept hb)
  replace Kv := Lib.hid (Kv.out.kept hb)
  replace HB := Lib.hid (HB.out.trans (hb.mono HB.out.size))
  clear hb
  clear u_0 u_1 u_2 u_3 u_4 v_0 v_1 v_2 v_3 v_4
  obtain ⟨u_0, u_1, u_2, u_3, u_4⟩ := Ku.out.cells
  obtain ⟨v_0, v_1, v_2, v_3, v_4⟩ := Kv.out.cells
  by_cases hu : (shortB u.pre && shortB u.build) = true
  · rw [hu]
    rw [Bool.and_eq_true] at hu
    have Su := Lib.hid hu
    clear hu
    go_wp2_with fail
    refine (vshort_any v B1 d1 B2 d2 _ Kv.out.2.1 Kv.out.2.2 Nv.out Mv.out).mono ?_
    rintro e W3 ⟨rfl, hb⟩
    replace Ku := Lib.hid (Ku.out.kept hb)
    replace Kv := Lib.hid (Kv.out.kept hb)
    replace HB := Lib.hid (HB.out.trans (hb.mono HB.out.size))
    clear hb
    clear u_0 u_1 u_2 u_3 u_4 v_0 v_1 v_2 v_3 v_4
    obtain ⟨u_0, u_1, u_2, u_3, u_4⟩ := Ku.out.cells
    obtain ⟨v_0, v_1, v_2, v_3, v_4⟩ := Kv.out.cells
    by_cases hv : (shortB v.pre && shortB v.build) = true
    · rw [hv]
      rw [Bool.and_eq_true] at hv
      have Sv := Lib.hid hv
      clear hv
      go_wp2_with fail
      refine (Px.out _ _ _ _ _).mono ?_
      rintro e W4 ⟨C1, k1, rfl, hr, hq, hb⟩
      clear hq
      replace Ku := Lib.hid (Ku.out.kept hb)
      replace Kv := Lib.hid (Kv.out.kept hb)
      replace HB := Lib.hid (HB.out.trans (hb.mono HB.out.size))
      clear hb
      clear u_0 u_1 u_2 u_3 u_4 v_0 v_1 v_2 v_3 v_4
      obtain ⟨u_0, u_1, u_2, u_3, u_4⟩ := Ku.out.cells
      obtain ⟨v_0, v_1, v_2, v_3, v_4⟩ := Kv.out.cells
      go_upto_region 6 with (fail)
      have Kp : Hid (VAt (W4.alloc (.cells #[.int .u64 (x.a : Int), .int .u64 (x.b : Int), .int .u64 (x.c : Int), .slice C1 x.pre.length k1, .slice none x.build.length 0] 25)) W4.heap.size x C1 k1 none 0) := VAt.new W4 hr (no_build Ux.out) 25
      replace Ku := Lib.hid (Ku.out.alloc (.cells #[.int .u64 (x.a : Int), .int .u64 (x.b : Int), .int .u64 (x.c : Int), .slice C1 x.pre.length k1, .slice none x.build.length 0] 25))
      replace Kv := Lib.hid (Kv.out.alloc (.cells #[.int .u64 (x.a : Int), .int .u64 (x.b : Int), .int .u64 (x.c : Int), .slice C1 x.pre.length k1, .slice none x.build.length 0] 25))
      replace HB := Lib.hid (HB.out.alloc HB.out.size (.cells #[.int .u64 (x.a : Int), .int .u64 (x.b : Int), .int .u64 (x.c : Int), .slice C1 x.pre.length k1, .slice none x.build.length 0] 25))
      obtain ⟨q1, hbk⟩ : ∃ bk, W4.heap.size = bk := ⟨_, rfl⟩
      rw [hbk] at Kp ⊢
      clear hbk
      clear u_0 u_1 u_2 u_3 u_4 v_0 v_1 v_2 v_3 v_4
      generalize (W4.alloc (.cells #[.int .u64 (x.a : Int), .int .u64 (x.b : Int), .int .u64 (x.c : Int), .slice C1 x.pre.length k1, .slice none x.build.length 0] 25)) = W5 at Ku Kv Kp HB ⊢
      obtain ⟨u_0, u_1, u_2, u_3, u_4⟩ := Ku.out.cells
      obtain ⟨v_0, v_1, v_2, v_3, v_4⟩ := Kv.out.cells
      obtain ⟨p_0, p_1, p_2, p_3, p_4⟩ := Kp.out.cells
      clear hr
      go_wp2_with fail
      refine (Py.out _ _ _ _ _).mono ?_
      rintro e W6 ⟨C2, k2, rfl, hr, hq, hb⟩
      clear hq
      replace Ku := Lib.hid (Ku.out.kept hb)
      replace Kv := Lib.hid (Kv.out.kept hb)
      replace Kp := Lib.hid (Kp.out.kept hb)
      replace HB := Lib.hid (HB.out.trans (hb.mono HB.out.size))
      clear hb
      clear u_0 u_1 u_2 u_3 u_4 v_0 v_1 v_2 v_3 v_4 p_0 p_1 p_2 p_3 p_4
      obtain ⟨u_0, u_1, u_2, u_3, u_4⟩ := Ku.out.cells
      obtain ⟨v_0, v_1, v_2, v_3, v_4⟩ := Kv.out.cells
      obtain ⟨p_0, p_1, p_2, p_3, p_4⟩ := Kp.out.cells
      go_upto_region 7 with (fail)
      have Kq : Hid (VAt (W6.alloc (.cells #[.int .u64 (y.a : Int), .int .u64 (y.b : Int), .int .u64 (y.c : Int), .slice C2 y.pre.length k2, .slice none y.build.length 0] 25)) W6.heap.size y C2 k2 none 0) := VAt.new W6 hr (no_build Uy.out) 25
      replace Ku := Lib.hid (Ku.out.alloc (.cells #[.int .u64 (y.a : Int), .int .u64 (y.b : Int), .int .u64 (y.c : Int), .slice C2 y.pre.length k2, .slice none y.build.length 0] 25))
      replace Kv := Lib.hid (Kv.out.alloc (.cells #[.int .u64 (y.a : Int), .int .u64 (y.b : Int), .int .u64 (y.c : Int), .slice C2 y.pre.length k2, .slice none y.build.length 0] 25))
      replace Kp := Lib.hid (Kp.out.alloc (.cells #[.int .u64 (y.a : Int), .int .u64 (y.b : Int), .int .u64 (y.c : Int), .slice C2 y.pre.length k2, .slice none y.build.length 0] 25))
      replace HB := Lib.hid (HB.out.alloc HB.out.size (.cells #[.int .u64 (y.a : Int), .int .u64 (y.b : Int), .int .u64 (y.c : Int), .slice C2 y.pre.length k2, .slice none y.build.length 0] 25))
      obtain ⟨q2, hbk⟩ : ∃ bk, W6.heap.size = bk := ⟨_, rfl⟩
      rw [hbk] at Kq ⊢
      clear hbk
      clear u_0 u_1 u_2 u_3 u_4 v_0 v_1 v_2 v_3 v_4 p_0 p_1 p_2 p_3 p_4
      generalize (W6.alloc (.cells #[.int .u64 (y.a : Int), .int .u64 (y.b : Int), .int .u64 (y.c : Int), .slice C2 y.pre.length k2, .slice none y.build.length 0] 25)) = W7 at Ku Kv Kp Kq HB ⊢
      obtain ⟨u_0, u_1, u_2, u_3, u_4⟩ := Ku.out.cells
      obtain ⟨v_0, v_1, v_2, v_3, v_4⟩ := Kv.out.cells
      obtain ⟨p_0, p_1, p_2, p_3, p_4⟩ := Kp.out.cells
      obtain ⟨q_0, q_1, q_2, q_3, q_4⟩ := Kq.out.cells
      clear hr
      go_wp2_with fail
      refine (Qx.out _ _ _ _ _).mono ?_
      rintro e W8 ⟨C3, k3, rfl, hr, hq, hb⟩
      clear hq
      replace Ku := Lib.hid (Ku.out.kept hb)
      replace Kv := Lib.hid (Kv.out.kept hb)
      replace Kp := Lib.hid (Kp.out.kept hb)
      replace Kq := Lib.hid (Kq.out.kept hb)
      replace HB := Lib.hid (HB.out.trans (hb.mono HB.out.size))
      clear hb
      clear u_0 u_1 u_2 u_3 u_4 v_0 v_1 v_2 v_3 v_4 p_0 p_1 p_2 p_3 p_4 q_0 q_1 q_2 q_3 q_4
      obtain ⟨u_0, u_1, u_2, u_3, u_4⟩ := Ku.out.cells
      obtain ⟨v_0, v_1, v_2, v_3, v_4⟩ := Kv.out.cells
      obtain ⟨p_0, p_1, p_2, p_3, p_4⟩ := Kp.out.cells
      obtain ⟨q_0, q_1, q_2, q_3, q_4⟩ := Kq.out.cells
      go_upto_region 8 with (fail)
      have Kr : Hid (VAt (W8.alloc (.cells #[.int .u64 (x.a : Int), .int .u64 (x.b : Int), .int .u64 (x.c : Int), .slice C3 x.pre.length k3, .slice none x.build.length 0] 25)) W8.heap.size x C3 k3 none 0) := VAt.new W8 hr (no_build Ux.out) 25
      replace Ku := Lib.hid (Ku.out.alloc (.cells #[.int .u64 (x.a : Int), .int .u64 (x.b : Int), .int .u64 (x.c : Int), .slice C3 x.pre.length k3, .slice none x.build.length 0] 25))
      replace Kv := Lib.hid (Kv.out.alloc (.cells #[.int .u64 (x.a : Int), .int .u64 (x.b : Int), .int .u64 (x.c : Int), .slice C3 x.pre.length k3, .slice none x.build.length 0] 25))
      replace Kp := Lib.hid (Kp.out.alloc (.cells #[.int .u64 (x.a : Int), .int .u64 (x.b : Int), .int .u64 (x.c : Int), .slice C3 x.pre.length k3, .slice none x.build.length 0] 25))
      replace Kq := Lib.hid (Kq.out.alloc (.cells #[.int .u64 (x.a : Int), .int .u64 (x.b : Int), .int .u64 (x.c : Int), .slice C3 x.pre.length k3, .slice none x.build.length 0] 25))
      replace HB := Lib.hid (HB.out.alloc HB.out.size (.cells #[.int .u64 (x.a : Int), .int .u64 (x.b : Int), .int .u64 (x.c : Int), .slice C3 x.pre.length k3, .slice none x.build.length 0] 25))
      obtain ⟨q3, hbk⟩ : ∃ bk, W8.heap.size = bk := ⟨_, rfl⟩
      rw [hbk] at Kr ⊢
      clear hbk
      clear u_0 u_1 u_2 u_3 u_4 v_0 v_1 v_2 v_3 v_4 p_0 p_1 p_2 p_3 p_4 q_0 q_1 q_2 q_3 q_4
      generalize (W8.alloc (.cells #[.int .u64 (x.a : Int), .int .u64 (x.b : Int), .int .u64 (x.c : Int), .slice C3 x.pre.length k3, .slice none x.build.length 0] 25)) = W9 at Ku Kv Kp Kq Kr HB ⊢
      obtain ⟨u_0, u_1, u_2, u_3, u_4⟩ := Ku.out.cells
      obtain ⟨v_0, v_1, v_2, v_3, v_4⟩ := Kv.out.cells
      obtain ⟨p_0, p_1, p_2, p_3, p_4⟩ := Kp.out.cells
      obtain ⟨q_0, q_1, q_2, q_3, q_4⟩ := Kq.out.cells
      obtain ⟨r_0, r_1, r_2, r_3, r_4⟩ := Kr.out.cells
      clear hr
      go_wp2_with fail
      refine (Qy.out _ _ _ _ _).mono ?_
      rintro e W10 ⟨C4, k4, rfl, hr, hq, hb⟩
      clear hq
      replace Ku := Lib.hid (Ku.out.kept hb)
      replace Kv := Lib.hid (Kv.out.kept hb)
      replace Kp := Lib.hid (Kp.out.kept hb)
      replace Kq := Lib.hid (Kq.out.kept hb)
      replace Kr := Lib.hid (Kr.out.kept hb)
      replace HB := Lib.hid (HB.out.trans (hb.mono HB.out.size))
      clear hb
      clear u_0 u_1 u_2 u_3 u_4 v_0 v_1 v_2 v_3 v_4 p_0 p_1 p_2 p_3 p_4 q_0 q_1 q_2 q_3 q_4 r_0 r_1 r_2 r_3 r_4
      obtain ⟨u_0, u_1, u_2, u_3, u_4⟩ := Ku.out.cells
      obtain ⟨v_0, v_1, v_2, v_3, v_4⟩ := Kv.out.cells
      obtain ⟨p_0, p_1, p_2, p_3, p_4⟩ := Kp.out.cells
      obtain ⟨q_0, q_1, q_2, q_3, q_4⟩ := Kq.out.cells
      obtain ⟨r_0, r_1, r_2, r_3, r_4⟩ := Kr.out.cells
      go_upto_region 9 with (fail)
      have Ks : Hid (VAt (W10.alloc (.cells #[.int .u64 (y.a : Int), .int .u64 (y.b : Int), .int .u64 (y.c : Int), .slice C4 y.pre.length k4, .slice none y.build.length 0] 25)) W10.heap.size y C4 k4 none 0) := VAt.new W10 hr (no_build Uy.out) 25
      replace Ku := Lib.hid (Ku.out.alloc (.cells #[.int .u64 (y.a : Int), .int .u64 (y.b : Int), .int .u64 (y.c : Int), .slice C4 y.pre.length k4, .slice none y.build.length 0] 25))
      replace Kv := Lib.hid (Kv.out.alloc (.cells #[.int .u64 (y.a : Int), .int .u64 (y.b : Int), .int .u64 (y.c : Int), .slice C4 y.pre.length k4, .slice none y.build.length 0] 25))
      replace Kp := Lib.hid (Kp.out.alloc (.cells #[.int .u64 (y.a : Int), .int .u64 (y.b : Int), .int .u64 (y.c : Int), .slice C4 y.pre.length k4, .slice none y.build.length 0] 25))
      replace Kq := Lib.hid (Kq.out.alloc (.cells #[.int .u64 (y.a : Int), .int .u64 (y.b : Int), .int .u64 (y.c : Int), .slice C4 y.pre.length k4, .slice none y.build.length 0] 25))
      replace Kr := Lib.hid (Kr.out.alloc (.cells #[.int .u64 (y.a : Int), .int .u64 (y.b : Int), .int .u64 (y.c : Int), .slice C4 y.pre.length k4, .slice none y.build.length 0] 25))
      replace HB := Lib.hid (HB.out.alloc HB.out.size (.cells #[.int .u64 (y.a : Int), .int .u64 (y.b : Int), .int .u64 (y.c : Int), .slice C4 y.pre.length k4, .slice none y.build.length 0] 25))
      obtain ⟨q4, hbk⟩ : ∃ bk, W10.heap.size = bk := ⟨_, rfl⟩
      rw [hbk] at Ks ⊢
      clear hbk
      clear u_0 u_1 u_2 u_3 u_4 v_0 v_1 v_2 v_3 v_4 p_0 p_1 p_2 p_3 p_4 q_0 q_1 q_2 q_3 q_4 r_0 r_1 r_2 r_3 r_4
      generalize (W10.alloc (.cells #[.int .u64 (y.a : Int), .int .u64 (y.b : Int), .int .u64 (y.c : Int), .slice C4 y.pre.length k4, .slice none y.build.length 0] 25)) = W11 at Ku Kv Kp Kq Kr Ks HB ⊢
      obtain ⟨u_0, u_1, u_2, u_3, u_4⟩ := Ku.out.cells
      obtain ⟨v_0, v_1, v_2, v_3, v_4⟩ := Kv.out.cells
      obtain ⟨p_0, p_1, p_2, p_3, p_4⟩ := Kp.out.cells
      obtain ⟨q_0, q_1, q_2, q_3, q_4⟩ := Kq.out.cells
      obtain ⟨r_0, r_1, r_2, r_3, r_4⟩ := Kr.out.cells
      obtain ⟨s_0, s_1, s_2, s_3, s_4⟩ := Ks.out.cells
      clear hr
      clear u_0 u_1 u_2 u_3 u_4 v_0 v_1 v_2 v_3 v_4 p_0 p_1 p_2 p_3 p_4 q_0 q_1 q_2 q_3 q_4 r_0 r_1 r_2 r_3 r_4 s_0 s_1 s_2 s_3 s_4
      refine wp_region_held_drew (S := fun w' => (w'.cell? ⟨(w.heap.size), 0, none⟩ = some (.int .u64 (u.a : Int)) ∧ w'.cell? ⟨(w.heap.size), 1, none⟩ = some (.int .u64 (u.b : Int)) ∧ w'.cell? ⟨(w.heap.size), 2, none⟩ = some (.int .u64 (u.c : Int)) ∧ w'.cell? ⟨(w.heap.size), 3, none⟩ = some (.slice A1 u.pre.length c1) ∧ w'.cell? ⟨(w.heap.size), 4, none⟩ = some (.slice A2 u.build.length c2)) ∧ (w'.cell? ⟨(q1), 0, none⟩ = some (.int .u64 (x.a : Int)) ∧ w'.cell? ⟨(q1), 1, none⟩ = some (.int .u64 (x.b : Int)) ∧ w'.cell? ⟨(q1), 2, none⟩ = some (.int .u64 (x.c : Int)) ∧ w'.cell? ⟨(q1), 3, none⟩ = some (.slice C1 x.pre.length k1) ∧ w'.cell? ⟨(q1), 4, none⟩ = some (.slice none x.build.length 0)) ∧ (w'.cell? ⟨(q2), 0, none⟩ = some (.int .u64 (y.a : Int)) ∧ w'.cell? ⟨(q2), 1, none⟩ = some (.int .u64 (y.b : Int)) ∧ w'.cell? ⟨(q2), 2, none⟩ = some (.int .u64 (y.c : Int)) ∧ w'.cell? ⟨(q2), 3, none⟩ = some (.slice C2 y.pre.length k2) ∧ w'.cell? ⟨(q2), 4, none⟩ = some (.slice none y.build.length 0)) ∧ (w'.cell? ⟨(q3), 0, none⟩ = some (.int .u64 (x.a : Int)) ∧ w'.cell? ⟨(q3), 1, none⟩ = some (.int .u64 (x.b : Int)) ∧ w'.cell? ⟨(q3), 2, none⟩ = some (.int .u64 (x.c : Int)) ∧ w'.cell? ⟨(q3), 3, none⟩ = some (.slice C3 x.pre.length k3) ∧ w'.cell? ⟨(q3), 4, none⟩ = some (.slice none x.build.length 0)) ∧ (w'.cell? ⟨(q4), 0, none⟩ = some (.int .u64 (y.a : Int)) ∧ w'.cell? ⟨(q4), 1, none⟩ = some (.int .u64 (y.b : Int)) ∧ w'.cell? ⟨(q4), 2, none⟩ = some (.int .u64 (y.c : Int)) ∧ w'.cell? ⟨(q4), 3, none⟩ = some (.slice C4 y.pre.length k4) ∧ w'.cell? ⟨(q4), 4, none⟩ = some (.slice none y.build.length 0))) (by kernel_rfl) ⟨Ku.out.cells, Kp.out.cells, Kq.out.cells, Kr.out.cells, Ks.out.cells⟩ (fun hHeld => ?_)
      replace Ku := Lib.hid (Ku.out.kept (Below.refl _ _).drew)
      replace Kv := Lib.hid (Kv.out.kept (Below.refl _ _).drew)
      replace Kp := Lib.hid (Kp.out.kept (Below.refl _ _).drew)
      replace Kq := Lib.hid (Kq.out.kept (Below.refl _ _).drew)
      replace Kr := Lib.hid (Kr.out.kept (Below.refl _ _).drew)
      replace Ks := Lib.hid (Ks.out.kept (Below.refl _ _).drew)
      replace HB := Lib.hid HB.out.drew
      refine wpAnyH_take (i := 0) (oi := { dst := some 43, op := Op.move (Operand.tmp 6), type := 4, pos := "law.go:63", after := #[], guard := none }) (v := .bool sx) rfl (by kernel_rfl) (by kernel_rfl) (by kernel_rfl) (fun _ _ _ h => h) (Or.inl ⟨by rfl, fun w' hS' => by go_simp⟩) (by assumption) ?_
      simp only [Act.put, List.setIfInBounds_toArray, List.set_cons_zero, List.set_cons_succ]
      refine wpAnyH_take (i := 1) (oi := { dst := some 44, op := Op.move (Operand.tmp 10), type := 4, pos := "law.go:63", after := #[], guard := none }) (v := .bool sx) rfl (by kernel_rfl) (by kernel_rfl) (by kernel_rfl) (fun _ _ _ h => h) (Or.inl ⟨by rfl, fun w' hS' => by go_simp⟩) (by assumption) ?_
      simp only [Act.put, List.setIfInBounds_toArray, List.set_cons_zero, List.set_cons_succ]
      refine wpAnyH_take (i := 2) (oi := { dst := some 45, op := Op.binOp BinOp.neq 4 (Operand.tmp 43) (Operand.tmp 44) 4, type := 4, pos := "law.go:63", after := #[{ on := 0, ground := Ground.data }, { on := 1, ground := Ground.data }], guard := none }) (v := .bool false) rfl (by kernel_rfl) (by kernel_rfl) (by kernel_rfl) (fun _ _ _ h => h) (Or.inl ⟨by rfl, fun w' hS' => by go_simp⟩) (by assumption) ?_
      simp only [Act.put, List.setIfInBounds_toArray, List.set_cons_zero, List.set_cons_succ]
      refine wpAnyH_take (i := 3) (oi := { dst := some 46, op := Op.move (Operand.tmp 45), type := 4, pos := "law.go:63", after := #[{ on := 2, ground := Ground.data }], guard := none }) (v := .bool false) rfl (by kernel_rfl) (by kernel_rfl) (by kernel_rfl) (fun _ _ _ h => h) (Or.inl ⟨by rfl, fun w' hS' => by go_simp⟩) (by assumption) ?_
      simp only [Act.put, List.setIfInBounds_toArray, List.set_cons_zero, List.set_cons_succ]
      refine wpAnyH_take (i := 4) (oi := { dst := some 47, op := Op.move (Operand.tmp 8), type := 4, pos := "law.go:63", after := #[{ on := 3, ground := Ground.guard }], guard := some (3, false) }) (v := .bool sy) rfl (by kernel_rfl) (by kernel_rfl) (by kernel_rfl) (fun _ _ _ h => h) (Or.inl ⟨by rfl, fun w' hS' => by go_simp⟩) (by assumption) ?_
      simp only [Act.put, List.setIfInBounds_toArray, List.set_cons_zero, List.set_cons_succ]
      refine wpAnyH_take (i := 5) (oi := { dst := some 48, op := Op.move (Operand.tmp 12), type := 4, pos := "law.go:63", after := #[{ on := 3, ground := Ground.guard }], guard := some (3, false) }) (v := .bool sy) rfl (by kernel_rfl) (by kernel_rfl) (by kernel_rfl) (fun _ _ _ h => h) (Or.inl ⟨by rfl, fun w' hS' => by go_simp⟩) (by assumption) ?_
      simp only [Act.put, List.setIfInBounds_toArray, List.set_cons_zero, List.set_cons_succ]
      refine wpAnyH_take (i := 6) (oi := { dst := some 49, op := Op.binOp BinOp.neq 4 (Operand.tmp 47) (Operand.tmp 48) 4, type := 4, pos := "law.go:63", after := #[{ on := 4, ground := Ground.data }, { on := 5, ground := Ground.data }, { on := 3, ground := Ground.guard }], guard := some (3, false) }) (v := .bool false) rfl (by kernel_rfl) (by kernel_rfl) (by kernel_rfl) (fun _ _ _ h => h) (Or.inl ⟨by rfl, fun w' hS' => by go_simp⟩) (by assumption) ?_
      simp only [Act.put, List.setIfInBounds_toArray, List.set_cons_zero, List.set_cons_succ]
      refine wpAnyH_take (i := 7) (oi := { dst := some 50, op := Op.pick (Operand.tmp 46) (Operand.const (Value.bool true)) (Operand.tmp 49), type := 4, pos := "law.go:63", after := #[{ on := 3, ground := Ground.data }, { on := 6, ground := Ground.data }], guard := none }) (v := .bool false) rfl (by kernel_rfl) (by kernel_rfl) (by kernel_rfl) (fun _ _ _ h => h) (Or.inl ⟨by rfl, fun w' hS' => by go_simp⟩) (by assumption) ?_
      simp only [Act.put, List.setIfInBounds_toArray, List.set_cons_zero, List.set_cons_succ]
      refine wpAnyH_take (i := 8) (oi := { dst := some 51, op := Op.move (Operand.tmp 50), type := 4, pos := "law.go:63", after := #[{ on := 7, ground := Ground.data }, { on := 3, ground := Ground.chain }], guard := none }) (v := .bool false) rfl (by kernel_rfl) (by kernel_rfl) (by kernel_rfl) (fun _ _ _ h => h) (Or.inl ⟨by rfl, fun w' hS' => by go_simp⟩) (by assumption) ?_
      simp only [Act.put, List.setIfInBounds_toArray, List.set_cons_zero, List.set_cons_succ]
      refine wpAnyH_take (i := 9) (oi := { dst := some 52, op := Op.load 25 (Operand.tmp 5), type := 25, pos := "law.go:63", after := #[{ on := 8, ground := Ground.guard }], guard := some (8, false) }) (v := .agg #[.int .u64 (x.a : Int), .int .u64 (x.b : Int), .int .u64 (x.c : Int), .slice C1 x.pre.length k1, .slice none x.build.length 0]) rfl (by kernel_rfl) (by kernel_rfl) (by kernel_rfl) (fun _ _ _ h => h) (Or.inl ⟨by rfl, fun w' hS' => by go_simp⟩) (by assumption) ?_
      simp only [Act.put, List.setIfInBounds_toArray, List.set_cons_zero, List.set_cons_succ]
      refine wpAnyH_take (i := 10) (oi := { dst := some 53, op := Op.load 25 (Operand.tmp 9), type := 25, pos := "law.go:63", after := #[{ on := 8, ground := Ground.guard }], guard := some (8, false) }) (v := .agg #[.int .u64 (x.a : Int), .int .u64 (x.b : Int), .int .u64 (x.c : Int), .slice C3 x.pre.length k3, .slice none x.build.length 0]) rfl (by kernel_rfl) (by kernel_rfl) (by kernel_rfl) (fun _ _ _ h => h) (Or.inl ⟨by rfl, fun w' hS' => by go_simp⟩) (by assumption) ?_
      simp only [Act.put, List.setIfInBounds_toArray, List.set_cons_zero, List.set_cons_succ]
      refine wpAnyH_ready (rs := [11]) (by kernel_rfl) (by simp) ?_
      refine AllReadyH.cons (o := { dst := some 54, op := Op.call { callee := Callee.value (Operand.func 12), args := #[Operand.tmp 52, Operand.tmp 53], argTypes := #[25, 25] }, type := 4, pos := "law.go:63", after := #[{ on := 9, ground := Ground.data }, { on := 10, ground := Ground.data }, { on := 8, ground := Ground.chain }, { on := 8, ground := Ground.guard }], guard := some (8, false) }) rfl (fun K hK => ?_) AllReadyH.nil
      go_simp
      refine (same_told x C1 C3 k1 k3 _ Kp.out.2.1 Kr.out.2.1 Fx.out.1 Ux.out).mono ?_
      rintro e W12 ⟨rfl, hb⟩
      replace Ku := Lib.hid (Ku.out.kept hb)
      replace Kv := Lib.hid (Kv.out.kept hb)
      replace Kp := Lib.hid (Kp.out.kept hb)
      replace Kq := Lib.hid (Kq.out.kept hb)
      replace Kr := Lib.hid (Kr.out.kept hb)
      replace Ks := Lib.hid (Ks.out.kept hb)
      replace HB := Lib.hid (HB.out.trans (hb.mono HB.out.size))
      clear hb
      refine hK.out _ _ ⟨Ku.out.cells, Kp.out.cells, Kq.out.cells, Kr.out.cells, Ks.out.cells⟩ (fun hHeld => ?_)
      clear hK K
      try simp only [Act.put, List.setIfInBounds_toArray, List.set_cons_zero, List.set_cons_succ]
      refine wpAnyH_take (i := 12) (oi := { dst := some 55, op := Op.unOp UnOp.not 4 (Operand.tmp 54), type := 4, pos := "law.go:63", after := #[{ on := 11, ground := Ground.data }, { on := 8, ground := Ground.guard }], guard := some (8, false) }) (v := .bool false) rfl (by kernel_rfl) (by kernel_rfl) (by kernel_rfl) (fun _ _ _ h => h) (Or.inl ⟨by rfl, fun w' hS' => by go_simp⟩) (by assumption) ?_
      simp only [Act.put, List.setIfInBounds_toArray, List.set_cons_zero, List.set_cons_succ]
      refine wpAnyH_take (i := 13) (oi := { dst := some 56, op := Op.pick (Operand.tmp 51) (Operand.const (Value.bool true)) (Operand.tmp 55), type := 4, pos := "law.go:63", after := #[{ on := 8, ground := Ground.data }, { on := 12, ground := Ground.data }], guard := none }) (v := .bool false) rfl (by kernel_rfl) (by kernel_rfl) (by kernel_rfl) (fun _ _ _ h => h) (Or.inl ⟨by rfl, fun w' hS' => by go_simp⟩) (by assumption) ?_
      simp only [Act.put, List.setIfInBounds_toArray, List.set_cons_zero, List.set_cons_succ]
      refine wpAnyH_take (i := 14) (oi := { dst := some 57, op := Op.move (Operand.tmp 56), type := 4, pos := "law.go:63", after := #[{ on := 13, ground := Ground.data }, { on := 11, ground := Ground.chain }], guard := none }) (v := .bool false) rfl (by kernel_rfl) (by kernel_rfl) (by kernel_rfl) (fun _ _ _ h => h) (Or.inl ⟨by rfl, fun w' hS' => by go_simp⟩) (by assumption) ?_
      simp only [Act.put, List.setIfInBounds_toArray, List.set_cons_zero, List.set_cons_succ]
      refine wpAnyH_take (i := 15) (oi := { dst := some 58, op := Op.load 25 (Operand.tmp 7), type := 25, pos := "law.go:63", after := #[{ on := 14, ground := Ground.guard }], guard := some (14, false) }) (v := .agg #[.int .u64 (y.a : Int), .int .u64 (y.b : Int), .int .u64 (y.c : Int), .slice C2 y.pre.length k2, .slice none y.build.length 0]) rfl (by kernel_rfl) (by kernel_rfl) (by kernel_rfl) (fun _ _ _ h => h) (Or.inl ⟨by rfl, fun w' hS' => by go_simp⟩) (by assumption) ?_
      simp only [Act.put, List.setIfInBounds_toArray, List.set_cons_zero, List.set_cons_succ]
      refine wpAnyH_take (i := 16) (oi := { dst := some 59, op := Op.load 25 (Operand.tmp 11), type := 25, pos := "law.go:63", after := #[{ on := 14, ground := Ground.guard }], guard := some (14, false) }) (v := .agg #[.int .u64 (y.a : Int), .int .u64 (y.b : Int), .int .u64 (y.c : Int), .slice C4 y.pre.length k4, .slice none y.build.length 0]) rfl (by kernel_rfl) (by kernel_rfl) (by kernel_rfl) (fun _ _ _ h => h) (Or.inl ⟨by rfl, fun w' hS' => by go_simp⟩) (by assumption) ?_
      simp only [Act.put, List.setIfInBounds_toArray, List.set_cons_zero, List.set_cons_succ]
      refine wpAnyH_ready (rs := [17]) (by kernel_rfl) (by simp) ?_
      refine AllReadyH.cons (o := { dst := some 60, op := Op.call { callee := Callee.value (Operand.func 12), args := #[Operand.tmp 58, Operand.tmp 59], argTypes := #[25, 25] }, type := 4, pos := "law.go:63", after := #[{ on := 15, ground := Ground.data }, { on := 16, ground := Ground.data }, { on := 14, ground := Ground.chain }, { on := 14, ground := Ground.guard }], guard := some (14, false) }) rfl (fun K hK => ?_) AllReadyH.nil
      go_simp
      refine (same_told y C2 C4 k2 k4 _ Kq.out.2.1 Ks.out.2.1 Fy.out.1 Uy.out).mono ?_
      rintro e W13 ⟨rfl, hb⟩
      replace Ku := Lib.hid (Ku.out.kept hb)
      replace Kv := Lib.hid (Kv.out.kept hb)
      replace Kp := Lib.hid (Kp.out.kept hb)
      replace Kq := Lib.hid (Kq.out.kept hb)
      replace Kr := Lib.hid (Kr.out.kept hb)
      replace Ks := Lib.hid (Ks.out.kept hb)
      replace HB := Lib.hid (HB.out.trans (hb.mono HB.out.size))
      clear hb
      refine hK.out _ _ ⟨Ku.out.cells, Kp.out.cells, Kq.out.cells, Kr.out.cells, Ks.out.cells⟩ (fun hHeld => ?_)
      clear hK K
      try simp only [Act.put, List.setIfInBounds_toArray, List.set_cons_zero, List.set_cons_succ]
      refine wpAnyH_take (i := 18) (oi := { dst := some 61, op := Op.unOp UnOp.not 4 (Operand.tmp 60), type := 4, pos := "law.go:63", after := #[{ on := 17, ground := Ground.data }, { on := 14, ground := Ground.guard }], guard := some (14, false) }) (v := .bool false) rfl (by kernel_rfl) (by kernel_rfl) (by kernel_rfl) (fun _ _ _ h => h) (Or.inl ⟨by rfl, fun w' hS' => by go_simp⟩) (by assumption) ?_
      simp only [Act.put, List.setIfInBounds_toArray, List.set_cons_zero, List.set_cons_succ]
      refine wpAnyH_take (i := 19) (oi := { dst := some 62, op := Op.pick (Operand.tmp 57) (Operand.const (Value.bool true)) (Operand.tmp 61), type := 4, pos := "law.go:63", after := #[{ on := 14, ground := Ground.data }, { on := 18, ground := Ground.data }], guard := none }) (v := .bool false) rfl (by kernel_rfl) (by kernel_rfl) (by kernel_rfl) (fun _ _ _ h => h) (Or.inl ⟨by rfl, fun w' hS' => by go_simp⟩) (by assumption) ?_
      simp only [Act.put, List.setIfInBounds_toArray, List.set_cons_zero, List.set_cons_succ]
      refine wpAnyH_take (i := 20) (oi := { dst := some 63, op := Op.move (Operand.tmp 62), type := 4, pos := "law.go:63", after := #[{ on := 19, ground := Ground.data }, { on := 17, ground := Ground.chain }], guard := none }) (v := .bool false) rfl (by kernel_rfl) (by kernel_rfl) (by kernel_rfl) (fun _ _ _ h => h) (Or.inl ⟨by rfl, fun w' hS' => by go_simp⟩) (by assumption) ?_
      simp only [Act.put, List.setIfInBounds_toArray, List.set_cons_zero, List.set_cons_succ]
      refine wpAnyH_take (i := 21) (oi := { dst := some 64, op := Op.fieldAddr 25 (Operand.tmp 2) 0, type := 0, pos := "law.go:63", after := #[{ on := 20, ground := Ground.guard }], guard := some (20, false) }) (v := .pointer (some ⟨w.heap.size, 0, none⟩)) rfl (by kernel_rfl) (by kernel_rfl) (by kernel_rfl) (fun _ _ _ h => h) (Or.inl ⟨by rfl, fun w' hS' => by go_simp⟩) (by assumption) ?_
      simp only [Act.put, List.setIfInBounds_toArray, List.set_cons_zero, List.set_cons_succ]
      refine wpAnyH_take (i := 22) (oi := { dst := some 65, op := Op.load 22 (Operand.tmp 64), type := 22, pos := "law.go:63", after := #[{ on := 21, ground := Ground.data }, { on := 20, ground := Ground.guard }], guard := some (20, false) }) (v := .int .u64 (u.a : Int)) rfl (by kernel_rfl) (by kernel_rfl) (by kernel_rfl) (fun _ _ _ h => h) (Or.inl ⟨by rfl, fun w' hS' => by go_simp⟩) (by assumption) ?_
      simp only [Act.put, List.setIfInBounds_toArray, List.set_cons_zero, List.set_cons_succ]
      refine wpAnyH_take (i := 23) (oi := { dst := some 66, op := Op.fieldAddr 25 (Operand.tmp 2) 1, type := 0, pos := "law.go:63", after := #[{ on := 20, ground := Ground.guard }], guard := some (20, false) }) (v := .pointer (some ⟨w.heap.size, 1, none⟩)) rfl (by kernel_rfl) (by kernel_rfl) (by kernel_rfl) (fun _ _ _ h => h) (Or.inl ⟨by rfl, fun w' hS' => by go_simp⟩) (by assumption) ?_
      simp only [Act.put, List.setIfInBounds_toArray, List.set_cons_zero, List.set_cons_succ]
      refine wpAnyH_take (i := 24) (oi := { dst := some 67, op := Op.load 22 (Operand.tmp 66), type := 22, pos := "law.go:63", after := #[{ on := 23, ground := Ground.data }, { on := 20, ground := Ground.guard }], guard := some (20, false) }) (v := .int .u64 (u.b : Int)) rfl (by kernel_rfl) (by kernel_rfl) (by kernel_rfl) (fun _ _ _ h => h) (Or.inl ⟨by rfl, fun w' hS' => by go_simp⟩) (by assumption) ?_
      simp only [Act.put, List.setIfInBounds_toArray, List.set_cons_zero, List.set_cons_succ]
      refine wpAnyH_take (i := 25) (oi := { dst := some 68, op := Op.fieldAddr 25 (Operand.tmp 2) 2, type := 0, pos := "law.go:63", after := #[{ on := 20, ground := Ground.guard }], guard := some (20, false) }) (v := .pointer (some ⟨w.heap.size, 2, none⟩)) rfl (by kernel_rfl) (by kernel_rfl) (by kernel_rfl) (fun _ _ _ h => h) (Or.inl ⟨by rfl, fun w' hS' => by go_simp⟩) (by assumption) ?_
      simp only [Act.put, List.setIfInBounds_toArray, List.set_cons_zero, List.set_cons_succ]
      refine wpAnyH_take (i := 26) (oi := { dst := some 69, op := Op.load 22 (Operand.tmp 68), type := 22, pos := "law.go:63", after := #[{ on := 25, ground := Ground.data }, { on := 20, ground := Ground.guard }], guard := some (20, false) }) (v := .int .u64 (u.c : Int)) rfl (by kernel_rfl) (by kernel_rfl) (by kernel_rfl) (fun _ _ _ h => h) (Or.inl ⟨by rfl, fun w' hS' => by go_simp⟩) (by assumption) ?_
      simp only [Act.put, List.setIfInBounds_toArray, List.set_cons_zero, List.set_cons_succ]
      refine wpAnyH_take (i := 28) (oi := { dst := some 71, op := Op.fieldAddr 25 (Operand.tmp 2) 0, type := 0, pos := "law.go:63", after := #[{ on := 20, ground := Ground.guard }], guard := some (20, false) }) (v := .pointer (some ⟨w.heap.size, 0, none⟩)) rfl (by kernel_rfl) (by kernel_rfl) (by kernel_rfl) (fun _ _ _ h => h) (Or.inl ⟨by rfl, fun w' hS' => by go_simp⟩) (by assumption) ?_
      simp only [Act.put, List.setIfInBounds_toArray, List.set_cons_zero, List.set_cons_succ]
      refine wpAnyH_take (i := 29) (oi := { dst := some 72, op := Op.load 22 (Operand.tmp 71), type := 22, pos := "law.go:63", after := #[{ on := 28, ground := Ground.data }, { on := 20, ground := Ground.guard }], guard := some (20, false) }) (v := .int .u64 (u.a : Int)) rfl (by kernel_rfl) (by kernel_rfl) (by kernel_rfl) (fun _ _ _ h => h) (Or.inl ⟨by rfl, fun w' hS' => by go_simp⟩) (by assumption) ?_
      simp only [Act.put, List.setIfInBounds_toArray, List.set_cons_zero, List.set_cons_succ]
      refine wpAnyH_take (i := 30) (oi := { dst := some 73, op := Op.fieldAddr 25 (Operand.tmp 2) 1, type := 0, pos := "law.go:63", after := #[{ on := 20, ground := Ground.guard }], guard := some (20, false) }) (v := .pointer (some ⟨w.heap.size, 1, none⟩)) rfl (by kernel_rfl) (by kernel_rfl) (by kernel_rfl) (fun _ _ _ h => h) (Or.inl ⟨by rfl, fun w' hS' => by go_simp⟩) (by assumption) ?_
      simp only [Act.put, List.setIfInBounds_toArray, List.set_cons_zero, List.set_cons_succ]
      refine wpAnyH_take (i := 31) (oi := { dst := some 74, op := Op.load 22 (Operand.tmp 73), type := 22, pos := "law.go:63", after := #[{ on := 30, ground := Ground.data }, { on := 20, ground := Ground.guard }], guard := some (20, false) }) (v := .int .u64 (u.b : Int)) rfl (by kernel_rfl) (by kernel_rfl) (by kernel_rfl) (fun _ _ _ h => h) (Or.inl ⟨by rfl, fun w' hS' => by go_simp⟩) (by assumption) ?_
      simp only [Act.put, List.setIfInBounds_toArray, List.set_cons_zero, List.set_cons_succ]
      refine wpAnyH_take (i := 32) (oi := { dst := some 75, op := Op.fieldAddr 25 (Operand.tmp 2) 2, type := 0, pos := "law.go:63", after := #[{ on := 20, ground := Ground.guard }], guard := some (20, false) }) (v := .pointer (some ⟨w.heap.size, 2, none⟩)) rfl (by kernel_rfl) (by kernel_rfl) (by kernel_rfl) (fun _ _ _ h => h) (Or.inl ⟨by rfl, fun w' hS' => by go_simp⟩) (by assumption) ?_
      simp only [Act.put, List.setIfInBounds_toArray, List.set_cons_zero, List.set_cons_succ]
      refine wpAnyH_take (i := 33) (oi := { dst := some 76, op := Op.load 22 (Operand.tmp 75), type := 22, pos := "law.go:63", after := #[{ on := 32, ground := Ground.data }, { on := 20, ground := Ground.guard }], guard := some (20, false) }) (v := .int .u64 (u.c : Int)) rfl (by kernel_rfl) (by kernel_rfl) (by kernel_rfl) (fun _ _ _ h => h) (Or.inl ⟨by rfl, fun w' hS' => by go_simp⟩) (by assumption) ?_
      simp only [Act.put, List.setIfInBounds_toArray, List.set_cons_zero, List.set_cons_succ]
      refine wpAnyH_ready (rs := [27]) (by kernel_rfl) (by simp) ?_
      refine AllReadyH.cons (o := { dst := some 70, op := Op.call { callee := Callee.value (Operand.func 13), args := #[Operand.tmp 65, Operand.tmp 67, Operand.tmp 69], argTypes := #[22, 22, 22] }, type := 25, pos := "law.go:63", after := #[{ on := 22, ground := Ground.data }, { on := 24, ground := Ground.data }, { on := 26, ground := Ground.data }, { on := 20, ground := Ground.chain }, { on := 20, ground := Ground.guard }], guard := some (20, false) }) rfl (fun K hK => ?_) AllReadyH.nil
      go_simp
      refine (Pf.out _).mono ?_
      rintro e W14 ⟨D1, l1, rfl, hr, hq, hb⟩
      replace Ku := Lib.hid (Ku.out.kept hb)
      replace Kv := Lib.hid (Kv.out.kept hb)
      replace Kp := Lib.hid (Kp.out.kept hb)
      replace Kq := Lib.hid (Kq.out.kept hb)
      replace Kr := Lib.hid (Kr.out.kept hb)
      replace Ks := Lib.hid (Ks.out.kept hb)
      have R1 := Lib.hid hr
      clear hr hq
      replace HB := Lib.hid (HB.out.trans (hb.mono HB.out.size))
      clear hb
      refine hK.out _ _ ⟨Ku.out.cells, Kp.out.cells, Kq.out.cells, Kr.out.cells, Ks.out.cells⟩ (fun hHeld => ?_)
      clear hK K
      try simp only [Act.put, List.setIfInBounds_toArray, List.set_cons_zero, List.set_cons_succ]
      refine wpAnyH_ready (rs := [34]) (by kernel_rfl) (by simp) ?_
      refine AllReadyH.cons (o := { dst := some 77, op := Op.call { callee := Callee.value (Operand.func 14), args := #[Operand.tmp 72, Operand.tmp 74, Operand.tmp 76], argTypes := #[22, 22, 22] }, type := 25, pos := "law.go:63", after := #[{ on := 29, ground := Ground.data }, { on := 31, ground := Ground.data }, { on := 33, ground := Ground.data }, { on := 27, ground := Ground.chain }, { on := 20, ground := Ground.guard }], guard := some (20, false) }) rfl (fun K hK => ?_) AllReadyH.nil
      go_simp
      refine (Qf.out _).mono ?_
      rintro e W15 ⟨D2, l2, rfl, hr, hq, hb⟩
      replace Ku := Lib.hid (Ku.out.kept hb)
      replace Kv := Lib.hid (Kv.out.kept hb)
      replace Kp := Lib.hid (Kp.out.kept hb)
      replace Kq := Lib.hid (Kq.out.kept hb)
      replace Kr := Lib.hid (Kr.out.kept hb)
      replace Ks := Lib.hid (Ks.out.kept hb)
      replace R1 := Lib.hid (R1.out.kept hb)
      have R2 := Lib.hid hr
      clear hr hq
      replace HB := Lib.hid (HB.out.trans (hb.mono HB.out.size))
      clear hb
      refine hK.out _ _ ⟨Ku.out.cells, Kp.out.cells, Kq.out.cells, Kr.out.cells, Ks.out.cells⟩ (fun hHeld => ?_)
      clear hK K
      try simp only [Act.put, List.setIfInBounds_toArray, List.set_cons_zero, List.set_cons_succ]
      refine wpAnyH_ready (rs := [35]) (by kernel_rfl) (by simp) ?_
      refine AllReadyH.cons (o := { dst := some 78, op := Op.call { callee := Callee.value (Operand.func 12), args := #[Operand.tmp 70, Operand.tmp 77], argTypes := #[25, 25] }, type := 4, pos := "law.go:63", after := #[{ on := 27, ground := Ground.data }, { on := 34, ground := Ground.data }, { on := 34, ground := Ground.chain }, { on := 20, ground := Ground.guard }], guard := some (20, false) }) rfl (fun K hK => ?_) AllReadyH.nil
      go_simp
      refine (same_told f D1 D2 l1 l2 _ R1.out R2.out Ff.out.1 Uf.out).mono ?_
      rintro e W16 ⟨rfl, hb⟩
      replace Ku := Lib.hid (Ku.out.kept hb)
      replace Kv := Lib.hid (Kv.out.kept hb)
      replace Kp := Lib.hid (Kp.out.kept hb)
      replace Kq := Lib.hid (Kq.out.kept hb)
      replace Kr := Lib.hid (Kr.out.kept hb)
      replace Ks := Lib.hid (Ks.out.kept hb)
      replace HB := Lib.hid (HB.out.trans (hb.mono HB.out.size))
      clear hb
      refine hK.out _ _ ⟨Ku.out.cells, Kp.out.cells, Kq.out.cells, Kr.out.cells, Ks.out.cells⟩ (fun hHeld => ?_)
      clear hK K
      try simp only [Act.put, List.setIfInBounds_toArray, List.set_cons_zero, List.set_cons_succ]
      refine wpAnyH_take (i := 36) (oi := { dst := some 79, op := Op.unOp UnOp.not 4 (Operand.tmp 78), type := 4, pos := "law.go:63", after := #[{ on := 35, ground := Ground.data }, { on := 20, ground := Ground.guard }], guard := some (20, false) }) (v := .bool false) rfl (by kernel_rfl) (by kernel_rfl) (by kernel_rfl) (fun _ _ _ h => h) (Or.inl ⟨by rfl, fun w' hS' => by go_simp⟩) (by assumption) ?_
      simp only [Act.put, List.setIfInBounds_toArray, List.set_cons_zero, List.set_cons_succ]
      refine wpAnyH_take (i := 37) (oi := { dst := some 80, op := Op.pick (Operand.tmp 63) (Operand.const (Value.bool true)) (Operand.tmp 79), type := 4, pos := "law.go:63", after := #[{ on := 20, ground := Ground.data }, { on := 36, ground := Ground.data }], guard := none }) (v := .bool false) rfl (by kernel_rfl) (by kernel_rfl) (by kernel_rfl) (fun _ _ _ h => h) (Or.inl ⟨by rfl, fun w' hS' => by go_simp⟩) (by assumption) ?_
      simp only [Act.put, List.setIfInBounds_toArray, List.set_cons_zero, List.set_cons_succ]
      refine wpAnyH_done (by kernel_rfl) ?_ _
      clear hHeld R1 R2
      obtain ⟨u_0, u_1, u_2, u_3, u_4⟩ := Ku.out.cells
      obtain ⟨v_0, v_1, v_2, v_3, v_4⟩ := Kv.out.cells
      obtain ⟨p_0, p_1, p_2, p_3, p_4⟩ := Kp.out.cells
      obtain ⟨q_0, q_1, q_2, q_3, q_4⟩ := Kq.out.cells
      obtain ⟨r_0, r_1, r_2, r_3, r_4⟩ := Kr.out.cells
      obtain ⟨s_0, s_1, s_2, s_3, s_4⟩ := Ks.out.cells
      go_wp2_with fail
      refine (refGood_any u A1 c1 A2 c2 _ Ku.out.2.1 Ku.out.2.2 Su.out.1 Su.out.2).mono ?_
      rintro e W17 ⟨rfl, hb⟩
      replace Ku := Lib.hid (Ku.out.kept hb)
      replace Kv := Lib.hid (Kv.out.kept hb)
      replace Kp := Lib.hid (Kp.out.kept hb)
      replace Kq := Lib.hid (Kq.out.kept hb)
      replace Kr := Lib.hid (Kr.out.kept hb)
      replace Ks := Lib.hid (Ks.out.kept hb)
      replace HB := Lib.hid (HB.out.trans (hb.mono HB.out.size))
      clear hb
      clear u_0 u_1 u_2 u_3 u_4 v_0 v_1 v_2 v_3 v_4 p_0 p_1 p_2 p_3 p_4 q_0 q_1 q_2 q_3 q_4 r_0 r_1 r_2 r_3 r_4 s_0 s_1 s_2 s_3 s_4
      obtain ⟨u_0, u_1, u_2, u_3, u_4⟩ := Ku.out.cells
      obtain ⟨v_0, v_1, v_2, v_3, v_4⟩ := Kv.out.cells
      obtain ⟨p_0, p_1, p_2, p_3, p_4⟩ := Kp.out.cells
      obtain ⟨q_0, q_1, q_2, q_3, q_4⟩ := Kq.out.cells
      obtain ⟨r_0, r_1, r_2, r_3, r_4⟩ := Kr.out.cells
      obtain ⟨s_0, s_1, s_2, s_3, s_4⟩ := Ks.out.cells
      cases hgu : goodV u
      · clear hgu
        go_wp2
        go_ret
        exact ⟨rfl, HB.out⟩
      clear hgu
      go_wp2_with fail
      refine (refGood_any v B1 d1 B2 d2 _ Kv.out.2.1 Kv.out.2.2 Sv.out.1 Sv.out.2).mono ?_
      rintro e W18 ⟨rfl, hb⟩
      replace Ku := Lib.hid (Ku.out.kept hb)
      replace Kv := Lib.hid (Kv.out.kept hb)
      replace Kp := Lib.hid (Kp.out.kept hb)
      replace Kq := Lib.hid (Kq.out.kept hb)
      replace Kr := Lib.hid (Kr.out.kept hb)
      replace Ks := Lib.hid (Ks.out.kept hb)
      replace HB := Lib.hid (HB.out.trans (hb.mono HB.out.size))
      clear hb
      clear u_0 u_1 u_2 u_3 u_4 v_0 v_1 v_2 v_3 v_4 p_0 p_1 p_2 p_3 p_4 q_0 q_1 q_2 q_3 q_4 r_0 r_1 r_2 r_3 r_4 s_0 s_1 s_2 s_3 s_4
      obtain ⟨u_0, u_1, u_2, u_3, u_4⟩ := Ku.out.cells
      obtain ⟨v_0, v_1, v_2, v_3, v_4⟩ := Kv.out.cells
      obtain ⟨p_0, p_1, p_2, p_3, p_4⟩ := Kp.out.cells
      obtain ⟨q_0, q_1, q_2, q_3, q_4⟩ := Kq.out.cells
      obtain ⟨r_0, r_1, r_2, r_3, r_4⟩ := Kr.out.cells
      obtain ⟨s_0, s_1, s_2, s_3, s_4⟩ := Ks.out.cells
      cases hgv : goodV v
      · clear hgv
        go_wp2
        go_ret
        exact ⟨rfl, HB.out⟩
      clear hgv
      cases hx : sx
      · clear hx
        cases hy : sy
        · clear hy
          go_upto_region 15 with (fail)
          clear u_0 u_1 u_2 u_3 u_4 v_0 v_1 v_2 v_3 v_4 p_0 p_1 p_2 p_3 p_4 q_0 q_1 q_2 q_3 q_4 r_0 r_1 r_2 r_3 r_4 s_0 s_1 s_2 s_3 s_4
          refine wp_region_held_drew (S := fun w' => w'.cell? ⟨(w.heap.size + 1), 0, none⟩ = some (.int .u64 (v.a : Int)) ∧ w'.cell? ⟨(w.heap.size + 1), 1, none⟩ = some (.int .u64 (v.b : Int)) ∧ w'.cell? ⟨(w.heap.size + 1), 2, none⟩ = some (.int .u64 (v.c : Int)) ∧ w'.cell? ⟨(w.heap.size + 1), 3, none⟩ = some (.slice B1 v.pre.length d1) ∧ w'.cell? ⟨(w.heap.size + 1), 4, none⟩ = some (.slice B2 v.build.length d2)) (by kernel_rfl) Kv.out.cells (fun hHeld => ?_)
          replace Kv := Lib.hid (Kv.out.kept (Below.refl _ _).drew)
          replace HB := Lib.hid HB.out.drew
          refine wpAnyH_take (i := 0) (oi := { dst := some 105, op := Op.fieldAddr 25 (Operand.tmp 3) 0, type := 0, pos := "law.go:72", after := #[], guard := none }) (v := .pointer (some ⟨w.heap.size + 1, 0, none⟩)) rfl (by kernel_rfl) (by kernel_rfl) (by kernel_rfl) (fun _ _ _ h => h) (Or.inl ⟨by rfl, fun w' hS' => by go_simp⟩) (by assumption) ?_
          simp only [Act.put, List.setIfInBounds_toArray, List.set_cons_zero, List.set_cons_succ]
          refine wpAnyH_take (i := 1) (oi := { dst := some 106, op := Op.load 22 (Operand.tmp 105), type := 22, pos := "law.go:72", after := #[{ on := 0, ground := Ground.data }], guard := none }) (v := .int .u64 (v.a : Int)) rfl (by kernel_rfl) (by kernel_rfl) (by kernel_rfl) (fun _ _ _ h => h) (Or.inl ⟨by rfl, fun w' hS' => by go_simp⟩) (by assumption) ?_
          simp only [Act.put, List.setIfInBounds_toArray, List.set_cons_zero, List.set_cons_succ]
          refine wpAnyH_take (i := 2) (oi := { dst := some 107, op := Op.fieldAddr 25 (Operand.tmp 3) 1, type := 0, pos := "law.go:72", after := #[], guard := none }) (v := .pointer (some ⟨w.heap.size + 1, 1, none⟩)) rfl (by kernel_rfl) (by kernel_rfl) (by kernel_rfl) (fun _ _ _ h => h) (Or.inl ⟨by rfl, fun w' hS' => by go_simp⟩) (by assumption) ?_
          simp only [Act.put, List.setIfInBounds_toArray, List.set_cons_zero, List.set_cons_succ]
          refine wpAnyH_take (i := 3) (oi := { dst := some 108, op := Op.load 22 (Operand.tmp 107), type := 22, pos := "law.go:72", after := #[{ on := 2, ground := Ground.data }], guard := none }) (v := .int .u64 (v.b : Int)) rfl (by kernel_rfl) (by kernel_rfl) (by kernel_rfl) (fun _ _ _ h => h) (Or.inl ⟨by rfl, fun w' hS' => by go_simp⟩) (by assumption) ?_
          simp only [Act.put, List.setIfInBounds_toArray, List.set_cons_zero, List.set_cons_succ]
          refine wpAnyH_take (i := 4) (oi := { dst := some 109, op := Op.fieldAddr 25 (Operand.tmp 3) 2, type := 0, pos := "law.go:72", after := #[], guard := none }) (v := .pointer (some ⟨w.heap.size + 1, 2, none⟩)) rfl (by kernel_rfl) (by kernel_rfl) (by kernel_rfl) (fun _ _ _ h => h) (Or.inl ⟨by rfl, fun w' hS' => by go_simp⟩) (by assumption) ?_
          simp only [Act.put, List.setIfInBounds_toArray, List.set_cons_zero, List.set_cons_succ]
          refine wpAnyH_take (i := 5) (oi := { dst := some 110, op := Op.load 22 (Operand.tmp 109), type := 22, pos := "law.go:72", after := #[{ on := 4, ground := Ground.data }], guard := none }) (v := .int .u64 (v.c : Int)) rfl (by kernel_rfl) (by kernel_rfl) (by kernel_rfl) (fun _ _ _ h => h) (Or.inl ⟨by rfl, fun w' hS' => by go_simp⟩) (by assumption) ?_
          simp only [Act.put, List.setIfInBounds_toArray, List.set_cons_zero, List.set_cons_succ]
          refine wpAnyH_take (i := 7) (oi := { dst := some 112, op := Op.load 25 (Operand.tmp 3), type := 25, pos := "law.go:72", after := #[], guard := none }) (v := .agg #[.int .u64 (v.a : Int), .int .u64 (v.b : Int), .int .u64 (v.c : Int), .slice B1 v.pre.length d1, .slice B2 v.build.length d2]) rfl (by kernel_rfl) (by kernel_rfl) (by kernel_rfl) (fun _ _ _ h => h) (Or.inl ⟨by rfl, fun w' hS' => by go_simp⟩) (by assumption) ?_
          simp only [Act.put, List.setIfInBounds_toArray, List.set_cons_zero, List.set_cons_succ]
          refine wpAnyH_ready (rs := [6]) (by kernel_rfl) (by simp) ?_
          refine AllReadyH.cons (o := { dst := some 111, op := Op.call { callee := Callee.value (Operand.func 13), args := #[Operand.tmp 106, Operand.tmp 108, Operand.tmp 110], argTypes := #[22, 22, 22] }, type := 25, pos := "law.go:72", after := #[{ on := 1, ground := Ground.data }, { on := 3, ground := Ground.data }, { on := 5, ground := Ground.data }], guard := none }) rfl (fun K hK => ?_) AllReadyH.nil
          go_simp
          refine (Pg.out _).mono ?_
          rintro e V1 ⟨D1, l1, rfl, hr, hq, hb⟩
          replace Kv := Lib.hid (Kv.out.kept hb)
          have R1 := Lib.hid hr
          replace HB := Lib.hid (HB.out.trans (hb.mono HB.out.size))
          clear hb hr hq
          refine hK.out _ _ Kv.out.cells (fun hHeld => ?_)
          clear hK K
          try simp only [Act.put, List.setIfInBounds_toArray, List.set_cons_zero, List.set_cons_succ]
          refine wpAnyH_ready (rs := [8]) (by kernel_rfl) (by simp) ?_
          refine AllReadyH.cons (o := { dst := some 113, op := Op.call { callee := Callee.value (Operand.func 16), args := #[Operand.tmp 111, Operand.tmp 112], argTypes := #[25, 25] }, type := 3, pos := "law.go:72", after := #[{ on := 6, ground := Ground.data }, { on := 7, ground := Ground.data }, { on := 6, ground := Ground.chain }], guard := none }) rfl (fun K hK => ?_) AllReadyH.nil
          go_simp
          refine (compare_any g v D1 none B1 B2 l1 0 d1 d2 _ R1.out Kv.out.2.1 Fg.out (Fit.of_short Sv.out.1)).mono ?_
          rintro e V2 ⟨rfl, hb⟩
          replace Kv := Lib.hid (Kv.out.kept hb)
          replace HB := Lib.hid (HB.out.trans (hb.mono HB.out.size))
          clear hb
          refine hK.out _ _ Kv.out.cells (fun hHeld => ?_)
          clear hK K
          try simp only [Act.put, List.setIfInBounds_toArray, List.set_cons_zero, List.set_cons_succ]
          have hc := Cg.out
          generalize cmpV g v = cg at hc ⊢
          have hcb : decide (cg ≤ 0) = true := decide_eq_true hc
          clear hc
          refine wpAnyH_take (i := 9) (oi := { dst := some 114, op := Op.binOp BinOp.leq 3 (Operand.tmp 113) (Operand.const (Value.int IntKind.i64 0)) 3, type := 4, pos := "law.go:72", after := #[{ on := 8, ground := Ground.data }], guard := none }) (v := .bool true) rfl (by kernel_rfl) (by kernel_rfl) (by kernel_rfl) (fun _ _ _ h => h) (Or.inl ⟨by rfl, fun w' hS' => by go_simp⟩) (by assumption) ?_
          simp only [Act.put, List.setIfInBounds_toArray, List.set_cons_zero, List.set_cons_succ]
          refine wpAnyH_take (i := 10) (oi := { dst := some 4, op := Op.assign (Operand.tmp 114), type := 4, pos := "law.go:72", after := #[{ on := 9, ground := Ground.data }, { on := 8, ground := Ground.chain }, { on := 0, ground := Ground.phase }, { on := 1, ground := Ground.phase }, { on := 2, ground := Ground.phase }, { on := 3, ground := Ground.phase }, { on := 4, ground := Ground.phase }, { on := 5, ground := Ground.phase }, { on := 6, ground := Ground.phase }, { on := 7, ground := Ground.phase }, { on := 8, ground := Ground.phase }, { on := 9, ground := Ground.phase }], guard := none }) (v := .bool true) rfl (by kernel_rfl) (by kernel_rfl) (by kernel_rfl) (fun _ _ _ h => h) (Or.inl ⟨by rfl, fun w' hS' => by go_simp⟩) (by assumption) ?_
          simp only [Act.put, List.setIfInBounds_toArray, List.set_cons_zero, List.set_cons_succ]
          refine wpAnyH_done (by kernel_rfl) ?_ _
          go_wp2
          go_ret
          exact ⟨rfl, HB.out⟩
        · have hcy := Cy.out hy
          clear hy
          go_wp2_with fail
          refine (compare_any u y A1 A2 C2 none c1 c2 k2 0 _ Ku.out.2.1 Kq.out.2.1 (Fit.of_short Su.out.1) Fy.out).mono ?_
          rintro e W19 ⟨rfl, hb⟩
          replace Ku := Lib.hid (Ku.out.kept hb)
          replace Kv := Lib.hid (Kv.out.kept hb)
          replace Kp := Lib.hid (Kp.out.kept hb)
          replace Kq := Lib.hid (Kq.out.kept hb)
          replace Kr := Lib.hid (Kr.out.kept hb)
          replace Ks := Lib.hid (Ks.out.kept hb)
          replace HB := Lib.hid (HB.out.trans (hb.mono HB.out.size))
          clear hb
          clear u_0 u_1 u_2 u_3 u_4 v_0 v_1 v_2 v_3 v_4 p_0 p_1 p_2 p_3 p_4 q_0 q_1 q_2 q_3 q_4 r_0 r_1 r_2 r_3 r_4 s_0 s_1 s_2 s_3 s_4
          obtain ⟨u_0, u_1, u_2, u_3, u_4⟩ := Ku.out.cells
          obtain ⟨v_0, v_1, v_2, v_3, v_4⟩ := Kv.out.cells
          obtain ⟨p_0, p_1, p_2, p_3, p_4⟩ := Kp.out.cells
          obtain ⟨q_0, q_1, q_2, q_3, q_4⟩ := Kq.out.cells
          obtain ⟨r_0, r_1, r_2, r_3, r_4⟩ := Kr.out.cells
          obtain ⟨s_0, s_1, s_2, s_3, s_4⟩ := Ks.out.cells
          rw [hcy]
          clear hcy
          go_upto_region 15 with (fail)
          clear u_0 u_1 u_2 u_3 u_4 v_0 v_1 v_2 v_3 v_4 p_0 p_1 p_2 p_3 p_4 q_0 q_1 q_2 q_3 q_4 r_0 r_1 r_2 r_3 r_4 s_0 s_1 s_2 s_3 s_4
          refine wp_region_held_drew (S := fun w' => w'.cell? ⟨(w.heap.size + 1), 0, none⟩ = some (.int .u64 (v.a : Int)) ∧ w'.cell? ⟨(w.heap.size + 1), 1, none⟩ = some (.int .u64 (v.b : Int)) ∧ w'.cell? ⟨(w.heap.size + 1), 2, none⟩ = some (.int .u64 (v.c : Int)) ∧ w'.cell? ⟨(w.heap.size + 1), 3, none⟩ = some (.slice B1 v.pre.length d1) ∧ w'.cell? ⟨(w.heap.size + 1), 4, none⟩ = some (.slice B2 v.build.length d2)) (by kernel_rfl) Kv.out.cells (fun hHeld => ?_)
          replace Kv := Lib.hid (Kv.out.kept (Below.refl _ _).drew)
          replace HB := Lib.hid HB.out.drew
          refine wpAnyH_take (i := 0) (oi := { dst := some 105, op := Op.fieldAddr 25 (Operand.tmp 3) 0, type := 0, pos := "law.go:72", after := #[], guard := none }) (v := .pointer (some ⟨w.heap.size + 1, 0, none⟩)) rfl (by kernel_rfl) (by kernel_rfl) (by kernel_rfl) (fun _ _ _ h => h) (Or.inl ⟨by rfl, fun w' hS' => by go_simp⟩) (by assumption) ?_
          simp only [Act.put, List.setIfInBounds_toArray, List.set_cons_zero, List.set_cons_succ]
          refine wpAnyH_take (i := 1) (oi := { dst := some 106, op := Op.load 22 (Operand.tmp 105), type := 22, pos := "law.go:72", after := #[{ on := 0, ground := Ground.data }], guard := none }) (v := .int .u64 (v.a : Int)) rfl (by kernel_rfl) (by kernel_rfl) (by kernel_rfl) (fun _ _ _ h => h) (Or.inl ⟨by rfl, fun w' hS' => by go_simp⟩) (by assumption) ?_
          simp only [Act.put, List.setIfInBounds_toArray, List.set_cons_zero, List.set_cons_succ]
          refine wpAnyH_take (i := 2) (oi := { dst := some 107, op := Op.fieldAddr 25 (Operand.tmp 3) 1, type := 0, pos := "law.go:72", after := #[], guard := none }) (v := .pointer (some ⟨w.heap.size + 1, 1, none⟩)) rfl (by kernel_rfl) (by kernel_rfl) (by kernel_rfl) (fun _ _ _ h => h) (Or.inl ⟨by rfl, fun w' hS' => by go_simp⟩) (by assumption) ?_
          simp only [Act.put, List.setIfInBounds_toArray, List.set_cons_zero, List.set_cons_succ]
          refine wpAnyH_take (i := 3) (oi := { dst := some 108, op := Op.load 22 (Operand.tmp 107), type := 22, pos := "law.go:72", after := #[{ on := 2, ground := Ground.data }], guard := none }) (v := .int .u64 (v.b : Int)) rfl (by kernel_rfl) (by kernel_rfl) (by kernel_rfl) (fun _ _ _ h => h) (Or.inl ⟨by rfl, fun w' hS' => by go_simp⟩) (by assumption) ?_
          simp only [Act.put, List.setIfInBounds_toArray, List.set_cons_zero, List.set_cons_succ]
          refine wpAnyH_take (i := 4) (oi := { dst := some 109, op := Op.fieldAddr 25 (Operand.tmp 3) 2, type := 0, pos := "law.go:72", after := #[], guard := none }) (v := .pointer (some ⟨w.heap.size + 1, 2, none⟩)) rfl (by kernel_rfl) (by kernel_rfl) (by kernel_rfl) (fun _ _ _ h => h) (Or.inl ⟨by rfl, fun w' hS' => by go_simp⟩) (by assumption) ?_
          simp only [Act.put, List.setIfInBounds_toArray, List.set_cons_zero, List.set_cons_succ]
          refine wpAnyH_take (i := 5) (oi := { dst := some 110, op := Op.load 22 (Operand.tmp 109), type := 22, pos := "law.go:72", after := #[{ on := 4, ground := Ground.data }], guard := none }) (v := .int .u64 (v.c : Int)) rfl (by kernel_rfl) (by kernel_rfl) (by kernel_rfl) (fun _ _ _ h => h) (Or.inl ⟨by rfl, fun w' hS' => by go_simp⟩) (by assumption) ?_
          simp only [Act.put, List.setIfInBounds_toArray, List.set_cons_zero, List.set_cons_succ]
          refine wpAnyH_take (i := 7) (oi := { dst := some 112, op := Op.load 25 (Operand.tmp 3), type := 25, pos := "law.go:72", after := #[], guard := none }) (v := .agg #[.int .u64 (v.a : Int), .int .u64 (v.b : Int), .int .u64 (v.c : Int), .slice B1 v.pre.length d1, .slice B2 v.build.length d2]) rfl (by kernel_rfl) (by kernel_rfl) (by kernel_rfl) (fun _ _ _ h => h) (Or.inl ⟨by rfl, fun w' hS' => by go_simp⟩) (by assumption) ?_
          simp only [Act.put, List.setIfInBounds_toArray, List.set_cons_zero, List.set_cons_succ]
          refine wpAnyH_ready (rs := [6]) (by kernel_rfl) (by simp) ?_
          refine AllReadyH.cons (o := { dst := some 111, op := Op.call { callee := Callee.value (Operand.func 13), args := #[Operand.tmp 106, Operand.tmp 108, Operand.tmp 110], argTypes := #[22, 22, 22] }, type := 25, pos := "law.go:72", after := #[{ on := 1, ground := Ground.data }, { on := 3, ground := Ground.data }, { on := 5, ground := Ground.data }], guard := none }) rfl (fun K hK => ?_) AllReadyH.nil
          go_simp
          refine (Pg.out _).mono ?_
          rintro e V1 ⟨D1, l1, rfl, hr, hq, hb⟩
          replace Kv := Lib.hid (Kv.out.kept hb)
          have R1 := Lib.hid hr
          replace HB := Lib.hid (HB.out.trans (hb.mono HB.out.size))
          clear hb hr hq
          refine hK.out _ _ Kv.out.cells (fun hHeld => ?_)
          clear hK K
          try simp only [Act.put, List.setIfInBounds_toArray, List.set_cons_zero, List.set_cons_succ]
          refine wpAnyH_ready (rs := [8]) (by kernel_rfl) (by simp) ?_
          refine AllReadyH.cons (o := { dst := some 113, op := Op.call { callee := Callee.value (Operand.func 16), args := #[Operand.tmp 111, Operand.tmp 112], argTypes := #[25, 25] }, type := 3, pos := "law.go:72", after := #[{ on := 6, ground := Ground.data }, { on := 7, ground := Ground.data }, { on := 6, ground := Ground.chain }], guard := none }) rfl (fun K hK => ?_) AllReadyH.nil
          go_simp
          refine (compare_any g v D1 none B1 B2 l1 0 d1 d2 _ R1.out Kv.out.2.1 Fg.out (Fit.of_short Sv.out.1)).mono ?_
          rintro e V2 ⟨rfl, hb⟩
          replace Kv := Lib.hid (Kv.out.kept hb)
          replace HB := Lib.hid (HB.out.trans (hb.mono HB.out.size))
          clear hb
          refine hK.out _ _ Kv.out.cells (fun hHeld => ?_)
          clear hK K
          try simp only [Act.put, List.setIfInBounds_toArray, List.set_cons_zero, List.set_cons_succ]
          have hc := Cg.out
          generalize cmpV g v = cg at hc ⊢
          have hcb : decide (cg ≤ 0) = true := decide_eq_true hc
          clear hc
          refine wpAnyH_take (i := 9) (oi := { dst := some 114, op := Op.binOp BinOp.leq 3 (Operand.tmp 113) (Operand.const (Value.int IntKind.i64 0)) 3, type := 4, pos := "law.go:72", after := #[{ on := 8, ground := Ground.data }], guard := none }) (v := .bool true) rfl (by kernel_rfl) (by kernel_rfl) (by kernel_rfl) (fun _ _ _ h => h) (Or.inl ⟨by rfl, fun w' hS' => by go_simp⟩) (by assumption) ?_
          simp only [Act.put, List.setIfInBounds_toArray, List.set_cons_zero, List.set_cons_succ]
          refine wpAnyH_take (i := 10) (oi := { dst := some 4, op := Op.assign (Operand.tmp 114), type := 4, pos := "law.go:72", after := #[{ on := 9, ground := Ground.data }, { on := 8, ground := Ground.chain }, { on := 0, ground := Ground.phase }, { on := 1, ground := Ground.phase }, { on := 2, ground := Ground.phase }, { on := 3, ground := Ground.phase }, { on := 4, ground := Ground.phase }, { on := 5, ground := Ground.phase }, { on := 6, ground := Ground.phase }, { on := 7, ground := Ground.phase }, { on := 8, ground := Ground.phase }, { on := 9, ground := Ground.phase }], guard := none }) (v := .bool true) rfl (by kernel_rfl) (by kernel_rfl) (by kernel_rfl) (fun _ _ _ h => h) (Or.inl ⟨by rfl, fun w' hS' => by go_simp⟩) (by assumption) ?_
          simp only [Act.put, List.setIfInBounds_toArray, List.set_cons_zero, List.set_cons_succ]
          refine wpAnyH_done (by kernel_rfl) ?_ _
          go_wp2
          go_ret
          exact ⟨rfl, HB.out⟩
      · have hcx := Cx.out hx
        clear hx
        go_wp2_with fail
        refine (compare_any u x A1 A2 C1 none c1 c2 k1 0 _ Ku.out.2.1 Kp.out.2.1 (Fit.of_short Su.out.1) Fx.out).mono ?_
        rintro e W19 ⟨rfl, hb⟩
        replace Ku := Lib.hid (Ku.out.kept hb)
        replace Kv := Lib.hid (Kv.out.kept hb)
        replace Kp := Lib.hid (Kp.out.kept hb)
        replace Kq := Lib.hid (Kq.out.kept hb)
        replace Kr := Lib.hid (Kr.out.kept hb)
        replace Ks := Lib.hid (Ks.out.kept hb)
        replace HB := Lib.hid (HB.out.trans (hb.mono HB.out.size))
        clear hb
        clear u_0 u_1 u_2 u_3 u_4 v_0 v_1 v_2 v_3 v_4 p_0 p_1 p_2 p_3 p_4 q_0 q_1 q_2 q_3 q_4 r_0 r_1 r_2 r_3 r_4 s_0 s_1 s_2 s_3 s_4
        obtain ⟨u_0, u_1, u_2, u_3, u_4⟩ := Ku.out.cells
        obtain ⟨v_0, v_1, v_2, v_3, v_4⟩ := Kv.out.cells
        obtain ⟨p_0, p_1, p_2, p_3, p_4⟩ := Kp.out.cells
        obtain ⟨q_0, q_1, q_2, q_3, q_4⟩ := Kq.out.cells
        obtain ⟨r_0, r_1, r_2, r_3, r_4⟩ := Kr.out.cells
        obtain ⟨s_0, s_1, s_2, s_3, s_4⟩ := Ks.out.cells
        rw [hcx]
        clear hcx
        cases hy : sy
        · clear hy
          go_upto_region 15 with (fail)
          clear u_0 u_1 u_2 u_3 u_4 v_0 v_1 v_2 v_3 v_4 p_0 p_1 p_2 p_3 p_4 q_0 q_1 q_2 q_3 q_4 r_0 r_1 r_2 r_3 r_4 s_0 s_1 s_2 s_3 s_4
          refine wp_region_held_drew (S := fun w' => w'.cell? ⟨(w.heap.size + 1), 0, none⟩ = some (.int .u64 (v.a : Int)) ∧ w'.cell? ⟨(w.heap.size + 1), 1, none⟩ = some (.int .u64 (v.b : Int)) ∧ w'.cell? ⟨(w.heap.size + 1), 2, none⟩ = some (.int .u64 (v.c : Int)) ∧ w'.cell? ⟨(w.heap.size + 1), 3, none⟩ = some (.slice B1 v.pre.length d1) ∧ w'.cell? ⟨(w.heap.size + 1), 4, none⟩ = some (.slice B2 v.build.length d2)) (by kernel_rfl) Kv.out.cells (fun hHeld => ?_)
          replace Kv := Lib.hid (Kv.out.kept (Below.refl _ _).drew)
          replace HB := Lib.hid HB.out.drew
          refine wpAnyH_take (i := 0) (oi := { dst := some 105, op := Op.fieldAddr 25 (Operand.tmp 3) 0, type := 0, pos := "law.go:72", after := #[], guard := none }) (v := .pointer (some ⟨w.heap.size + 1, 0, none⟩)) rfl (by kernel_rfl) (by kernel_rfl) (by kernel_rfl) (fun _ _ _ h => h) (Or.inl ⟨by rfl, fun w' hS' => by go_simp⟩) (by assumption) ?_
          simp only [Act.put, List.setIfInBounds_toArray, List.set_cons_zero, List.set_cons_succ]
          refine wpAnyH_take (i := 1) (oi := { dst := some 106, op := Op.load 22 (Operand.tmp 105), type := 22, pos := "law.go:72", after := #[{ on := 0, ground := Ground.data }], guard := none }) (v := .int .u64 (v.a : Int)) rfl (by kernel_rfl) (by kernel_rfl) (by kernel_rfl) (fun _ _ _ h => h) (Or.inl ⟨by rfl, fun w' hS' => by go_simp⟩) (by assumption) ?_
          simp only [Act.put, List.setIfInBounds_toArray, List.set_cons_zero, List.set_cons_succ]
          refine wpAnyH_take (i := 2) (oi := { dst := some 107, op := Op.fieldAddr 25 (Operand.tmp 3) 1, type := 0, pos := "law.go:72", after := #[], guard := none }) (v := .pointer (some ⟨w.heap.size + 1, 1, none⟩)) rfl (by kernel_rfl) (by kernel_rfl) (by kernel_rfl) (fun _ _ _ h => h) (Or.inl ⟨by rfl, fun w' hS' => by go_simp⟩) (by assumption) ?_
          simp only [Act.put, List.setIfInBounds_toArray, List.set_cons_zero, List.set_cons_succ]
          refine wpAnyH_take (i := 3) (oi := { dst := some 108, op := Op.load 22 (Operand.tmp 107), type := 22, pos := "law.go:72", after := #[{ on := 2, ground := Ground.data }], guard := none }) (v := .int .u64 (v.b : Int)) rfl (by kernel_rfl) (by kernel_rfl) (by kernel_rfl) (fun _ _ _ h => h) (Or.inl ⟨by rfl, fun w' hS' => by go_simp⟩) (by assumption) ?_
          simp only [Act.put, List.setIfInBounds_toArray, List.set_cons_zero, List.set_cons_succ]
          refine wpAnyH_take (i := 4) (oi := { dst := some 109, op := Op.fieldAddr 25 (Operand.tmp 3) 2, type := 0, pos := "law.go:72", after := #[], guard := none }) (v := .pointer (some ⟨w.heap.size + 1, 2, none⟩)) rfl (by kernel_rfl) (by kernel_rfl) (by kernel_rfl) (fun _ _ _ h => h) (Or.inl ⟨by rfl, fun w' hS' => by go_simp⟩) (by assumption) ?_
          simp only [Act.put, List.setIfInBounds_toArray, List.set_cons_zero, List.set_cons_succ]
          refine wpAnyH_take (i := 5) (oi := { dst := some 110, op := Op.load 22 (Operand.tmp 109), type := 22, pos := "law.go:72", after := #[{ on := 4, ground := Ground.data }], guard := none }) (v := .int .u64 (v.c : Int)) rfl (by kernel_rfl) (by kernel_rfl) (by kernel_rfl) (fun _ _ _ h => h) (Or.inl ⟨by rfl, fun w' hS' => by go_simp⟩) (by assumption) ?_
          simp only [Act.put, List.setIfInBounds_toArray, List.set_cons_zero, List.set_cons_succ]
          refine wpAnyH_take (i := 7) (oi := { dst := some 112, op := Op.load 25 (Operand.tmp 3), type := 25, pos := "law.go:72", after := #[], guard := none }) (v := .agg #[.int .u64 (v.a : Int), .int .u64 (v.b : Int), .int .u64 (v.c : Int), .slice B1 v.pre.length d1, .slice B2 v.build.length d2]) rfl (by kernel_rfl) (by kernel_rfl) (by kernel_rfl) (fun _ _ _ h => h) (Or.inl ⟨by rfl, fun w' hS' => by go_simp⟩) (by assumption) ?_
          simp only [Act.put, List.setIfInBounds_toArray, List.set_cons_zero, List.set_cons_succ]
          refine wpAnyH_ready (rs := [6]) (by kernel_rfl) (by simp) ?_
          refine AllReadyH.cons (o := { dst := some 111, op := Op.call { callee := Callee.value (Operand.func 13), args := #[Operand.tmp 106, Operand.tmp 108, Operand.tmp 110], argTypes := #[22, 22, 22] }, type := 25, pos := "law.go:72", after := #[{ on := 1, ground := Ground.data }, { on := 3, ground := Ground.data }, { on := 5, ground := Ground.data }], guard := none }) rfl (fun K hK => ?_) AllReadyH.nil
          go_simp
          refine (Pg.out _).mono ?_
          rintro e V1 ⟨D1, l1, rfl, hr, hq, hb⟩
          replace Kv := Lib.hid (Kv.out.kept hb)
          have R1 := Lib.hid hr
          replace HB := Lib.hid (HB.out.trans (hb.mono HB.out.size))
          clear hb hr hq
          refine hK.out _ _ Kv.out.cells (fun hHeld => ?_)
          clear hK K
          try simp only [Act.put, List.setIfInBounds_toArray, List.set_cons_zero, List.set_cons_succ]
          refine wpAnyH_ready (rs := [8]) (by kernel_rfl) (by simp) ?_
          refine AllReadyH.cons (o := { dst := some 113, op := Op.call { callee := Callee.value (Operand.func 16), args := #[Operand.tmp 111, Operand.tmp 112], argTypes := #[25, 25] }, type := 3, pos := "law.go:72", after := #[{ on := 6, ground := Ground.data }, { on := 7, ground := Ground.data }, { on := 6, ground := Ground.chain }], guard := none }) rfl (fun K hK => ?_) AllReadyH.nil
          go_simp
          refine (compare_any g v D1 none B1 B2 l1 0 d1 d2 _ R1.out Kv.out.2.1 Fg.out (Fit.of_short Sv.out.1)).mono ?_
          rintro e V2 ⟨rfl, hb⟩
          replace Kv := Lib.hid (Kv.out.kept hb)
          replace HB := Lib.hid (HB.out.trans (hb.mono HB.out.size))
          clear hb
          refine hK.out _ _ Kv.out.cells (fun hHeld => ?_)
          clear hK K
          try simp only [Act.put, List.setIfInBounds_toArray, List.set_cons_zero, List.set_cons_succ]
          have hc := Cg.out
          generalize cmpV g v = cg at hc ⊢
          have hcb : decide (cg ≤ 0) = true := decide_eq_true hc
          clear hc
          refine wpAnyH_take (i := 9) (oi := { dst := some 114, op := Op.binOp BinOp.leq 3 (Operand.tmp 113) (Operand.const (Value.int IntKind.i64 0)) 3, type := 4, pos := "law.go:72", after := #[{ on := 8, ground := Ground.data }], guard := none }) (v := .bool true) rfl (by kernel_rfl) (by kernel_rfl) (by kernel_rfl) (fun _ _ _ h => h) (Or.inl ⟨by rfl, fun w' hS' => by go_simp⟩) (by assumption) ?_
          simp only [Act.put, List.setIfInBounds_toArray, List.set_cons_zero, List.set_cons_succ]
          refine wpAnyH_take (i := 10) (oi := { dst := some 4, op := Op.assign (Operand.tmp 114), type := 4, pos := "law.go:72", after := #[{ on := 9, ground := Ground.data }, { on := 8, ground := Ground.chain }, { on := 0, ground := Ground.phase }, { on := 1, ground := Ground.phase }, { on := 2, ground := Ground.phase }, { on := 3, ground := Ground.phase }, { on := 4, ground := Ground.phase }, { on := 5, ground := Ground.phase }, { on := 6, ground := Ground.phase }, { on := 7, ground := Ground.phase }, { on := 8, ground := Ground.phase }, { on := 9, ground := Ground.phase }], guard := none }) (v := .bool true) rfl (by kernel_rfl) (by kernel_rfl) (by kernel_rfl) (fun _ _ _ h => h) (Or.inl ⟨by rfl, fun w' hS' => by go_simp⟩) (by assumption) ?_
          simp only [Act.put, List.setIfInBounds_toArray, List.set_cons_zero, List.set_cons_succ]
          refine wpAnyH_done (by kernel_rfl) ?_ _
          go_wp2
          go_ret
          exact ⟨rfl, HB.out⟩
        · have hcy := Cy.out hy
          clear hy
          go_wp2_with fail
          refine (compare_any u y A1 A2 C2 none c1 c2 k2 0 _ Ku.out.2.1 Kq.out.2.1 (Fit.of_short Su.out.1) Fy.out).mono ?_
          rintro e W20 ⟨rfl, hb⟩
          replace Ku := Lib.hid (Ku.out.kept hb)
          replace Kv := Lib.hid (Kv.out.kept hb)
          replace Kp := Lib.hid (Kp.out.kept hb)
          replace Kq := Lib.hid (Kq.out.kept hb)
          replace Kr := Lib.hid (Kr.out.kept hb)
          replace Ks := Lib.hid (Ks.out.kept hb)
          replace HB := Lib.hid (HB.out.trans (hb.mono HB.out.size))
          clear hb
          clear u_0 u_1 u_2 u_3 u_4 v_0 v_1 v_2 v_3 v_4 p_0 p_1 p_2 p_3 p_4 q_0 q_1 q_2 q_3 q_4 r_0 r_1 r_2 r_3 r_4 s_0 s_1 s_2 s_3 s_4
          obtain ⟨u_0, u_1, u_2, u_3, u_4⟩ := Ku.out.cells
          obtain ⟨v_0, v_1, v_2, v_3, v_4⟩ := Kv.out.cells
          obtain ⟨p_0, p_1, p_2, p_3, p_4⟩ := Kp.out.cells
          obtain ⟨q_0, q_1, q_2, q_3, q_4⟩ := Kq.out.cells
          obtain ⟨r_0, r_1, r_2, r_3, r_4⟩ := Kr.out.cells
          obtain ⟨s_0, s_1, s_2, s_3, s_4⟩ := Ks.out.cells
          rw [hcy]
          clear hcy
          go_upto_region 15 with (fail)
          clear u_0 u_1 u_2 u_3 u_4 v_0 v_1 v_2 v_3 v_4 p_0 p_1 p_2 p_3 p_4 q_0 q_1 q_2 q_3 q_4 r_0 r_1 r_2 r_3 r_4 s_0 s_1 s_2 s_3 s_4
          refine wp_region_held_drew (S := fun w' => w'.cell? ⟨(w.heap.size + 1), 0, none⟩ = some (.int .u64 (v.a : Int)) ∧ w'.cell? ⟨(w.heap.size + 1), 1, none⟩ = some (.int .u64 (v.b : Int)) ∧ w'.cell? ⟨(w.heap.size + 1), 2, none⟩ = some (.int .u64 (v.c : Int)) ∧ w'.cell? ⟨(w.heap.size + 1), 3, none⟩ = some (.slice B1 v.pre.length d1) ∧ w'.cell? ⟨(w.heap.size + 1), 4, none⟩ = some (.slice B2 v.build.length d2)) (by kernel_rfl) Kv.out.cells (fun hHeld => ?_)
          replace Kv := Lib.hid (Kv.out.kept (Below.refl _ _).drew)
          replace HB := Lib.hid HB.out.drew
          refine wpAnyH_take (i := 0) (oi := { dst := some 105, op := Op.fieldAddr 25 (Operand.tmp 3) 0, type := 0, pos := "law.go:72", after := #[], guard := none }) (v := .pointer (some ⟨w.heap.size + 1, 0, none⟩)) rfl (by kernel_rfl) (by kernel_rfl) (by kernel_rfl) (fun _ _ _ h => h) (Or.inl ⟨by rfl, fun w' hS' => by go_simp⟩) (by assumption) ?_
          simp only [Act.put, List.setIfInBounds_toArray, List.set_cons_zero, List.set_cons_succ]
          refine wpAnyH_take (i := 1) (oi := { dst := some 106, op := Op.load 22 (Operand.tmp 105), type := 22, pos := "law.go:72", after := #[{ on := 0, ground := Ground.data }], guard := none }) (v := .int .u64 (v.a : Int)) rfl (by kernel_rfl) (by kernel_rfl) (by kernel_rfl) (fun _ _ _ h => h) (Or.inl ⟨by rfl, fun w' hS' => by go_simp⟩) (by assumption) ?_
          simp only [Act.put, List.setIfInBounds_toArray, List.set_cons_zero, List.set_cons_succ]
          refine wpAnyH_take (i := 2) (oi := { dst := some 107, op := Op.fieldAddr 25 (Operand.tmp 3) 1, type := 0, pos := "law.go:72", after := #[], guard := none }) (v := .pointer (some ⟨w.heap.size + 1, 1, none⟩)) rfl (by kernel_rfl) (by kernel_rfl) (by kernel_rfl) (fun _ _ _ h => h) (Or.inl ⟨by rfl, fun w' hS' => by go_simp⟩) (by assumption) ?_
          simp only [Act.put, List.setIfInBounds_toArray, List.set_cons_zero, List.set_cons_succ]
          refine wpAnyH_take (i := 3) (oi := { dst := some 108, op := Op.load 22 (Operand.tmp 107), type := 22, pos := "law.go:72", after := #[{ on := 2, ground := Ground.data }], guard := none }) (v := .int .u64 (v.b : Int)) rfl (by kernel_rfl) (by kernel_rfl) (by kernel_rfl) (fun _ _ _ h => h) (Or.inl ⟨by rfl, fun w' hS' => by go_simp⟩) (by assumption) ?_
          simp only [Act.put, List.setIfInBounds_toArray, List.set_cons_zero, List.set_cons_succ]
          refine wpAnyH_take (i := 4) (oi := { dst := some 109, op := Op.fieldAddr 25 (Operand.tmp 3) 2, type := 0, pos := "law.go:72", after := #[], guard := none }) (v := .pointer (some ⟨w.heap.size + 1, 2, none⟩)) rfl (by kernel_rfl) (by kernel_rfl) (by kernel_rfl) (fun _ _ _ h => h) (Or.inl ⟨by rfl, fun w' hS' => by go_simp⟩) (by assumption) ?_
          simp only [Act.put, List.setIfInBounds_toArray, List.set_cons_zero, List.set_cons_succ]
          refine wpAnyH_take (i := 5) (oi := { dst := some 110, op := Op.load 22 (Operand.tmp 109), type := 22, pos := "law.go:72", after := #[{ on := 4, ground := Ground.data }], guard := none }) (v := .int .u64 (v.c : Int)) rfl (by kernel_rfl) (by kernel_rfl) (by kernel_rfl) (fun _ _ _ h => h) (Or.inl ⟨by rfl, fun w' hS' => by go_simp⟩) (by assumption) ?_
          simp only [Act.put, List.setIfInBounds_toArray, List.set_cons_zero, List.set_cons_succ]
          refine wpAnyH_take (i := 7) (oi := { dst := some 112, op := Op.load 25 (Operand.tmp 3), type := 25, pos := "law.go:72", after := #[], guard := none }) (v := .agg #[.int .u64 (v.a : Int), .int .u64 (v.b : Int), .int .u64 (v.c : Int), .slice B1 v.pre.length d1, .slice B2 v.build.length d2]) rfl (by kernel_rfl) (by kernel_rfl) (by kernel_rfl) (fun _ _ _ h => h) (Or.inl ⟨by rfl, fun w' hS' => by go_simp⟩) (by assumption) ?_
          simp only [Act.put, List.setIfInBounds_toArray, List.set_cons_zero, List.set_cons_succ]
          refine wpAnyH_ready (rs := [6]) (by kernel_rfl) (by simp) ?_
          refine AllReadyH.cons (o := { dst := some 111, op := Op.call { callee := Callee.value (Operand.func 13), args := #[Operand.tmp 106, Operand.tmp 108, Operand.tmp 110], argTypes := #[22, 22, 22] }, type := 25, pos := "law.go:72", after := #[{ on := 1, ground := Ground.data }, { on := 3, ground := Ground.data }, { on := 5, ground := Ground.data }], guard := none }) rfl (fun K hK => ?_) AllReadyH.nil
          go_simp
          refine (Pg.out _).mono ?_
          rintro e V1 ⟨D1, l1, rfl, hr, hq, hb⟩
          replace Kv := Lib.hid (Kv.out.kept hb)
          have R1 := Lib.hid hr
          replace HB := Lib.hid (HB.out.trans (hb.mono HB.out.size))
          clear hb hr hq
          refine hK.out _ _ Kv.out.cells (fun hHeld => ?_)
          clear hK K
          try simp only [Act.put, List.setIfInBounds_toArray, List.set_cons_zero, List.set_cons_succ]
          refine wpAnyH_ready (rs := [8]) (by kernel_rfl) (by simp) ?_
          refine AllReadyH.cons (o := { dst := some 113, op := Op.call { callee := Callee.value (Operand.func 16), args := #[Operand.tmp 111, Operand.tmp 112], argTypes := #[25, 25] }, type := 3, pos := "law.go:72", after := #[{ on := 6, ground := Ground.data }, { on := 7, ground := Ground.data }, { on := 6, ground := Ground.chain }], guard := none }) rfl (fun K hK => ?_) AllReadyH.nil
          go_simp
          refine (compare_any g v D1 none B1 B2 l1 0 d1 d2 _ R1.out Kv.out.2.1 Fg.out (Fit.of_short Sv.out.1)).mono ?_
          rintro e V2 ⟨rfl, hb⟩
          replace Kv := Lib.hid (Kv.out.kept hb)
          replace HB := Lib.hid (HB.out.trans (hb.mono HB.out.size))
          clear hb
          refine hK.out _ _ Kv.out.cells (fun hHeld => ?_)
          clear hK K
          try simp only [Act.put, List.setIfInBounds_toArray, List.set_cons_zero, List.set_cons_succ]
          have hc := Cg.out
          generalize cmpV g v = cg at hc ⊢
          have hcb : decide (cg ≤ 0) = true := decide_eq_true hc
          clear hc
          refine wpAnyH_take (i := 9) (oi := { dst := some 114, op := Op.binOp BinOp.leq 3 (Operand.tmp 113) (Operand.const (Value.int IntKind.i64 0)) 3, type := 4, pos := "law.go:72", after := #[{ on := 8, ground := Ground.data }], guard := none }) (v := .bool true) rfl (by kernel_rfl) (by kernel_rfl) (by kernel_rfl) (fun _ _ _ h => h) (Or.inl ⟨by rfl, fun w' hS' => by go_simp⟩) (by assumption) ?_
          simp only [Act.put, List.setIfInBounds_toArray, List.set_cons_zero, List.set_cons_succ]
          refine wpAnyH_take (i := 10) (oi := { dst := some 4, op := Op.assign (Operand.tmp 114), type := 4, pos := "law.go:72", after := #[{ on := 9, ground := Ground.data }, { on := 8, ground := Ground.chain }, { on := 0, ground := Ground.phase }, { on := 1, ground := Ground.phase }, { on := 2, ground := Ground.phase }, { on := 3, ground := Ground.phase }, { on := 4, ground := Ground.phase }, { on := 5, ground := Ground.phase }, { on := 6, ground := Ground.phase }, { on := 7, ground := Ground.phase }, { on := 8, ground := Ground.phase }, { on := 9, ground := Ground.phase }], guard := none }) (v := .bool true) rfl (by kernel_rfl) (by kernel_rfl) (by kernel_rfl) (fun _ _ _ h => h) (Or.inl ⟨by rfl, fun w' hS' => by go_simp⟩) (by assumption) ?_
          simp only [Act.put, List.setIfInBounds_toArray, List.set_cons_zero, List.set_cons_succ]
          refine wpAnyH_done (by kernel_rfl) ?_ _
          go_wp2
          go_ret
          exact ⟨rfl, HB.out⟩
    · rw [Bool.not_eq_true] at hv
      rw [hv]
      clear hv
      go_wp2
      go_ret
      exact ⟨rfl, HB.out⟩
  · rw [Bool.not_eq_true] at hu
    rw [hu]
    clear hu
    go_wp2
    go_ret
    exact ⟨rfl, HB.out⟩
end Go.Proofs.YteiohoophiagoaaDoor.Prec
