/-
  PrecOrders: of three versions, if one doesn't stand behind the next, nor that behind the third, the first doesn't stand behind the third. Conditions: the rows read as lists of texts, of lengths that the form allows.
-/
import Derived.Test.YteiohoophiagoaaDoorPrAwake
import Derived.Test.YteiohoophiagoaaDoorPrAt
import Derived.Test.YteiohoophiagoaaDoorSvShort
namespace Go.Proofs.YteiohoophiagoaaDoor.Prec
open Go.RowKit Num Ident Semver

set_option maxRecDepth 100000 in
set_option maxHeartbeats 3200000 in
theorem precOrders_any (u : Ver) (A1 A2 : Option Addr) (c1 c2 : Nat) (v : Ver) (B1 B2 : Option Addr) (d1 d2 : Nat) (t : Ver) (E1 E2 : Option Addr) (g1 g2 : Nat) (w : World) (ru : SRow w A1 u.pre.length u.pre) (su : SRow w A2 u.build.length u.build) (rv : SRow w B1 v.pre.length v.pre) (sv : SRow w B2 v.build.length v.build) (rt : SRow w E1 t.pre.length t.pre) (st : SRow w E2 t.build.length t.build)
    (nu : u.pre.length ≤ maxLen) (mu : u.build.length ≤ maxLen) (nv : v.pre.length ≤ maxLen) (mv : v.build.length ≤ maxLen) (nt : t.pre.length ≤ maxLen) (mt : t.build.length ≤ maxLen) :
    Calls Tryd.prog 4 #[.agg #[.int .u64 (u.a : Int), .int .u64 (u.b : Int), .int .u64 (u.c : Int), .slice A1 u.pre.length c1, .slice A2 u.build.length c2], .agg #[.int .u64 (v.a : Int), .int .u64 (v.b : Int), .int .u64 (v.c : Int), .slice B1 v.pre.length d1, .slice B2 v.build.length d2], .agg #[.int .u64 (t.a : Int), .int .u64 (t.b : Int), .int .u64 (t.c : Int), .slice E1 t.pre.length g1, .slice E2 t.build.length g2]] w fun e w' => e = .returned (.bool true) ∧ Below w.heap.size w w' := by
  have Ku : Hid (VAt (((w.alloc (.cells #[.int .u64 (u.a : Int), .int .u64 (u.b : Int), .int .u64 (u.c : Int), .slice A1 u.pre.length c1, .slice A2 u.build.length c2] 25)).alloc (.cells #[.int .u64 (v.a : Int), .int .u64 (v.b : Int), .int .u64 (v.c : Int), .slice B1 v.pre.length d1, .slice B2 v.build.length d2] 25)).alloc (.cells #[.int .u64 (t.a : Int), .int .u64 (t.b : Int), .int .u64 (t.c : Int), .slice E1 t.pre.length g1, .slice E2 t.build.length g2] 25)) (w.heap.size) u A1 c1 A2 c2) := ((VAt.new w ru su 25).alloc _).alloc _
  have Kv : Hid (VAt (((w.alloc (.cells #[.int .u64 (u.a : Int), .int .u64 (u.b : Int), .int .u64 (u.c : Int), .slice A1 u.pre.length c1, .slice A2 u.build.length c2] 25)).alloc (.cells #[.int .u64 (v.a : Int), .int .u64 (v.b : Int), .int .u64 (v.c : Int), .slice B1 v.pre.length d1, .slice B2 v.build.length d2] 25)).alloc (.cells #[.int .u64 (t.a : Int), .int .u64 (t.b : Int), .int .u64 (t.c : Int), .slice E1 t.pre.length g1, .slice E2 t.build.length g2] 25)) (w.heap.size + 1) v B1 d1 B2 d2) := by
    have k := (VAt.new (w.alloc (.cells #[.int .u64 (u.a : Int), .int .u64 (u.b : Int), .int .u64 (u.c : Int), .slice A1 u.pre.length c1, .slice A2 u.build.length c2] 25)) (c := d1) (d := d2) (rv.kept ((Below.refl _ _).alloc (Nat.le_refl _) _)) (sv.kept ((Below.refl _ _).alloc (Nat.le_refl _) _)) 25).alloc (.cells #[.int .u64 (t.a : Int), .int .u64 (t.b : Int), .int .u64 (t.c : Int), .slice E1 t.pre.length g1, .slice E2 t.build.length g2] 25)
    rw [size_alloc] at k
    exact k
  have Kt : Hid (VAt (((w.alloc (.cells #[.int .u64 (u.a : Int), .int .u64 (u.b : Int), .int .u64 (u.c : Int), .slice A1 u.pre.length c1, .slice A2 u.build.length c2] 25)).alloc (.cells #[.int .u64 (v.a : Int), .int .u64 (v.b : Int), .int .u64 (v.c : Int), .slice B1 v.pre.length d1, .slice B2 v.build.length d2] 25)).alloc (.cells #[.int .u64 (t.a : Int), .int .u64 (t.b : Int), .int .u64 (t.c : Int), .slice E1 t.pre.length g1, .slice E2 t.build.length g2] 25)) (w.heap.size + 1 + 1) t E1 g1 E2 g2) := by
    have k := VAt.new ((w.alloc (.cells #[.int .u64 (u.a : Int), .int .u64 (u.b : Int), .int .u64 (u.c : Int), .slice A1 u.pre.length c1, .slice A2 u.build.length c2] 25)).alloc (.cells #[.int .u64 (v.a : Int), .int .u64 (v.b : Int), .int .u64 (v.c : Int), .slice B1 v.pre.length d1, .slice B2 v.build.length d2] 25)) (c := g1) (d := g2) ((rt.kept ((Below.refl _ _).alloc (Nat.le_refl _) _)).kept ((Below.refl _ _).alloc (Nat.le_refl _) _)) ((st.kept ((Below.refl _ _).alloc (Nat.le_refl _) _)).kept ((Below.refl _ _).alloc (Nat.le_refl _) _)) 25
    rw [size_alloc, size_alloc] at k
    exact k
  have HB : Hid (Below w.heap.size w (((w.alloc (.cells #[.int .u64 (u.a : Int), .int .u64 (u.b : Int), .int .u64 (u.c : Int), .slice A1 u.pre.length c1, .slice A2 u.build.length c2] 25)).alloc (.cells #[.int .u64 (v.a : Int), .int .u64 (v.b : Int), .int .u64 (v.c : Int), .slice B1 v.pre.length d1, .slice B2 v.build.length d2] 25)).alloc (.cells #[.int .u64 (t.a : Int), .int .u64 (t.b : Int), .int .u64 (t.c : Int), .slice E1 t.pre.length g1, .slice E2 t.build.length g2] 25))) := (((Below.refl _ _).alloc (Nat.le_refl _) _).alloc (by simp) _).alloc (by simp; omega) _
  have Nu := Lib.hid nu
  have Mu := Lib.hid mu
  have Nv := Lib.hid nv
  have Mv := Lib.hid mv
  have Nt := Lib.hid nt
  have Mt := Lib.hid mt
  clear ru su nu mu rv sv nv mv rt st nt mt
  go_enter Tryd.func4, Tryd.ntmps4
  go_upto_region 1 with (fail)
  generalize (((w.alloc (.cells #[.int .u64 (u.a : Int), .int .u64 (u.b : Int), .int .u64 (u.c : Int), .slice A1 u.pre.length c1, .slice A2 u.build.length c2] 25)).alloc (.cells #[.int .u64 (v.a : Int), .int .u64 (v.b : Int), .int .u64 (v.c : Int), .slice B1 v.pre.length d1, .slice B2 v.build.length d2] 25)).alloc (.cells #[.int .u64 (t.a : Int), .int .u64 (t.b : Int), .int .u64 (t.c : Int), .slice E1 t.pre.length g1, .slice E2 t.build.length g2] 25)) = W0 at Ku Kv Kt HB ⊢
  obtain ⟨u_0, u_1, u_2, u_3, u_4⟩ := Ku.out.cells
  obtain ⟨v_0, v_1, v_2, v_3, v_4⟩ := Kv.out.cells
  obtain ⟨t_0, t_1, t_2, t_3, t_4⟩ := Kt.out.cells
  go_wp2_with fail
  refine (awake_any _).mono ?_
  rintro e W1 ⟨rfl, hb⟩
  replace Ku := Lib.hid (Ku.out.kept hb)
  replace Kv := Lib.hid (Kv.out.kept hb)
  replace Kt := Lib.hid (Kt.out.kept hb)
  replace HB := Lib.hid (HB.out.trans (hb.mono HB.out.size))
  clear hb
  clear u_0 u_1 u_2 u_3 u_4 v_0 v_1 v_2 v_3 v_4 t_0 t_1 t_2 t_3 t_4
  obtain ⟨u_0, u_1, u_2, u_3, u_4⟩ := Ku.out.cells
  obtain ⟨v_0, v_1, v_2, v_3, v_4⟩ := Kv.out.cells
  obtain ⟨t_0, t_1, t_2, t_3, t_4⟩ := Kt.out.cells
  go_wp2_with fail
  refine (vshort_any u A1 c1 A2 c2 _ Ku.out.2.1 Ku.out.2.2 Nu.out Mu.out).mono ?_
  rintro e W2 ⟨rfl, hb⟩
  replace Ku := Lib.hid (Ku.out.kept hb)
  replace Kv := Lib.hid (Kv.out.kept hb)
  replace Kt := Lib.hid (Kt.out.kept hb)
  replace HB := Lib.hid (HB.out.trans (hb.mono HB.out.size))
  clear hb
  clear u_0 u_1 u_2 u_3 u_4 v_0 v_1 v_2 v_3 v_4 t_0 t_1 t_2 t_3 t_4
  obtain ⟨u_0, u_1, u_2, u_3, u_4⟩ := Ku.out.cells
  obtain ⟨v_0, v_1, v_2, v_3, v_4⟩ := Kv.out.cells
  obtain ⟨t_0, t_1, t_2, t_3, t_4⟩ := Kt.out.cells
  by_cases hu : (shortB u.pre && shortB u.build) = true
  · rw [hu]
    rw [Bool.and_eq_true] at hu
    have Su := Lib.hid hu
    clear hu
    go_wp2_with fail
    refine (vshort_any v B1 d1 B2 d2 _ Kv.out.2.1 Kv.out.2.2 Nv.out Mv.out).mono ?_
    rintro e W3 ⟨rfl, hb⟩
    replace Ku := Lib.hid (Ku.out.kept hb)
    replace Kv := Lib.hid (Kv.out.kept hb)
    replace Kt := Lib.hid (Kt.out.kept hb)
    replace HB := Lib.hid (HB.out.trans (hb.mono HB.out.size))
    clear hb
    clear u_0 u_1 u_2 u_3 u_4 v_0 v_1 v_2 v_3 v_4 t_0 t_1 t_2 t_3 t_4
    obtain ⟨u_0, u_1, u_2, u_3, u_4⟩ := Ku.out.cells
    obtain ⟨v_0, v_1, v_2, v_3, v_4⟩ := Kv.out.cells
    obtain ⟨t_0, t_1, t_2, t_3, t_4⟩ := Kt.out.cells
    by_cases hv : (shortB v.pre && shortB v.build) = true
    · rw [hv]
      rw [Bool.and_eq_true] at hv
      have Sv := Lib.hid hv
      clear hv
      go_wp2_with fail
      refine (vshort_any t E1 g1 E2 g2 _ Kt.out.2.1 Kt.out.2.2 Nt.out Mt.out).mono ?_
      rintro e W4 ⟨rfl, hb⟩
      replace Ku := Lib.hid (Ku.out.kept hb)
      replace Kv := Lib.hid (Kv.out.kept hb)
      replace Kt := Lib.hid (Kt.out.kept hb)
      replace HB := Lib.hid (HB.out.trans (hb.mono HB.out.size))
      clear hb
      clear u_0 u_1 u_2 u_3 u_4 v_0 v_1 v_2 v_3 v_4 t_0 t_1 t_2 t_3 t_4
      obtain ⟨u_0, u_1, u_2, u_3, u_4⟩ := Ku.out.cells
      obtain ⟨v_0, v_1, v_2, v_3, v_4⟩ := Kv.out.cells
      obtain ⟨t_0, t_1, t_2, t_3, t_4⟩ := Kt.out.cells
      by_cases ht : (shortB t.pre && shortB t.build) = true
      · rw [ht]
        rw [Bool.and_eq_true] at ht
        have St := Lib.hid ht
        clear ht
        go_wp2_with fail
        refine (compare_any u v A1 A2 B1 B2 c1 c2 d1 d2 _ Ku.out.2.1 Kv.out.2.1 (Fit.of_short Su.out.1) (Fit.of_short Sv.out.1)).mono ?_
        rintro e W5 ⟨rfl, hb⟩
        replace Ku := Lib.hid (Ku.out.kept hb)
        replace Kv := Lib.hid (Kv.out.kept hb)
        replace Kt := Lib.hid (Kt.out.kept hb)
        replace HB := Lib.hid (HB.out.trans (hb.mono HB.out.size))
        clear hb
        clear u_0 u_1 u_2 u_3 u_4 v_0 v_1 v_2 v_3 v_4 t_0 t_1 t_2 t_3 t_4
        obtain ⟨u_0, u_1, u_2, u_3, u_4⟩ := Ku.out.cells
        obtain ⟨v_0, v_1, v_2, v_3, v_4⟩ := Kv.out.cells
        obtain ⟨t_0, t_1, t_2, t_3, t_4⟩ := Kt.out.cells
        by_cases h1 : cmpV u v ≤ 0
        · have T1 := Lib.hid h1
          generalize cmpV u v = y1 at h1 ⊢
          have h1b : decide (y1 ≤ 0) = true := decide_eq_true h1
          clear h1
          go_wp2_with fail
          refine (compare_any v t B1 B2 E1 E2 d1 d2 g1 g2 _ Kv.out.2.1 Kt.out.2.1 (Fit.of_short Sv.out.1) (Fit.of_short St.out.1)).mono ?_
          rintro e W6 ⟨rfl, hb⟩
          replace Ku := Lib.hid (Ku.out.kept hb)
          replace Kv := Lib.hid (Kv.out.kept hb)
          replace Kt := Lib.hid (Kt.out.kept hb)
          replace HB := Lib.hid (HB.out.trans (hb.mono HB.out.size))
          clear hb
          clear u_0 u_1 u_2 u_3 u_4 v_0 v_1 v_2 v_3 v_4 t_0 t_1 t_2 t_3 t_4
          obtain ⟨u_0, u_1, u_2, u_3, u_4⟩ := Ku.out.cells
          obtain ⟨v_0, v_1, v_2, v_3, v_4⟩ := Kv.out.cells
          obtain ⟨t_0, t_1, t_2, t_3, t_4⟩ := Kt.out.cells
          by_cases h2 : cmpV v t ≤ 0
          · have T2 := Lib.hid h2
            generalize cmpV v t = y2 at h2 ⊢
            have h2b : decide (y2 ≤ 0) = true := decide_eq_true h2
            clear h2
            go_wp2_with fail
            refine (compare_any u t A1 A2 E1 E2 c1 c2 g1 g2 _ Ku.out.2.1 Kt.out.2.1 (Fit.of_short Su.out.1) (Fit.of_short St.out.1)).mono ?_
            rintro e W7 ⟨rfl, hb⟩
            replace Ku := Lib.hid (Ku.out.kept hb)
            replace Kv := Lib.hid (Kv.out.kept hb)
            replace Kt := Lib.hid (Kt.out.kept hb)
            replace HB := Lib.hid (HB.out.trans (hb.mono HB.out.size))
            clear hb
            clear u_0 u_1 u_2 u_3 u_4 v_0 v_1 v_2 v_3 v_4 t_0 t_1 t_2 t_3 t_4
            obtain ⟨u_0, u_1, u_2, u_3, u_4⟩ := Ku.out.cells
            obtain ⟨v_0, v_1, v_2, v_3, v_4⟩ := Kv.out.cells
            obtain ⟨t_0, t_1, t_2, t_3, t_4⟩ := Kt.out.cells
            have h3 : cmpV u t ≤ 0 := cmpV_ordr.trans u v t T1.out T2.out
            generalize cmpV u t = y3 at h3 ⊢
            have h3b : decide (0 < y3) = false := decide_eq_false (by omega)
            clear h3
            go_wp2_with fail
            refine (full_any u v A1 A2 B1 B2 c1 c2 d1 d2 _ Ku.out.2.1 Ku.out.2.2 Kv.out.2.1 Kv.out.2.2 (Fit.of_short Su.out.1) (Fit.of_short Su.out.2) (Fit.of_short Sv.out.1) (Fit.of_short Sv.out.2)).mono ?_
            rintro e W8 ⟨rfl, hb⟩
            replace Ku := Lib.hid (Ku.out.kept hb)
            replace Kv := Lib.hid (Kv.out.kept hb)
            replace Kt := Lib.hid (Kt.out.kept hb)
            replace HB := Lib.hid (HB.out.trans (hb.mono HB.out.size))
            clear hb
            clear u_0 u_1 u_2 u_3 u_4 v_0 v_1 v_2 v_3 v_4 t_0 t_1 t_2 t_3 t_4
            obtain ⟨u_0, u_1, u_2, u_3, u_4⟩ := Ku.out.cells
            obtain ⟨v_0, v_1, v_2, v_3, v_4⟩ := Kv.out.cells
            obtain ⟨t_0, t_1, t_2, t_3, t_4⟩ := Kt.out.cells
            by_cases l1 : fullV u v ≤ 0
            · have Z1 := Lib.hid l1
              generalize fullV u v = z1 at l1 ⊢
              have l1b : decide (z1 ≤ 0) = true := decide_eq_true l1
              clear l1
              go_wp2_with fail
              refine (full_any v t B1 B2 E1 E2 d1 d2 g1 g2 _ Kv.out.2.1 Kv.out.2.2 Kt.out.2.1 Kt.out.2.2 (Fit.of_short Sv.out.1) (Fit.of_short Sv.out.2) (Fit.of_short St.out.1) (Fit.of_short St.out.2)).mono ?_
              rintro e W9 ⟨rfl, hb⟩
              replace Ku := Lib.hid (Ku.out.kept hb)
              replace Kv := Lib.hid (Kv.out.kept hb)
              replace Kt := Lib.hid (Kt.out.kept hb)
              replace HB := Lib.hid (HB.out.trans (hb.mono HB.out.size))
              clear hb
              clear u_0 u_1 u_2 u_3 u_4 v_0 v_1 v_2 v_3 v_4 t_0 t_1 t_2 t_3 t_4
              obtain ⟨u_0, u_1, u_2, u_3, u_4⟩ := Ku.out.cells
              obtain ⟨v_0, v_1, v_2, v_3, v_4⟩ := Kv.out.cells
              obtain ⟨t_0, t_1, t_2, t_3, t_4⟩ := Kt.out.cells
              by_cases l2 : fullV v t ≤ 0
              · have Z2 := Lib.hid l2
                generalize fullV v t = z2 at l2 ⊢
                have l2b : decide (z2 ≤ 0) = true := decide_eq_true l2
                clear l2
                go_wp2_with fail
                refine (full_any u t A1 A2 E1 E2 c1 c2 g1 g2 _ Ku.out.2.1 Ku.out.2.2 Kt.out.2.1 Kt.out.2.2 (Fit.of_short Su.out.1) (Fit.of_short Su.out.2) (Fit.of_short St.out.1) (Fit.of_short St.out.2)).mono ?_
                rintro e W10 ⟨rfl, hb⟩
                replace Ku := Lib.hid (Ku.out.kept hb)
                replace Kv := Lib.hid (Kv.out.kept hb)
                replace Kt := Lib.hid (Kt.out.kept hb)
                replace HB := Lib.hid (HB.out.trans (hb.mono HB.out.size))
                clear hb
                clear u_0 u_1 u_2 u_3 u_4 v_0 v_1 v_2 v_3 v_4 t_0 t_1 t_2 t_3 t_4
                obtain ⟨u_0, u_1, u_2, u_3, u_4⟩ := Ku.out.cells
                obtain ⟨v_0, v_1, v_2, v_3, v_4⟩ := Kv.out.cells
                obtain ⟨t_0, t_1, t_2, t_3, t_4⟩ := Kt.out.cells
                have l3 : fullV u t ≤ 0 := fullV_ordr.trans u v t Z1.out Z2.out
                generalize fullV u t = z3 at l3 ⊢
                have l3b : decide (z3 ≤ 0) = true := decide_eq_true l3
                clear l3
                go_wp2
                go_ret
                exact ⟨rfl, HB.out⟩
              · generalize fullV v t = z2 at l2 ⊢
                have l2b : decide (z2 ≤ 0) = false := decide_eq_false l2
                clear l2
                go_wp2
                go_ret
                exact ⟨rfl, HB.out⟩
            · generalize fullV u v = z1 at l1 ⊢
              have l1b : decide (z1 ≤ 0) = false := decide_eq_false l1
              clear l1
              go_wp2
              go_ret
              exact ⟨rfl, HB.out⟩
          · generalize cmpV v t = y2 at h2 ⊢
            have h2b : decide (y2 ≤ 0) = false := decide_eq_false h2
            clear h2
            go_wp2_with fail
            refine (full_any u v A1 A2 B1 B2 c1 c2 d1 d2 _ Ku.out.2.1 Ku.out.2.2 Kv.out.2.1 Kv.out.2.2 (Fit.of_short Su.out.1) (Fit.of_short Su.out.2) (Fit.of_short Sv.out.1) (Fit.of_short Sv.out.2)).mono ?_
            rintro e W7 ⟨rfl, hb⟩
            replace Ku := Lib.hid (Ku.out.kept hb)
            replace Kv := Lib.hid (Kv.out.kept hb)
            replace Kt := Lib.hid (Kt.out.kept hb)
            replace HB := Lib.hid (HB.out.trans (hb.mono HB.out.size))
            clear hb
            clear u_0 u_1 u_2 u_3 u_4 v_0 v_1 v_2 v_3 v_4 t_0 t_1 t_2 t_3 t_4
            obtain ⟨u_0, u_1, u_2, u_3, u_4⟩ := Ku.out.cells
            obtain ⟨v_0, v_1, v_2, v_3, v_4⟩ := Kv.out.cells
            obtain ⟨t_0, t_1, t_2, t_3, t_4⟩ := Kt.out.cells
            by_cases l1 : fullV u v ≤ 0
            · have Z1 := Lib.hid l1
              generalize fullV u v = z1 at l1 ⊢
              have l1b : decide (z1 ≤ 0) = true := decide_eq_true l1
              clear l1
              go_wp2_with fail
              refine (full_any v t B1 B2 E1 E2 d1 d2 g1 g2 _ Kv.out.2.1 Kv.out.2.2 Kt.out.2.1 Kt.out.2.2 (Fit.of_short Sv.out.1) (Fit.of_short Sv.out.2) (Fit.of_short St.out.1) (Fit.of_short St.out.2)).mono ?_
              rintro e W8 ⟨rfl, hb⟩
              replace Ku := Lib.hid (Ku.out.kept hb)
              replace Kv := Lib.hid (Kv.out.kept hb)
              replace Kt := Lib.hid (Kt.out.kept hb)
              replace HB := Lib.hid (HB.out.trans (hb.mono HB.out.size))
              clear hb
              clear u_0 u_1 u_2 u_3 u_4 v_0 v_1 v_2 v_3 v_4 t_0 t_1 t_2 t_3 t_4
              obtain ⟨u_0, u_1, u_2, u_3, u_4⟩ := Ku.out.cells
              obtain ⟨v_0, v_1, v_2, v_3, v_4⟩ := Kv.out.cells
              obtain ⟨t_0, t_1, t_2, t_3, t_4⟩ := Kt.out.cells
              by_cases l2 : fullV v t ≤ 0
              · have Z2 := Lib.hid l2
                generalize fullV v t = z2 at l2 ⊢
                have l2b : decide (z2 ≤ 0) = true := decide_eq_true l2
                clear l2
                go_wp2_with fail
                refine (full_any u t A1 A2 E1 E2 c1 c2 g1 g2 _ Ku.out.2.1 Ku.out.2.2 Kt.out.2.1 Kt.out.2.2 (Fit.of_short Su.out.1) (Fit.of_short Su.out.2) (Fit.of_short St.out.1) (Fit.of_short St.out.2)).mono ?_
                rintro e W9 ⟨rfl, hb⟩
                replace Ku := Lib.hid (Ku.out.kept hb)
                replace Kv := Lib.hid (Kv.out.kept hb)
                replace Kt := Lib.hid (Kt.out.kept hb)
                replace HB := Lib.hid (HB.out.trans (hb.mono HB.out.size))
                clear hb
                clear u_0 u_1 u_2 u_3 u_4 v_0 v_1 v_2 v_3 v_4 t_0 t_1 t_2 t_3 t_4
                obtain ⟨u_0, u_1, u_2, u_3, u_4⟩ := Ku.out.cells
                obtain ⟨v_0, v_1, v_2, v_3, v_4⟩ := Kv.out.cells
                obtain ⟨t_0, t_1, t_2, t_3, t_4⟩ := Kt.out.cells
                have l3 : fullV u t ≤ 0 := fullV_ordr.trans u v t Z1.out Z2.out
                generalize fullV u t = z3 at l3 ⊢
                have l3b : decide (z3 ≤ 0) = true := decide_eq_true l3
                clear l3
                go_wp2
                go_ret
                exact ⟨rfl, HB.out⟩
              · generalize fullV v t = z2 at l2 ⊢
                have l2b : decide (z2 ≤ 0) = false := decide_eq_false l2
                clear l2
                go_wp2
                go_ret
                exact ⟨rfl, HB.out⟩
            · generalize fullV u v = z1 at l1 ⊢
              have l1b : decide (z1 ≤ 0) = false := decide_eq_false l1
              clear l1
              go_wp2
              go_ret
              exact ⟨rfl, HB.out⟩
        · generalize cmpV u v = y1 at h1 ⊢
          have h1b : decide (y1 ≤ 0) = false := decide_eq_false h1
          clear h1
          go_wp2_with fail
          refine (full_any u v A1 A2 B1 B2 c1 c2 d1 d2 _ Ku.out.2.1 Ku.out.2.2 Kv.out.2.1 Kv.out.2.2 (Fit.of_short Su.out.1) (Fit.of_short Su.out.2) (Fit.of_short Sv.out.1) (Fit.of_short Sv.out.2)).mono ?_
          rintro e W6 ⟨rfl, hb⟩
          replace Ku := Lib.hid (Ku.out.kept hb)
          replace Kv := Lib.hid (Kv.out.kept hb)
          replace Kt := Lib.hid (Kt.out.kept hb)
          replace HB := Lib.hid (HB.out.trans (hb.mono HB.out.size))
          clear hb
          clear u_0 u_1 u_2 u_3 u_4 v_0 v_1 v_2 v_3 v_4 t_0 t_1 t_2 t_3 t_4
          obtain ⟨u_0, u_1, u_2, u_3, u_4⟩ := Ku.out.cells
          obtain ⟨v_0, v_1, v_2, v_3, v_4⟩ := Kv.out.cells
          obtain ⟨t_0, t_1, t_2, t_3, t_4⟩ := Kt.out.cells
          by_cases l1 : fullV u v ≤ 0
          · have Z1 := Lib.hid l1
            generalize fullV u v = z1 at l1 ⊢
            have l1b : decide (z1 ≤ 0) = true := decide_eq_true l1
            clear l1
            go_wp2_with fail
            refine (full_any v t B1 B2 E1 E2 d1 d2 g1 g2 _ Kv.out.2.1 Kv.out.2.2 Kt.out.2.1 Kt.out.2.2 (Fit.of_short Sv.out.1) (Fit.of_short Sv.out.2) (Fit.of_short St.out.1) (Fit.of_short St.out.2)).mono ?_
            rintro e W7 ⟨rfl, hb⟩
            replace Ku := Lib.hid (Ku.out.kept hb)
            replace Kv := Lib.hid (Kv.out.kept hb)
            replace Kt := Lib.hid (Kt.out.kept hb)
            replace HB := Lib.hid (HB.out.trans (hb.mono HB.out.size))
            clear hb
            clear u_0 u_1 u_2 u_3 u_4 v_0 v_1 v_2 v_3 v_4 t_0 t_1 t_2 t_3 t_4
            obtain ⟨u_0, u_1, u_2, u_3, u_4⟩ := Ku.out.cells
            obtain ⟨v_0, v_1, v_2, v_3, v_4⟩ := Kv.out.cells
            obtain ⟨t_0, t_1, t_2, t_3, t_4⟩ := Kt.out.cells
            by_cases l2 : fullV v t ≤ 0
            · have Z2 := Lib.hid l2
              generalize fullV v t = z2 at l2 ⊢
              have l2b : decide (z2 ≤ 0) = true := decide_eq_true l2
              clear l2
              go_wp2_with fail
              refine (full_any u t A1 A2 E1 E2 c1 c2 g1 g2 _ Ku.out.2.1 Ku.out.2.2 Kt.out.2.1 Kt.out.2.2 (Fit.of_short Su.out.1) (Fit.of_short Su.out.2) (Fit.of_short St.out.1) (Fit.of_short St.out.2)).mono ?_
              rintro e W8 ⟨rfl, hb⟩
              replace Ku := Lib.hid (Ku.out.kept hb)
              replace Kv := Lib.hid (Kv.out.kept hb)
              replace Kt := Lib.hid (Kt.out.kept hb)
              replace HB := Lib.hid (HB.out.trans (hb.mono HB.out.size))
              clear hb
              clear u_0 u_1 u_2 u_3 u_4 v_0 v_1 v_2 v_3 v_4 t_0 t_1 t_2 t_3 t_4
              obtain ⟨u_0, u_1, u_2, u_3, u_4⟩ := Ku.out.cells
              obtain ⟨v_0, v_1, v_2, v_3, v_4⟩ := Kv.out.cells
              obtain ⟨t_0, t_1, t_2, t_3, t_4⟩ := Kt.out.cells
              have l3 : fullV u t ≤ 0 := fullV_ordr.trans u v t Z1.out Z2.out
              generalize fullV u t = z3 at l3 ⊢
              have l3b : decide (z3 ≤ 0) = true := decide_eq_true l3
              clear l3
              go_wp2
              go_ret
              exact ⟨rfl, HB.out⟩
            · generalize fullV v t = z2 at l2 ⊢
              have l2b : decide (z2 ≤ 0) = false := decide_eq_false l2
              clear l2
              go_wp2
              go_ret
              exact ⟨rfl, HB.out⟩
          · generalize fullV u v = z1 at l1 ⊢
            have l1b : decide (z1 ≤ 0) = false := decide_eq_false l1
            clear l1
            go_wp2
            go_ret
            exact ⟨rfl, HB.out⟩
      · rw [Bool.not_eq_true] at ht
        rw [ht]
        clear ht
        go_wp2
        go_ret
        exact ⟨rfl, HB.out⟩
    · rw [Bool.not_eq_true] at hv
      rw [hv]
      clear hv
      go_wp2
      go_ret
      exact ⟨rfl, HB.out⟩
  · rw [Bool.not_eq_true] at hu
    rw [hu]
    clear hu
    go_wp2
    go_ret
    exact ⟨rfl, HB.out⟩
end Go.Proofs.YteiohoophiagoaaDoor.Prec
