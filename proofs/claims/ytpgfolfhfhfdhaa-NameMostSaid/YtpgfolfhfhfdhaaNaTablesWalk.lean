/-
  The law NameTables answers true for any texts, and writes nothing that was there, if package name answers as told (Says). Condition: the slice reads as a list of texts. (Made by wip/gen_natables.py.)
-/
import Derived.Test.YtpgfolfhfhfdhaaNaSays
import Derived.Test.YtpgfolfhfhfdhaaTk
import Derived.Deep.CutBlock
import Derived.Deep.DeepCutAuto
namespace Go.Proofs.Ytpgfolfhfhfdhaa.Name
open Go.RowKit Num Ident Fr Ints

/-- In a law: a table whose names are y, beside a row x of the law's own. -/
structure LA (w : World) (tb : Nat) (T : Nat → Prop) (v : Value) (y x : List (List UInt8)) (W : World) : Prop where
  tab : TabAt W tb T y
  row : W.ownsRow 0 9 1 v x.length (strs x)
  hi : ∀ b, T b → w.heap.size ≤ b
  own : ∀ b, v.ownBlock = some b → ¬ T b ∧ w.heap.size ≤ b
  bel : Below w.heap.size w W
theorem LA.kept {w W W' : World} {tb : Nat} {T : Nat → Prop} {v : Value} {y x : List (List UInt8)} (h : LA w tb T v y x W) (hb : Below W.heap.size W W') : LA w tb T v y x W' :=
  ⟨h.tab.but (But.of_same hb fun _ => False) (fun _ _ g => g), own_but h.row (But.of_same hb fun _ => False) (fun _ _ g => g), h.hi, h.own, h.bel.trans (hb.mono h.bel.size)⟩
theorem LA.add {w W W' : World} {tb : Nat} {T : Nat → Prop} {v : Value} {y x : List (List UInt8)} {s : List UInt8} {e : Ending} (h : LA w tb T v y x W) (g : AddPost W tb T y s e W') :
    e = .returned (.tuple #[.int .i64 (addN y s), .int .i64 (addE y s)]) ∧ ∃ T', LA w tb T' v (addX y s) x W' := by
  obtain ⟨he, T', h1, h2, h3⟩ := g
  refine ⟨he, T', h1, own_but h.row h3 (fun b e => (h.own b e).1), fun b g => ?_, fun b e => ⟨fun g => ?_, (h.own b e).2⟩, h.bel.trans (h3.below h.hi h.bel.size)⟩
  · rcases h2 b g with g | g
    · exact h.hi b g
    · exact Nat.le_trans h.bel.size g
  · rcases h2 b g with g | g
    · exact (h.own b e).1 g
    · have := own_lt h.row e; omega
theorem LA.app {w W W' : World} {tb : Nat} {T : Nat → Prop} {v v' : Value} {y x : List (List UInt8)} {s : List UInt8} (h : LA w tb T v y x W) (hg : (W.alloc (.cells #[.string (Ident.mk s)] 9)).grownBy W' v.ownBlock)
    (hown : W'.ownsRow 0 9 1 v' (x.length + 1) (strs (x ++ [s]))) (hloc : v'.ownBlock = v.ownBlock ∨ v'.ownBlock = some (W.heap.size + 1)) : LA w tb T v' y (x ++ [s]) W' := by
  have hA : But (fun _ => False) W (W.alloc (.cells #[.string (Ident.mk s)] 9)) := (But.refl _ _).alloc _
  have hG : But (fun k => v.ownBlock = some k) (W.alloc (.cells #[.string (Ident.mk s)] 9)) W' := But.of_grown hg fun b e => e
  refine ⟨(h.tab.but hA (fun _ _ g => g)).but hG (fun b g e => (h.own b e).1 g), by rw [List.length_append]; exact hown, h.hi, fun b e => ?_, h.bel.trans (((hA.mono (T' := fun k => v.ownBlock = some k) (fun _ g => g.elim)).trans hG (fun i g => .inl g)).below (fun k e => (h.own k e).2) h.bel.size)⟩
  rcases hloc with q | q
  · rw [q] at e; exact h.own b e
  · rw [q] at e
    injection e with e
    exact ⟨fun g => by have := h.tab.lt b g; omega, by have := h.bel.size; omega⟩
/-- A table that a law has just made, and a row without elements. -/
theorem LA.new (w W : World) (hb : Below w.heap.size w W) (t : TypeId) : LA w W.heap.size (fun k => k = W.heap.size) (.slice none 0 0) [] [] (W.alloc (.cells #[.map none, .slice none 0 0] t)) :=
  ⟨TabAt.new W t, World.ownsRow_nil _ 0 _ _, (fun b e => by rw [e]; exact hb.size), (fun b e => by cases e), hb.alloc hb.size _⟩
theorem LA.src {w W : World} {tb : Nat} {T : Nat → Prop} {v : Value} {y x : List (List UInt8)} (h : LA w tb T v y x W) : ∃ A c, v = .slice A x.length c ∧ SRow W A x.length x := by
  obtain ⟨A, c, e, _, r⟩ := SRow.of_own h.row
  exact ⟨A, c, e, r⟩
theorem findI_in {x : List (List UInt8)} {s : List UInt8} (h : s ∈ x) : findI x s = (find x s : Nat) := by unfold findI; rw [if_pos (find_lt.2 h)]
theorem findI_out {x : List (List UInt8)} {s : List UInt8} (h : s ∉ x) : findI x s = -1 := by unfold findI; rw [if_neg (fun g => h (find_lt.1 g))]
theorem nameAt_find {x : List (List UInt8)} {s : List UInt8} (h : s ∈ x) : nameAt x (find x s : Nat) = s := by
  have hl := find_lt.2 h
  unfold nameAt
  rw [if_pos ⟨by omega, by omega⟩, Int.toNat_natCast, find_at hl]
theorem nameAt_new (x : List (List UInt8)) (s : List UInt8) : nameAt (x ++ [s]) (x.length : Nat) = s := by
  unfold nameAt
  rw [if_pos ⟨by omega, by rw [List.length_append, List.length_singleton]; omega⟩, Int.toNat_natCast]; simp
theorem nameAt_low (x : List (List UInt8)) : nameAt x (-1) = [] := by unfold nameAt; rw [if_neg (by omega)]
theorem nameAt_end (x : List (List UInt8)) : nameAt x (x.length : Nat) = [] := by unfold nameAt; rw [if_neg (by omega)]
theorem findI_lt {x : List (List UInt8)} {s : List UInt8} (h : s ∈ x) : find x s < x.length := find_lt.2 h

set_option maxRecDepth 100000 in
set_option maxHeartbeats 6400000 in
theorem nameTables_of (S : Says) (A : Option Addr) (n c : Nat) (l : List (List UInt8)) (s : ByteArray) (w : World) (r : SRow w A n l) (hn : n ≤ maxLen) (hz : ∀ x ∈ l, x.length ≤ maxLen) (hs : s.size ≤ maxLen) :
    Calls Try.prog 4 #[.slice A n c, .string s] w fun e w' => e = .returned (.bool true) ∧ Below w.heap.size w w' := by
  have HS := Lib.hid S
  have HM := Lib.hid hs
  have HZ := Lib.hid hz
  have R := Lib.hid r
  have HL := Lib.hid r.1
  unfold maxLen at hs hn
  clear S r hz
  go_enter Try.func4, Try.ntmps4
  go_wp2_with fail
  refine (awake_of HS.out _).mono ?_
  rintro e w1 ⟨rfl, hb1⟩
  have HB1 := Lib.hid hb1; clear hb1
  by_cases h0 : 60 < n
  · go_wp2
    go_ret
    exact ⟨rfl, HB1.out⟩
  · by_cases h3 : 300 < s.size
    · go_wp2
      go_ret
      exact ⟨rfl, HB1.out⟩
    · go_upto_region 6 with (fail)
      have HLA := Lib.hid (LA.new w w1 HB1.out 35)
      obtain ⟨tb, htb⟩ : ∃ tb, w1.heap.size = tb := ⟨_, rfl⟩
      rw [htb] at HLA ⊢
      generalize w1.alloc (.cells #[.map none, .slice none 0 0] 35) = W0 at HLA ⊢
      clear htb
      go_wp2
      go_loopw [6, 7] (fun v i W => ∃ (k : Nat) (T : Nat → Prop) (x : List (List UInt8)), k ≤ n ∧ i = .int .i64 k ∧ x.length ≤ k ∧ Hid (LA w tb T v x x W)) (fun _ i _ => n - (intOf i).toNat)
      case atStart => exact ⟨0, _, [], by omega, rfl, Nat.le_refl _, HLA.out⟩
      case round =>
        rename World => wk
        obtain ⟨k, T, x, hk, rfl, hxk, HI⟩ := hrel
        clear HLA
        obtain ⟨Av, cv, rfl, hsv⟩ := HI.out.src
        have HSV := Lib.hid hsv; clear hsv
        by_cases hlt : k < n
        · obtain ⟨g1, o1, rfl, hg1, hcc⟩ := R.out.2 (by omega)
          have HCC := Lib.hid (fun W (hb : Below w.heap.size w W) => (hb.cell (p := ⟨g1, o1 + k, none⟩) hg1).trans (hcc k hlt))
          clear hcc hg1
          have hlx : (l.getD k []).length ≤ maxLen := HZ.out _ (by
            have h := HL.out
            rw [List.getD_eq_getElem?_getD, List.getElem?_eq_getElem (by omega)]; exact List.getElem_mem _)
          obtain ⟨y, hy⟩ : ∃ y, l.getD k [] = y := ⟨_, rfl⟩
          rw [hy] at hlx HCC
          have hx1 := HCC.out _ HI.out.bel
          have hyz : (mk y).size = y.length := mk_size y
          clear hy
          have HLX := Lib.hid hlx
          clear hlx
          by_cases hl : 300 < (mk y).size
          · go_wp2
            go_ret
            exact ⟨rfl, HI.out.bel⟩
          · go_wp2_with fail
            refine (HS.out.add tb T x (mk y) _ HI.out.tab HLX.out).mono ?_
            rw [mk_list]
            intro e w2 h
            obtain ⟨he, T2, h2⟩ := HI.out.add h
            clear h
            have HY : Hid (y.length ≤ 300) := by unfold Hid; omega
            clear hx1 hyz hl
            cases hnm : isName y
            · obtain ⟨q1, q2, q3⟩ := addX_bad (x := x) hnm
              rw [q2, q3] at he
              rw [q1] at h2
              have H2 := Lib.hid h2
              have HNM := Lib.hid hnm
              subst he
              clear q1 q2 q3 h2 hnm
              obtain ⟨Aw, cw, hvw, hsw⟩ := H2.out.src
              injection hvw with e1 _ e2
              subst e1
              subst e2
              have HSW := Lib.hid hsw
              clear hsw
              have hx2 := HCC.out _ H2.out.bel
              go_wp2_with fail
              refine (ref_find_any _ _ _ x (mk y) _ HSW.out (by unfold maxLen; omega)).mono ?_
              rw [mk_list]
              rintro e w3 ⟨rfl, rfl⟩
              go_wp2_with fail
              refine (ref_good_any (mk y) _ (by rw [mk_size]; have := HY.out; omega)).mono ?_
              rw [mk_list, HNM.out]
              rintro e w3 ⟨rfl, rfl⟩
              clear hx2
              go_wp2
              refine ⟨⟨k + 1, T2, x, by omega, by go_num, by omega, H2.out⟩, by simp [intOf]; omega⟩
            · have HNM := Lib.hid hnm
              clear hnm
              by_cases hmem : y ∈ x
              · obtain ⟨q1, q2, q3⟩ := addX_old HNM.out hmem
                rw [q2, q3] at he
                rw [q1] at h2
                have H2 := Lib.hid h2
                have HFI := Lib.hid (findI_in hmem)
                have HNA := Lib.hid (nameAt_find hmem)
                have hfl := findI_lt hmem
                obtain ⟨N, hN⟩ : ∃ N, find x y = N := ⟨_, rfl⟩
                rw [hN] at he HFI HNA hfl
                subst he
                clear q1 q2 q3 h2 hmem hN
                obtain ⟨Aw, cw, hvw, hsw⟩ := H2.out.src
                injection hvw with e1 _ e2
                subst e1
                subst e2
                have HSW := Lib.hid hsw
                clear hsw
                have hx2 := HCC.out _ H2.out.bel
                go_wp2_with fail
                refine (ref_find_any _ _ _ x (mk y) _ HSW.out (by unfold maxLen; omega)).mono ?_
                rw [mk_list, HFI.out]
                rintro e w3 ⟨rfl, rfl⟩
                go_wp2_with fail
                refine (ref_good_any (mk y) _ (by rw [mk_size]; have := HY.out; omega)).mono ?_
                rw [mk_list, HNM.out]
                rintro e w3 ⟨rfl, rfl⟩
                clear hx2
                go_upto_region 20 with (fail)
                have HQ0 : Hid (LA w tb T2 (.slice Av x.length cv) (x) (x) w2.drew) := H2.out.kept ((Below.refl _ _).drew)
                refine wp_region_held_drew (S := fun w' => LA w tb T2 (.slice Av x.length cv) (x) (x) w') (by kernel_rfl) HQ0.out (fun hHeld => ?_)
                generalize w2.drew = wd at HQ0 hHeld ⊢
                refine tk 0 rfl (.int .i64 (N : Nat)) ?_
                refine tk 1 rfl (.int .i64 (N : Nat)) ?_
                refine tk 2 rfl (.bool false) ?_
                refine tk 3 rfl (.bool false) ?_
                refine tk 4 rfl (.int .i64 0) ?_
                refine tk 5 rfl (.bool false) ?_
                refine tk 6 rfl (.bool false) ?_
                refine tk 7 rfl (.bool false) ?_
                refine tk 8 rfl (.pointer (some ⟨tb, 0, none⟩)) ?_
                refine tk 10 rfl (.slice Av x.length cv) ?_
                refine tk 11 rfl (.int .i64 ((x.length : Nat))) ?_
                refine cl 9 rfl fun K hK => ?_
                go_simp
                refine (HS.out.len tb T2 (x) _ HQ0.out.tab).mono ?_
                rintro e we ⟨rfl, hb⟩
                have HQ1 := Lib.hid (HQ0.out.kept hb)
                clear hb
                refine hK.out _ _ HQ1.out (fun hHeld => ?_)
                clear hK K
                try simp only [Act.put, p1, p2, p3]
                refine tk 12 rfl (.bool false) ?_
                refine tk 13 rfl (.bool false) ?_
                refine tk 14 rfl (.bool false) ?_
                refine tk 15 rfl (.pointer (some ⟨tb, 0, none⟩)) ?_
                refine tk 16 rfl (.int .i64 (N : Nat)) ?_
                refine tk 18 rfl (.slice (some ⟨g1, o1, none⟩) n c) ?_
                refine tk 19 rfl (.int .i64 (k : Int)) ?_
                refine tk 20 rfl (.pointer (some ⟨g1, o1 + k, none⟩)) ?_
                refine tk 21 rfl (.string (mk y)) ?_ (hv := fun w' hS' => by have hx := HCC.out w' hS'.bel; go_simp)
                refine cl 17 rfl fun K hK => ?_
                go_simp
                refine (HS.out.name tb T2 (x) (N : Nat) _ HQ1.out.tab (by omega) (by omega)).mono ?_
                rw [HNA.out]
                rintro e wf ⟨rfl, hb⟩
                have HZ2 := Lib.hid (HQ1.out.kept hb)
                clear hb
                refine hK.out _ _ HZ2.out (fun hHeld => ?_)
                clear hK K
                try simp only [Act.put, p1, p2, p3]
                refine tk 22 rfl (.bool false) ?_ (hv := fun w' hS' => by (have hq : ((mk y).toList != (mk y).toList) = false := (by simp)); go_simp)
                refine tk 23 rfl (.bool false) ?_
                refine wpAnyH_done (by kernel_rfl) ?_ _
                go_wp2
                refine ⟨⟨k + 1, T2, x, by omega, by go_num, by omega, HZ2.out⟩, by simp [intOf]; omega⟩
              · obtain ⟨q1, q2, q3⟩ := addX_new HNM.out hmem (by omega)
                rw [q2, q3] at he
                rw [q1] at h2
                have H2 := Lib.hid h2
                have HFI := Lib.hid (findI_out hmem)
                have HNA := Lib.hid (nameAt_new x y)
                subst he
                clear q1 q2 q3 h2 hmem
                obtain ⟨Aw, cw, hvw, hsw⟩ := H2.out.src
                injection hvw with e1 _ e2
                subst e1
                subst e2
                have HSW := Lib.hid hsw
                clear hsw
                have hx2 := HCC.out _ H2.out.bel
                go_wp2_with fail
                refine (ref_find_any _ _ _ x (mk y) _ HSW.out (by unfold maxLen; omega)).mono ?_
                rw [mk_list, HFI.out]
                rintro e w3 ⟨rfl, rfl⟩
                go_wp2_with fail
                refine (ref_good_any (mk y) _ (by rw [mk_size]; have := HY.out; omega)).mono ?_
                rw [mk_list, HNM.out]
                rintro e w3 ⟨rfl, rfl⟩
                go_wp2_with (first
                  | (at_builtin; refine wpList_append_name _ rfl _ _ rfl (.slice Av x.length cv) x.length x rfl (own_but H2.out.row ((But.refl (fun _ => False) _).alloc _) (fun _ _ g => g)) ⟨w2.heap.size, 0, none⟩ 1 y rfl (SRow.one _ _) (by omega) ?_)
                  | go_in)
                intro v4 w4 hown4 hgrow4 hloc4
                have HZ1 := Lib.hid (H2.out.app hgrow4 hown4 hloc4)
                clear hown4 hgrow4 hloc4 hx2
                obtain ⟨A4, c4, e4, hs4⟩ := HZ1.out.src
                rw [List.length_append, List.length_singleton] at e4
                subst e4
                clear hs4
                go_upto_region 20 with (fail)
                have HQ0 : Hid (LA w tb T2 (.slice A4 (x.length + 1) c4) (x ++ [y]) (x ++ [y]) w4.drew) := HZ1.out.kept ((Below.refl _ _).drew)
                refine wp_region_held_drew (S := fun w' => LA w tb T2 (.slice A4 (x.length + 1) c4) (x ++ [y]) (x ++ [y]) w') (by kernel_rfl) HQ0.out (fun hHeld => ?_)
                generalize w4.drew = wd at HQ0 hHeld ⊢
                refine tk 0 rfl (.int .i64 (x.length : Nat)) ?_
                refine tk 1 rfl (.int .i64 (x.length : Nat)) ?_
                refine tk 2 rfl (.bool false) ?_
                refine tk 3 rfl (.bool false) ?_
                refine tk 4 rfl (.int .i64 0) ?_
                refine tk 5 rfl (.bool false) ?_
                refine tk 6 rfl (.bool false) ?_
                refine tk 7 rfl (.bool false) ?_
                refine tk 8 rfl (.pointer (some ⟨tb, 0, none⟩)) ?_
                refine tk 10 rfl (.slice A4 (x.length + 1) c4) ?_
                refine tk 11 rfl (.int .i64 ((x.length + 1 : Nat))) ?_
                refine cl 9 rfl fun K hK => ?_
                go_simp
                refine (HS.out.len tb T2 (x ++ [y]) _ HQ0.out.tab).mono ?_
                rw [List.length_append, List.length_singleton]
                rintro e we ⟨rfl, hb⟩
                have HQ1 := Lib.hid (HQ0.out.kept hb)
                clear hb
                refine hK.out _ _ HQ1.out (fun hHeld => ?_)
                clear hK K
                try simp only [Act.put, p1, p2, p3]
                refine tk 12 rfl (.bool false) ?_
                refine tk 13 rfl (.bool false) ?_
                refine tk 14 rfl (.bool false) ?_
                refine tk 15 rfl (.pointer (some ⟨tb, 0, none⟩)) ?_
                refine tk 16 rfl (.int .i64 (x.length : Nat)) ?_
                refine tk 18 rfl (.slice (some ⟨g1, o1, none⟩) n c) ?_
                refine tk 19 rfl (.int .i64 (k : Int)) ?_
                refine tk 20 rfl (.pointer (some ⟨g1, o1 + k, none⟩)) ?_
                refine tk 21 rfl (.string (mk y)) ?_ (hv := fun w' hS' => by have hx := HCC.out w' hS'.bel; go_simp)
                refine cl 17 rfl fun K hK => ?_
                go_simp
                refine (HS.out.name tb T2 (x ++ [y]) (x.length : Nat) _ HQ1.out.tab (by omega) (by omega)).mono ?_
                rw [HNA.out]
                rintro e wf ⟨rfl, hb⟩
                have HZ2 := Lib.hid (HQ1.out.kept hb)
                clear hb
                refine hK.out _ _ HZ2.out (fun hHeld => ?_)
                clear hK K
                try simp only [Act.put, p1, p2, p3]
                refine tk 22 rfl (.bool false) ?_ (hv := fun w' hS' => by (have hq : ((mk y).toList != (mk y).toList) = false := (by simp)); go_simp)
                refine tk 23 rfl (.bool false) ?_
                refine wpAnyH_done (by kernel_rfl) ?_ _
                go_wp2
                refine ⟨⟨k + 1, T2, x ++ [y], by omega, by go_num, by rw [List.length_append, List.length_singleton]; omega, HZ2.out⟩, by simp [intOf]; omega⟩
        · obtain rfl : k = n := by omega
          by_cases hmem : s.data.toList ∈ x
          · have HFI := Lib.hid (findI_in hmem)
            obtain ⟨N, hN⟩ : ∃ N, find x s.data.toList = N := ⟨_, rfl⟩
            rw [hN] at HFI
            have HVAL : Hid ((if s.data.toList ∈ x then ((find x s.data.toList : Nat) : Int) else 0) = (N : Int) ∧ decide (s.data.toList ∈ x) = true) := ⟨by rw [if_pos hmem, hN], decide_eq_true hmem⟩
            clear hmem hN
            go_wp2_with fail
            refine (HS.out.find tb T x s _ HI.out.tab HM.out).mono ?_
            rw [HVAL.out.1, HVAL.out.2]
            rintro e w2 ⟨rfl, hb⟩
            have H2 := Lib.hid (HI.out.kept hb)
            replace HSV := Lib.hid (HSV.out.kept hb)
            clear hb
            go_wp2_with fail
            refine (ref_find_any _ _ _ x s _ HSV.out (by unfold maxLen; omega)).mono ?_
            rw [HFI.out]
            rintro e w3 ⟨rfl, rfl⟩
            have hnn : ((N : Int) != (N : Int)) = false := (by simp)
            obtain ⟨z, hz⟩ : ∃ z, mk [] = z := ⟨_, rfl⟩
            have hem : z.toList.isEmpty = true := by rw [← hz, Lib.toList_data]; rfl
            have hem2 : (!z.toList.isEmpty) = false := by rw [hem]; rfl
            have HZE := Lib.hid hz
            clear hz
            go_wp2_with fail
            refine (HS.out.name tb T x (-1) _ H2.out.tab (by omega) (by omega)).mono ?_
            rw [nameAt_low, HZE.out]
            rintro e we ⟨rfl, hb⟩
            have HQ1 := Lib.hid (H2.out.kept hb)
            have HSV1 := Lib.hid (HSV.out.kept hb)
            clear hb
            go_wp2_with fail
            refine (HS.out.name tb T x (x.length : Nat) _ HQ1.out.tab (by omega) (by omega)).mono ?_
            rw [nameAt_end, HZE.out]
            rintro e wf ⟨rfl, hb⟩
            have HQ2 := Lib.hid (HQ1.out.kept hb)
            have HSV2 := Lib.hid (HSV1.out.kept hb)
            clear hb
            clear HQ1 HSV1 HSV
            go_wp2_with fail
            refine (HS.out.order tb T x _ HQ2.out.tab).mono ?_
            rintro e w5 ⟨A5, c5, p5, rfl, hc5, ho5, hr5, hb5⟩
            have H5 := Lib.hid (HQ2.out.kept hb5)
            have HSV5 := Lib.hid (HSV2.out.kept hb5)
            have HR5 := Lib.hid hr5
            have HO5 := Lib.hid ho5
            clear hr5 ho5 hb5
            go_wp2_with fail
            refine (ref_order_any Av x.length cv x _ HSV5.out (by omega) HQ2.out.tab.nodup).mono ?_
            rintro e w6 ⟨A6, c6, p6, rfl, hc6, ho6, hr6, hb6⟩
            obtain rfl := HO5.out.one ho6
            have H6 := Lib.hid (H5.out.kept hb6)
            have HR56 := Lib.hid (HR5.out.kept hb6)
            have HR6 := Lib.hid hr6
            clear hr6 ho6 hb6 hc5 hc6
            go_wp2
            go_loopw [16] (fun i W => ∃ j : Nat, j ≤ x.length ∧ i = .int .i64 j ∧ Hid (Below w6.heap.size w6 W)) (fun i _ => x.length - (intOf i).toNat)
            case atStart => exact ⟨0, Nat.zero_le _, rfl, Below.refl _ _⟩
            case round =>
              rename World => wj
              obtain ⟨j, hj, rfl, HJ⟩ := hrel
              by_cases hjl : j < x.length
              · obtain ⟨g5, o5, rfl, hg5, hc5⟩ := (HR56.out.kept HJ.out).2.2 (by omega)
                obtain ⟨g6, o6, rfl, hg6, hc6⟩ := (HR6.out.kept HJ.out).2.2 (by omega)
                have hx5 : wj.drew.cell? ⟨g5, o5 + j, none⟩ = _ := hc5 j hjl
                have hx6 : wj.drew.cell? ⟨g6, o6 + j, none⟩ = _ := hc6 j hjl
                obtain ⟨z, hzz⟩ : ∃ z, (p5.map fun (k : Nat) => (k : Int)).getD j 0 = z := ⟨_, rfl⟩
                rw [hzz] at hx5 hx6
                have hjl2 : ¬ x.length ≤ j := by omega
                clear hc5 hc6 hzz
                go_wp2
                refine wp_region_held_drew (S := fun w' => w' = wj.drew) (by kernel_rfl) rfl (fun hHeld => ?_)
                refine tk 0 rfl (.slice (some ⟨g5, o5, none⟩) x.length c5) ?_ (hv := fun w' hS' => by subst hS'; go_simp)
                refine tk 1 rfl (.int .i64 (j : Int)) ?_ (hv := fun w' hS' => by subst hS'; go_simp)
                refine tk 2 rfl (.pointer (some ⟨g5, o5 + j, none⟩)) ?_ (hv := fun w' hS' => by subst hS'; go_simp)
                refine tk 3 rfl (.int .i64 z) ?_ (hv := fun w' hS' => by subst hS'; go_simp)
                refine tk 4 rfl (.slice (some ⟨g6, o6, none⟩) x.length c6) ?_ (hv := fun w' hS' => by subst hS'; go_simp)
                refine tk 5 rfl (.int .i64 (j : Int)) ?_ (hv := fun w' hS' => by subst hS'; go_simp)
                refine tk 6 rfl (.pointer (some ⟨g6, o6 + j, none⟩)) ?_ (hv := fun w' hS' => by subst hS'; go_simp)
                refine tk 7 rfl (.int .i64 z) ?_ (hv := fun w' hS' => by subst hS'; go_simp)
                refine tk 8 rfl (.bool false) ?_ (hv := fun w' hS' => by subst hS'; go_simp)
                refine wpAnyH_done (by kernel_rfl) ?_ _
                have HJ2 : Hid (Below w6.heap.size w6 wj.drew) := HJ.out.drew
                clear hx5 hx6 hHeld
                generalize wj.drew = wj2 at HJ2 ⊢
                go_wp2
                refine ⟨⟨j + 1, by omega, by go_num, HJ2⟩, by simp [intOf]; omega⟩
              · obtain rfl : j = x.length := by omega
                go_wp2
                go_ret
                exact ⟨rfl, H6.out.bel.trans (HJ.out.mono H6.out.bel.size)⟩
          · have HFI := Lib.hid (findI_out hmem)
            have HVAL : Hid ((if s.data.toList ∈ x then ((find x s.data.toList : Nat) : Int) else 0) = 0 ∧ decide (s.data.toList ∈ x) = false) := ⟨by rw [if_neg hmem], decide_eq_false hmem⟩
            clear hmem
            go_wp2_with fail
            refine (HS.out.find tb T x s _ HI.out.tab HM.out).mono ?_
            rw [HVAL.out.1, HVAL.out.2]
            rintro e w2 ⟨rfl, hb⟩
            have H2 := Lib.hid (HI.out.kept hb)
            replace HSV := Lib.hid (HSV.out.kept hb)
            clear hb
            go_wp2_with fail
            refine (ref_find_any _ _ _ x s _ HSV.out (by unfold maxLen; omega)).mono ?_
            rw [HFI.out]
            rintro e w3 ⟨rfl, rfl⟩
            obtain ⟨z, hz⟩ : ∃ z, mk [] = z := ⟨_, rfl⟩
            have hem : z.toList.isEmpty = true := by rw [← hz, Lib.toList_data]; rfl
            have hem2 : (!z.toList.isEmpty) = false := by rw [hem]; rfl
            have HZE := Lib.hid hz
            clear hz
            go_wp2_with fail
            refine (HS.out.name tb T x (-1) _ H2.out.tab (by omega) (by omega)).mono ?_
            rw [nameAt_low, HZE.out]
            rintro e we ⟨rfl, hb⟩
            have HQ1 := Lib.hid (H2.out.kept hb)
            have HSV1 := Lib.hid (HSV.out.kept hb)
            clear hb
            go_wp2_with fail
            refine (HS.out.name tb T x (x.length : Nat) _ HQ1.out.tab (by omega) (by omega)).mono ?_
            rw [nameAt_end, HZE.out]
            rintro e wf ⟨rfl, hb⟩
            have HQ2 := Lib.hid (HQ1.out.kept hb)
            have HSV2 := Lib.hid (HSV1.out.kept hb)
            clear hb
            clear HQ1 HSV1 HSV
            go_wp2_with fail
            refine (HS.out.order tb T x _ HQ2.out.tab).mono ?_
            rintro e w5 ⟨A5, c5, p5, rfl, hc5, ho5, hr5, hb5⟩
            have H5 := Lib.hid (HQ2.out.kept hb5)
            have HSV5 := Lib.hid (HSV2.out.kept hb5)
            have HR5 := Lib.hid hr5
            have HO5 := Lib.hid ho5
            clear hr5 ho5 hb5
            go_wp2_with fail
            refine (ref_order_any Av x.length cv x _ HSV5.out (by omega) HQ2.out.tab.nodup).mono ?_
            rintro e w6 ⟨A6, c6, p6, rfl, hc6, ho6, hr6, hb6⟩
            obtain rfl := HO5.out.one ho6
            have H6 := Lib.hid (H5.out.kept hb6)
            have HR56 := Lib.hid (HR5.out.kept hb6)
            have HR6 := Lib.hid hr6
            clear hr6 ho6 hb6 hc5 hc6
            go_wp2
            go_loopw [16] (fun i W => ∃ j : Nat, j ≤ x.length ∧ i = .int .i64 j ∧ Hid (Below w6.heap.size w6 W)) (fun i _ => x.length - (intOf i).toNat)
            case atStart => exact ⟨0, Nat.zero_le _, rfl, Below.refl _ _⟩
            case round =>
              rename World => wj
              obtain ⟨j, hj, rfl, HJ⟩ := hrel
              by_cases hjl : j < x.length
              · obtain ⟨g5, o5, rfl, hg5, hc5⟩ := (HR56.out.kept HJ.out).2.2 (by omega)
                obtain ⟨g6, o6, rfl, hg6, hc6⟩ := (HR6.out.kept HJ.out).2.2 (by omega)
                have hx5 : wj.drew.cell? ⟨g5, o5 + j, none⟩ = _ := hc5 j hjl
                have hx6 : wj.drew.cell? ⟨g6, o6 + j, none⟩ = _ := hc6 j hjl
                obtain ⟨z, hzz⟩ : ∃ z, (p5.map fun (k : Nat) => (k : Int)).getD j 0 = z := ⟨_, rfl⟩
                rw [hzz] at hx5 hx6
                have hjl2 : ¬ x.length ≤ j := by omega
                clear hc5 hc6 hzz
                go_wp2
                refine wp_region_held_drew (S := fun w' => w' = wj.drew) (by kernel_rfl) rfl (fun hHeld => ?_)
                refine tk 0 rfl (.slice (some ⟨g5, o5, none⟩) x.length c5) ?_ (hv := fun w' hS' => by subst hS'; go_simp)
                refine tk 1 rfl (.int .i64 (j : Int)) ?_ (hv := fun w' hS' => by subst hS'; go_simp)
                refine tk 2 rfl (.pointer (some ⟨g5, o5 + j, none⟩)) ?_ (hv := fun w' hS' => by subst hS'; go_simp)
                refine tk 3 rfl (.int .i64 z) ?_ (hv := fun w' hS' => by subst hS'; go_simp)
                refine tk 4 rfl (.slice (some ⟨g6, o6, none⟩) x.length c6) ?_ (hv := fun w' hS' => by subst hS'; go_simp)
                refine tk 5 rfl (.int .i64 (j : Int)) ?_ (hv := fun w' hS' => by subst hS'; go_simp)
                refine tk 6 rfl (.pointer (some ⟨g6, o6 + j, none⟩)) ?_ (hv := fun w' hS' => by subst hS'; go_simp)
                refine tk 7 rfl (.int .i64 z) ?_ (hv := fun w' hS' => by subst hS'; go_simp)
                refine tk 8 rfl (.bool false) ?_ (hv := fun w' hS' => by subst hS'; go_simp)
                refine wpAnyH_done (by kernel_rfl) ?_ _
                have HJ2 : Hid (Below w6.heap.size w6 wj.drew) := HJ.out.drew
                clear hx5 hx6 hHeld
                generalize wj.drew = wj2 at HJ2 ⊢
                go_wp2
                refine ⟨⟨j + 1, by omega, by go_num, HJ2⟩, by simp [intOf]; omega⟩
              · obtain rfl : j = x.length := by omega
                go_wp2
                go_ret
                exact ⟨rfl, H6.out.bel.trans (HJ.out.mono H6.out.bel.size)⟩
end Go.Proofs.Ytpgfolfhfhfdhaa.Name
