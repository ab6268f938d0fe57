/-
  The numbers of names as their names stand, as the document's own answer has them (ferruleref08.Order). Conditions: the slice reads as the list of texts, of which no two are like. (Made by wip/gen_narefrow.py.)
-/
import Derived.Test.YtpgfolfhfhfdhaaNaRefFind
import Derived.Test.YtpgfolfhfhfdhaaNaRefIns
import Derived.Sort.Walk0
import Derived.Deep.CutBlock
import Derived.Deep.DeepCutAuto
namespace Go.Proofs.Ytpgfolfhfhfdhaa.Name
open Go.RowKit Num Ident Ints

/-- What holds while numbers are put in. -/
structure OrdAt (w : World) (x : List (List UInt8)) (i : Nat) (v : Value) (W : World) : Prop where
  row : ∃ (A : Option Addr) (c : Nat) (o : List Nat), v = .slice A i c ∧ i ≤ c ∧ (A = none → c = 0) ∧ Ordered (x.take i) o ∧ IRow W A i (o.map fun (k : Nat) => (k : Int))
  bel : Below w.heap.size w W
/-- What Order leaves. -/
def OrdPost (w : World) (x : List (List UInt8)) (e : Ending) (W : World) : Prop :=
  ∃ (A : Option Addr) (c : Nat) (o : List Nat), e = .returned (.slice A x.length c) ∧ x.length ≤ c ∧ Ordered x o ∧ IRow W A x.length (o.map fun (k : Nat) => (k : Int)) ∧ Below w.heap.size w W
theorem lt_text (a b : List UInt8) : Op.bytesLess (mk a).toList (mk b).toList = decide (a < b) := by
  rw [bytesLess_eq, Lib.toList_data, Lib.toList_data]; rfl
theorem nat_at (o : List Nat) (m : Nat) : (o.map fun (k : Nat) => (k : Int)).getD m 0 = ((o.getD m 0 : Nat) : Int) := by
  rw [List.getD_eq_getElem?_getD, List.getD_eq_getElem?_getD, List.getElem?_map]
  cases o[m]? <;> rfl
theorem nodup_take {x : List (List UInt8)} (h : x.Nodup) {k : Nat} (hk : k < x.length) : x.getD k [] ∉ x.take k := by
  intro g
  obtain ⟨j, hj, e⟩ := List.mem_take_iff_getElem.1 g
  have hj2 : j < k := by omega
  refine List.pairwise_iff_getElem.1 h j k (by omega) hk hj2 ?_
  rw [e, List.getD_eq_getElem?_getD, List.getElem?_eq_getElem hk]; rfl
theorem take_next {x : List (List UInt8)} {k : Nat} (hk : k < x.length) : x.take (k + 1) = x.take k ++ [x.getD k []] := by
  rw [List.take_add_one, List.getElem?_eq_getElem hk, List.getD_eq_getElem?_getD, List.getElem?_eq_getElem hk]; rfl
theorem take_at (x : List (List UInt8)) {k q : Nat} (h : q < k) : (x.take k).getD q [] = x.getD q [] := by
  rw [List.getD_eq_getElem?_getD, List.getD_eq_getElem?_getD, List.getElem?_take_of_lt h]
theorem map_ins (o : List Nat) (m k : Nat) : (o.map fun (k : Nat) => (k : Int)).take m ++ (k : Int) :: (o.map fun (k : Nat) => (k : Int)).drop m = (o.take m ++ k :: o.drop m).map fun (k : Nat) => (k : Int) := by
  rw [List.map_append, List.map_cons, List.map_take, List.map_drop]
set_option maxRecDepth 100000 in
set_option maxHeartbeats 3200000 in
theorem ref_order_any (A : Option Addr) (n c : Nat) (x : List (List UInt8)) (w : World) (hA : SRow w A n x) (hn : n ≤ 5000) (hd : x.Nodup) :
    Calls Try.prog 18 #[.slice A n c] w (OrdPost w x) := by
  have HA := Lib.hid hA
  have HL := Lib.hid hA.1
  have HND := Lib.hid hd
  clear hA hd
  go_enter Try.func18, Try.ntmps18
  go_wp2
  go_loopw [3, 4] (fun v i W => ∃ k : Nat, k ≤ n ∧ i = .int .i64 k ∧ Hid (OrdAt w x k v W)) (fun _ i _ => n - (intOf i).toNat)
  case atStart => exact ⟨0, by omega, rfl, ⟨⟨none, 0, [], rfl, Nat.le_refl _, fun _ => rfl, by rw [List.take_zero]; exact Ordered.nil, IRow.none_ _ _⟩, Below.refl _ _⟩⟩
  case round =>
    rename World => wo
    obtain ⟨k, hk, rfl, HO⟩ := hrel
    obtain ⟨A1, c1, o, rfl, hc1, hn1, ho, hr⟩ := HO.out.row
    by_cases hlt : k < n
    · have hxk : Hid (x.getD k [] ∉ x.take k) := nodup_take HND.out (by rw [HL.out]; exact hlt)
      have HNX : Hid (x.take (k + 1) = x.take k ++ [x.getD k []]) := take_next (by rw [HL.out]; exact hlt)
      obtain ⟨t, ht⟩ : ∃ t, x.getD k [] = t := ⟨_, rfl⟩
      rw [ht] at hxk HNX
      have HT := Lib.hid ht; clear ht
      have HOL : Hid (o.length = k) := by unfold Hid; rw [ho.length, List.length_take, HL.out]; omega
      have HOR := Lib.hid ho
      have HR := Lib.hid hr
      have HC1 := Lib.hid hc1
      have HN1 := Lib.hid hn1
      clear hr ho hc1 hn1
      have HI : Hid (∀ (m : Nat) (W : World), m ≤ k → Below wo.heap.size wo W → (∀ j, j < m → (x.take k).getD (o.getD j 0) [] < t) → (m = k ∨ ¬ (x.take k).getD (o.getD m 0) [] < t) → ∀ (A' : Option Addr) (c' : Nat) (L' : List Int) (W' : World), (o.map fun (k : Nat) => (k : Int)).take m ++ (k : Int) :: (o.map fun (k : Nat) => (k : Int)).drop m = L' → L'.length = k + 1 → IRow W' A' L'.length L' → L'.length ≤ c' → (A' = none → c' = 0) → Below W.heap.size W W' → OrdAt w x (k + 1) (.slice A' L'.length c') W') := by
        intro m W hm hb hD hS A' c' L' W' hL hl hr' hc' hn' hb'
        rw [hl] at hr' hc' ⊢
        have hord := HOR.out.insert m (by rw [HOL.out]; exact hm) hD (by rw [HOL.out]; exact hS) hxk.out
        have e : (x.take k).length = k := by rw [List.length_take, HL.out]; omega
        rw [← HNX.out, e] at hord
        refine ⟨⟨A', c', _, rfl, hc', hn', hord, ?_⟩, (HO.out.bel.trans (hb.mono HO.out.bel.size)).trans (hb'.mono (Nat.le_trans HO.out.bel.size hb.size))⟩
        rw [← map_ins, hL]; exact hr'
      go_wp2
      go_loopw [5] (fun i W => ∃ m : Nat, m ≤ k ∧ i = .int .i64 m ∧ Hid (∀ j, j < m → (x.take k).getD (o.getD j 0) [] < t) ∧ Hid (Below wo.heap.size wo W)) (fun i _ => k - (intOf i).toNat)
      case atStart => exact ⟨0, by omega, rfl, (fun j h => by omega), Below.refl _ _⟩
      case round =>
        rename World => wq
        obtain ⟨m, hm, rfl, HD, HW⟩ := hrel
        by_cases hmk : m < k
        · obtain ⟨g1, o1, rfl, hg1, hcc1⟩ := (HR.out.kept HW.out).2.2 (by omega)
          obtain ⟨g2, o2, rfl, hg2, hcc2⟩ := ((HA.out.kept HO.out.bel).kept HW.out).2 (by omega)
          have hx1 := hcc1 m hmk
          have hom : Hid (o.getD m 0 < k) := by
            have := HOR.out.lt (a := o.getD m 0) (by rw [List.getD_eq_getElem?_getD, List.getElem?_eq_getElem (by rw [HOL.out]; exact hmk)]; exact List.getElem_mem _)
            unfold Hid; rw [List.length_take] at this; omega
          rw [nat_at o m] at hx1
          obtain ⟨q, hq⟩ : ∃ q, o.getD m 0 = q := ⟨_, rfl⟩
          have e2 : (x.take k).getD (o.getD m 0) [] = x.getD (o.getD m 0) [] := take_at x hom.out
          have HQ := Lib.hid hq
          rw [hq] at hx1 hom
          have hqk : q < k := hom.out
          have hqn : q < n := by omega
          have hqn2 : ¬ n ≤ q := by omega
          have hkn2 : ¬ n ≤ k := by omega
          have hmk2 : ¬ k ≤ m := by omega
          have hx2 := hcc2 q (by omega)
          have hx3 := hcc2 k (by omega)
          rw [HT.out] at hx3
          obtain ⟨s, hs⟩ : ∃ s, x.getD q [] = s := ⟨_, rfl⟩
          rw [hs] at hx2
          have E2 : Hid ((x.take k).getD (o.getD m 0) [] = s) := by unfold Hid; rw [e2, hq, hs]
          have hb := lt_text s t
          clear hs hq e2 hom hcc1 hcc2
          have d1 : wq.drew.cell? ⟨g1, o1 + m, none⟩ = _ := hx1
          have d2 : wq.drew.cell? ⟨g2, o2 + q, none⟩ = _ := hx2
          have d3 : wq.drew.cell? ⟨g2, o2 + k, none⟩ = _ := hx3
          by_cases hlt2 : s < t
          · have hb2 : Op.bytesLess (mk s).toList (mk t).toList = true := by rw [hb]; simp [hlt2]
            have HLT := Lib.hid hlt2
            clear hb hlt2
            go_wp2
            refine wp_region_held_drew (S := fun w' => w' = wq.drew) (by kernel_rfl) rfl (fun hHeld => ?_)
            refine tk 0 rfl (.int .i64 m) ?_ (hv := fun w' hS' => by subst hS'; go_simp)
            refine tk 1 rfl (.slice (some ⟨g1, o1, none⟩) k c1) ?_ (hv := fun w' hS' => by subst hS'; go_simp)
            refine tk 2 rfl (.int .i64 k) ?_ (hv := fun w' hS' => by subst hS'; go_simp)
            refine tk 3 rfl (.bool true) ?_ (hv := fun w' hS' => by subst hS'; go_simp)
            refine tk 4 rfl (.bool true) ?_ (hv := fun w' hS' => by subst hS'; go_simp)
            refine tk 5 rfl (.slice (some ⟨g2, o2, none⟩) n c) ?_ (hv := fun w' hS' => by subst hS'; go_simp)
            refine tk 6 rfl (.slice (some ⟨g1, o1, none⟩) k c1) ?_ (hv := fun w' hS' => by subst hS'; go_simp)
            refine tk 7 rfl (.int .i64 m) ?_ (hv := fun w' hS' => by subst hS'; go_simp)
            refine tk 8 rfl (.pointer (some ⟨g1, o1 + m, none⟩)) ?_ (hv := fun w' hS' => by subst hS'; go_simp)
            refine tk 9 rfl (.int .i64 q) ?_ (hv := fun w' hS' => by subst hS'; go_simp)
            refine tk 10 rfl (.pointer (some ⟨g2, o2 + q, none⟩)) ?_ (hv := fun w' hS' => by subst hS'; go_simp)
            refine tk 11 rfl (.string (mk s)) ?_ (hv := fun w' hS' => by subst hS'; go_simp)
            refine tk 12 rfl (.slice (some ⟨g2, o2, none⟩) n c) ?_ (hv := fun w' hS' => by subst hS'; go_simp)
            refine tk 13 rfl (.int .i64 k) ?_ (hv := fun w' hS' => by subst hS'; go_simp)
            refine tk 14 rfl (.pointer (some ⟨g2, o2 + k, none⟩)) ?_ (hv := fun w' hS' => by subst hS'; go_simp)
            refine tk 15 rfl (.string (mk t)) ?_ (hv := fun w' hS' => by subst hS'; go_simp)
            refine tk 16 rfl (.bool true) ?_ (hv := fun w' hS' => by subst hS'; go_simp)
            refine tk 17 rfl (.bool true) ?_ (hv := fun w' hS' => by subst hS'; go_simp)
            refine wpAnyH_done (by kernel_rfl) ?_ _
            have HW2 : Hid (Below wo.heap.size wo wq.drew) := HW.out.drew
            clear HW hx1 hx2 hx3 d1 d2 d3 hHeld
            generalize wq.drew = wq2 at HW2 ⊢
            go_wp2
            refine ⟨⟨m + 1, by omega, by go_num, (fun j hj => ?_), HW2⟩, by simp [intOf]; omega⟩
            rcases Nat.lt_or_ge j m with hj1 | hj1
            · exact HD.out j hj1
            · obtain rfl : j = m := by omega
              rw [E2.out]; exact HLT.out
          · have hb2 : Op.bytesLess (mk s).toList (mk t).toList = false := by rw [hb]; simp [hlt2]
            have HLT := Lib.hid hlt2
            clear hb hlt2
            go_wp2
            refine wp_region_held_drew (S := fun w' => w' = wq.drew) (by kernel_rfl) rfl (fun hHeld => ?_)
            refine tk 0 rfl (.int .i64 m) ?_ (hv := fun w' hS' => by subst hS'; go_simp)
            refine tk 1 rfl (.slice (some ⟨g1, o1, none⟩) k c1) ?_ (hv := fun w' hS' => by subst hS'; go_simp)
            refine tk 2 rfl (.int .i64 k) ?_ (hv := fun w' hS' => by subst hS'; go_simp)
            refine tk 3 rfl (.bool true) ?_ (hv := fun w' hS' => by subst hS'; go_simp)
            refine tk 4 rfl (.bool true) ?_ (hv := fun w' hS' => by subst hS'; go_simp)
            refine tk 5 rfl (.slice (some ⟨g2, o2, none⟩) n c) ?_ (hv := fun w' hS' => by subst hS'; go_simp)
            refine tk 6 rfl (.slice (some ⟨g1, o1, none⟩) k c1) ?_ (hv := fun w' hS' => by subst hS'; go_simp)
            refine tk 7 rfl (.int .i64 m) ?_ (hv := fun w' hS' => by subst hS'; go_simp)
            refine tk 8 rfl (.pointer (some ⟨g1, o1 + m, none⟩)) ?_ (hv := fun w' hS' => by subst hS'; go_simp)
            refine tk 9 rfl (.int .i64 q) ?_ (hv := fun w' hS' => by subst hS'; go_simp)
            refine tk 10 rfl (.pointer (some ⟨g2, o2 + q, none⟩)) ?_ (hv := fun w' hS' => by subst hS'; go_simp)
            refine tk 11 rfl (.string (mk s)) ?_ (hv := fun w' hS' => by subst hS'; go_simp)
            refine tk 12 rfl (.slice (some ⟨g2, o2, none⟩) n c) ?_ (hv := fun w' hS' => by subst hS'; go_simp)
            refine tk 13 rfl (.int .i64 k) ?_ (hv := fun w' hS' => by subst hS'; go_simp)
            refine tk 14 rfl (.pointer (some ⟨g2, o2 + k, none⟩)) ?_ (hv := fun w' hS' => by subst hS'; go_simp)
            refine tk 15 rfl (.string (mk t)) ?_ (hv := fun w' hS' => by subst hS'; go_simp)
            refine tk 16 rfl (.bool false) ?_ (hv := fun w' hS' => by subst hS'; go_simp)
            refine tk 17 rfl (.bool false) ?_ (hv := fun w' hS' => by subst hS'; go_simp)
            refine wpAnyH_done (by kernel_rfl) ?_ _
            have HW2 : Hid (Below wo.heap.size wo wq.drew) := HW.out.drew
            clear HW hx1 hx2 hx3 d1 d2 d3 hHeld
            generalize wq.drew = wq2 at HW2 ⊢
            go_wp2
            refine order_ins wq2 _ k c1 m (o.map fun (k : Nat) => (k : Int)) (k : Int) (by omega) (by omega) (HR.out.kept HW2.out) HC1.out HN1.out (fun _ _ _ _ _ h => h) ?_
            intro A' c' L' W' z32 z33 z34 z35 z36 z37 z38 z39 z40 z41 z42 z43 hL hl hr' hc' hn' hb' hcm'
            have HNEW := Lib.hid (HI.out m wq2 (by omega) HW2.out HD.out (.inr (by rw [E2.out]; exact HLT.out)) A' c' L' W' hL hl hr' hc' hn' hb')
            clear hL hr' hc' hn' hb' hcm'
            go_wp2
            refine ⟨⟨k + 1, by omega, by go_num, HNEW⟩, by simp [intOf]; omega⟩
        · have hmke : m = k := by omega
          have HMK := Lib.hid hmke
          have hmk2 : ((m : Int) < (k : Int)) = False := by simp; omega
          clear hmke
          go_wp2
          refine wp_region_held_drew (S := fun w' => w' = wq.drew) (by kernel_rfl) rfl (fun hHeld => ?_)
          refine tk 0 rfl (.int .i64 m) ?_ (hv := fun w' hS' => by subst hS'; go_simp)
          refine tk 1 rfl (.slice A1 k c1) ?_ (hv := fun w' hS' => by subst hS'; go_simp)
          refine tk 2 rfl (.int .i64 k) ?_ (hv := fun w' hS' => by subst hS'; go_simp)
          refine tk 3 rfl (.bool false) ?_ (hv := fun w' hS' => by subst hS'; go_simp)
          refine tk 4 rfl (.bool false) ?_ (hv := fun w' hS' => by subst hS'; go_simp)
          refine sk 5 rfl ?_
          refine sk 6 rfl ?_
          refine sk 7 rfl ?_
          refine sk 8 rfl ?_
          refine sk 9 rfl ?_
          refine sk 10 rfl ?_
          refine sk 11 rfl ?_
          refine sk 12 rfl ?_
          refine sk 13 rfl ?_
          refine sk 14 rfl ?_
          refine sk 15 rfl ?_
          refine sk 16 rfl ?_
          refine tk 17 rfl (.bool false) ?_ (hv := fun w' hS' => by subst hS'; go_simp)
          refine wpAnyH_done (by kernel_rfl) ?_ _
          have HW2 : Hid (Below wo.heap.size wo wq.drew) := HW.out.drew
          clear HW hHeld
          generalize wq.drew = wq2 at HW2 ⊢
          go_wp2
          refine order_ins wq2 _ k c1 m (o.map fun (k : Nat) => (k : Int)) (k : Int) (by omega) (by omega) (HR.out.kept HW2.out) HC1.out HN1.out (fun _ _ _ _ _ h => h) ?_
          intro A' c' L' W' z32 z33 z34 z35 z36 z37 z38 z39 z40 z41 z42 z43 hL hl hr' hc' hn' hb' hcm'
          have HNEW := Lib.hid (HI.out m wq2 (by omega) HW2.out HD.out (.inl HMK.out) A' c' L' W' hL hl hr' hc' hn' hb')
          clear hL hr' hc' hn' hb' hcm'
          go_wp2
          refine ⟨⟨k + 1, by omega, by go_num, HNEW⟩, by simp [intOf]; omega⟩
    · obtain rfl : k = n := by omega
      go_wp2
      go_ret
      exact ⟨A1, c1, o, by rw [HL.out]; rfl, by rw [HL.out]; exact hc1, by rwa [← HL.out, List.take_length] at ho, by rw [HL.out]; exact hr, HO.out.bel⟩
end Go.Proofs.Ytpgfolfhfhfdhaa.Name
