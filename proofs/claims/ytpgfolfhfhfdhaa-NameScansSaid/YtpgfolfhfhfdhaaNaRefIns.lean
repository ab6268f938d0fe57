/-
  A number put among numbers, in new memory (a region of ferruleref08.Order). Conditions: the slice reads as the list of integers. (Made by wip/gen_narefins.py.)
-/
import Derived.Test.YtpgfolfhfhfdhaaIntMem
import Derived.Test.YtpgfolfhfhfdhaaTk
import Derived.Laws.OwnMore
namespace Go.Proofs.Ytpgfolfhfhfdhaa.Name
open Go.RowKit Num Ints

set_option maxRecDepth 100000 in
set_option maxHeartbeats 6400000 in
theorem order_ins {Q : Exit → Act → World → Prop} (wz : World) (A : Option Addr) (n cp m : Nat) (l : List Int) (x : Int) {u0 u1 u2 u6 u7 u8 u9 u10 u11 u12 u13 u14 u15 u16 u17 u18 u19 u20 u21 u22 u23 u24 u25 u26 u27 u28 u29 u30 u31 u32 u33 u34 u35 u36 u37 u38 u39 u40 u41 u42 u43 u44 : Value} (hm : m ≤ n) (hlen : n ≤ 1000000) (hr : IRow wz A n l) (hcp : n ≤ cp) (hnil : A = none → cp = 0)
    (hpan : ∀ x (a : Act) (d : Nat) v W, Q (.panic x) (a.put (some d) v) W → Q (.panic x) a W)
    (h : ∀ (A' : Option Addr) (c' : Nat) (L' : List Int) (W' : World) (z32 z33 z34 z35 z36 z37 z38 z39 z40 z41 z42 z43 : Value), l.take m ++ x :: l.drop m = L' → L'.length = n + 1 → IRow W' A' L'.length L' → L'.length ≤ c' → (A' = none → c' = 0) → Below wz.heap.size wz W' → c' ≤ maxLen → Q Exit.normal { tmps := #[u0, u1, u2, .slice A' L'.length c', .int .i64 x, .int .i64 (m : Int), u6, u7, u8, u9, u10, u11, u12, u13, u14, u15, u16, u17, u18, u19, u20, u21, u22, u23, u24, u25, u26, u27, u28, u29, u30, u31, z32, z33, z34, z35, z36, z37, z38, z39, z40, z41, z42, z43, u44], defers := [] } W') :
    (Code.region 8 #[{ dst := some 32, op := Op.buildSlice 42 0 #[], type := 42, pos := "ref.go:46", after := #[], guard := none }, { dst := some 33, op := Op.move (Operand.tmp 3), type := 42, pos := "ref.go:46", after := #[], guard := none }, { dst := some 34, op := Op.move (Operand.tmp 5), type := 3, pos := "ref.go:46", after := #[], guard := none }, { dst := some 35, op := Op.slice 42 (Operand.tmp 33) none (some (Operand.tmp 34)) none, type := 42, pos := "ref.go:46", after := #[{ on := 1, ground := Ground.data }, { on := 2, ground := Ground.data }], guard := none }, { dst := some 36, op := Op.call { callee := Callee.builtin Builtin.append, args := #[Operand.tmp 32, Operand.tmp 35], argTypes := #[42, 42] }, type := 42, pos := "ref.go:46", after := #[{ on := 0, ground := Ground.data }, { on := 3, ground := Ground.data }], guard := none }, { dst := some 37, op := Op.move (Operand.tmp 4), type := 3, pos := "ref.go:46", after := #[], guard := none }, { dst := some 38, op := Op.buildSlice 42 1 #[(0, Operand.tmp 37)], type := 42, pos := "ref.go:46", after := #[{ on := 5, ground := Ground.data }], guard := none }, { dst := some 39, op := Op.call { callee := Callee.builtin Builtin.append, args := #[Operand.tmp 36, Operand.tmp 38], argTypes := #[42, 42] }, type := 42, pos := "ref.go:46", after := #[{ on := 4, ground := Ground.data }, { on := 6, ground := Ground.data }, { on := 4, ground := Ground.chain }], guard := none }, { dst := some 40, op := Op.move (Operand.tmp 3), type := 42, pos := "ref.go:46", after := #[], guard := none }, { dst := some 41, op := Op.move (Operand.tmp 5), type := 3, pos := "ref.go:46", after := #[], guard := none }, { dst := some 42, op := Op.slice 42 (Operand.tmp 40) (some (Operand.tmp 41)) none none, type := 42, pos := "ref.go:46", after := #[{ on := 8, ground := Ground.data }, { on := 9, ground := Ground.data }], guard := none }, { dst := some 43, op := Op.call { callee := Callee.builtin Builtin.append, args := #[Operand.tmp 39, Operand.tmp 42], argTypes := #[42, 42] }, type := 42, pos := "ref.go:46", after := #[{ on := 7, ground := Ground.data }, { on := 10, ground := Ground.data }, { on := 7, ground := Ground.chain }], guard := none }, { dst := some 3, op := Op.assign (Operand.tmp 43), type := 42, pos := "ref.go:46", after := #[{ on := 11, ground := Ground.data }, { on := 11, ground := Ground.chain }, { on := 0, ground := Ground.phase }, { on := 1, ground := Ground.phase }, { on := 2, ground := Ground.phase }, { on := 3, ground := Ground.phase }, { on := 4, ground := Ground.phase }, { on := 5, ground := Ground.phase }, { on := 6, ground := Ground.phase }, { on := 7, ground := Ground.phase }, { on := 8, ground := Ground.phase }, { on := 9, ground := Ground.phase }, { on := 10, ground := Ground.phase }, { on := 11, ground := Ground.phase }], guard := none }] true).wp Try.prog Q { tmps := #[u0, u1, u2, .slice A n cp, .int .i64 x, .int .i64 (m : Int), u6, u7, u8, u9, u10, u11, u12, u13, u14, u15, u16, u17, u18, u19, u20, u21, u22, u23, u24, u25, u26, u27, u28, u29, u30, u31, u32, u33, u34, u35, u36, u37, u38, u39, u40, u41, u42, u43, u44], defers := [] } wz := by
  have HPA := Lib.hid hpan
  clear hpan
  obtain ⟨A2, hA2⟩ : ∃ A2, (if cp = m then A else A.map (fun x => x.add m)) = A2 := ⟨_, rfl⟩
  have HAD := Lib.hid hA2
  have hmc : m ≤ cp := Nat.le_trans hm hcp
  have R1 := Lib.hid (hr.upto m hm)
  have R2 := Lib.hid (hr.from_ m cp hm hcp hA2)
  have N2 : Hid (A2 = none → cp - m = 0) := fun e => by
    rw [← hA2] at e
    split at e
    · rw [hnil e, Nat.zero_sub]
    · cases A with
      | none => rw [hnil rfl, Nat.zero_sub]
      | some a => cases e
  have N1 : Hid (A = none → cp = 0) := hnil
  have HQ := Lib.hid h
  have hL2 : (l.drop m).length = n - m := by rw [List.length_drop, hr.1]
  have hL1 : (l.take m).length = m := by rw [List.length_take, hr.1]; omega
  clear h hA2 hr hnil
  have H0 : Hid (Below wz.heap.size wz wz.drew) := (Below.refl _ _).drew
  obtain ⟨L', hL'⟩ : ∃ L', l.take m ++ x :: l.drop m = L' := ⟨_, rfl⟩
  have HLL := Lib.hid hL'
  have hl2 : L'.length = n + 1 := by rw [← hL', List.length_append, List.length_cons, hL1, hL2]; omega
  clear hL'
  refine wp_region_held_drew (S := fun w' => Below wz.heap.size wz w') (by kernel_rfl) H0.out (fun hHeld => ?_)
  refine tk 1 rfl (.slice A n cp) ?_ (hQ := fun _ _ _ h => HPA.out _ _ _ _ _ h)
  refine tk 2 rfl (.int .i64 (m : Int)) ?_ (hQ := fun _ _ _ h => HPA.out _ _ _ _ _ h)
  refine tk 3 rfl (.slice A m cp) ?_ (hQ := fun _ _ _ h => HPA.out _ _ _ _ _ h)
  refine tk 5 rfl (.int .i64 x) ?_ (hQ := fun _ _ _ h => HPA.out _ _ _ _ _ h)
  refine tk 8 rfl (.slice A n cp) ?_ (hQ := fun _ _ _ h => HPA.out _ _ _ _ _ h)
  refine tk 9 rfl (.int .i64 (m : Int)) ?_ (hQ := fun _ _ _ h => HPA.out _ _ _ _ _ h)
  refine tk 10 rfl (.slice A2 (n - m) (cp - m)) ?_ (hv := fun w' hS' => by go_simp; first | done | (rw [← HAD.out]; split <;> rfl) | rw [← HAD.out]) (hQ := fun _ _ _ h => HPA.out _ _ _ _ _ h)
  generalize wz.drew = W0 at H0 hHeld ⊢
  refine wpAnyH_ready (rs := [0, 6]) (by kernel_rfl) (by simp) ?_
  refine AllReadyH.cons (nth_ops (i := 0) rfl) (fun K hK => ?_) (AllReadyH.cons (nth_ops (i := 6) rfl) (fun K hK => ?_) AllReadyH.nil)
  · go_simp
    have H1 : Hid (Below wz.heap.size wz (W0.alloc (.cells #[] 3))) := H0.out.alloc H0.out.size _
    have O1 : Hid (World.ownsRow (W0.alloc (.cells #[] 3)) wz.heap.size 3 1 (.slice (some ⟨W0.heap.size, 0, none⟩) 0 0) 0 (ints [])) := World.ownsRow_made (base := wz.heap.size) (e := 3) (size := 1) W0 #[] 0 H0.out.size (by unfold maxLen; omega) rfl
    refine hK.out _ _ H1.out (fun hHeld => ?_)
    clear hK K hHeld
    try simp only [Act.put, p1, p2, p3]
    obtain ⟨g1, hg1⟩ : ∃ g, W0.heap.size = g := ⟨_, rfl⟩
    rw [hg1] at O1 ⊢
    have hs1 : Hid ((W0.alloc (.cells #[] 3)).heap.size = g1 + 1) := by unfold Hid; rw [size_alloc, hg1]
    generalize W0.alloc (.cells #[] 3) = W1 at H1 O1 hs1 ⊢
    clear hg1
    refine wpAnyH_ready (rs := [4, 6]) (by kernel_rfl) (by simp) ?_
    refine AllReadyH.cons (nth_ops (i := 4) rfl) (fun K hK => ?_) (AllReadyH.cons (nth_ops (i := 6) rfl) (fun K hK => ?_) AllReadyH.nil)
    · obtain ⟨v2, W2, hrun, ho, hg⟩ := run_append_ints W1 42 wz.heap.size (.slice (some ⟨g1, 0, none⟩) 0 0) 0 [] O1.out A m cp (l.take m) (R1.out.kept H1.out) N1.out (by omega) H1.out.size
      have H2 : Hid (Below wz.heap.size wz W2) := H1.out.grown hg H1.out.size (fun k hk => (O1.out.lt k hk).1)
      have O2 := Lib.hid ho
      rw [Nat.zero_add, List.nil_append] at O2
      refine region_append_ints (by rfl) _ _ rfl rfl rfl hrun ?_
      clear hrun ho hg
      refine hK.out _ _ H2.out (fun hHeld => ?_)
      clear hK K hHeld
      try simp only [Act.put, p1, p2, p3]
      refine wpAnyH_ready (rs := [6]) (by kernel_rfl) (by simp) ?_
      refine AllReadyH.cons (nth_ops (i := 6) rfl) (fun K hK => ?_) AllReadyH.nil
      go_simp
      have H3 : Hid (Below wz.heap.size wz (W2.alloc (.cells #[.int .i64 x] 3))) := H2.out.alloc H2.out.size _
      have N3 : Hid (IRow (W2.alloc (.cells #[.int .i64 x] 3)) (some ⟨W2.heap.size, 0, none⟩) 1 [x] ∧ W2.heap.size < (W2.alloc (.cells #[.int .i64 x] 3)).heap.size) := ⟨IRow.one W2 x, by rw [size_alloc]; omega⟩
      have O3 := Lib.hid (O2.out.alloc (.cells #[.int .i64 x] 3))
      refine hK.out _ _ H3.out (fun hHeld => ?_)
      clear hK K hHeld
      try simp only [Act.put, p1, p2, p3]
      obtain ⟨g3, hg3⟩ : ∃ g, W2.heap.size = g := ⟨_, rfl⟩
      rw [hg3] at N3 ⊢
      generalize W2.alloc (.cells #[.int .i64 x] 3) = W3 at H3 N3 O3 ⊢
      clear hg3
      refine wpAnyH_ready (rs := [7]) (by kernel_rfl) (by simp) ?_
      refine AllReadyH.cons (nth_ops (i := 7) rfl) (fun K hK => ?_) AllReadyH.nil
      obtain ⟨v4, W4, hrun, ho, hg⟩ := run_append_ints W3 42 wz.heap.size v2 m (l.take m) O3.out (some ⟨g3, 0, none⟩) 1 1 [x] N3.out.1 (fun e => by cases e) (by omega) H3.out.size
      have H4 : Hid (Below wz.heap.size wz W4) := H3.out.grown hg H3.out.size (fun k hk => (O3.out.lt k hk).1)
      have O4 := Lib.hid ho
      refine region_append_ints (by rfl) _ _ rfl rfl rfl hrun ?_
      clear hrun ho hg
      refine hK.out _ _ H4.out (fun hHeld => ?_)
      clear hK K hHeld
      try simp only [Act.put, p1, p2, p3]
      refine wpAnyH_ready (rs := [11]) (by kernel_rfl) (by simp) ?_
      refine AllReadyH.cons (nth_ops (i := 11) rfl) (fun K hK => ?_) AllReadyH.nil
      obtain ⟨v5, W5, hrun, ho, hg⟩ := run_append_ints W4 42 wz.heap.size v4 (m + 1) (l.take m ++ [x]) O4.out A2 (n - m) (cp - m) (l.drop m) (R2.out.kept H4.out) N2.out (by omega) H4.out.size
      have H5 : Hid (Below wz.heap.size wz W5) := H4.out.grown hg H4.out.size (fun k hk => (O4.out.lt k hk).1)
      have O5 : Hid (World.ownsRow W5 wz.heap.size 3 1 v5 L'.length (ints L')) := by
        have q := ho
        rw [show l.take m ++ [x] ++ l.drop m = L' by rw [← HLL.out, List.append_assoc]; rfl] at q
        unfold Hid; rw [show L'.length = m + 1 + (n - m) by omega]; exact q
      obtain ⟨A9, c9, he, k1, k2, k3⟩ := IRow.of_own O5.out
      have k4 : c9 ≤ maxLen := own_cap (by rw [← he]; exact O5.out)
      subst he
      have KK := Lib.hid (And.intro k1 (And.intro k2 (And.intro k3 k4)))
      clear k1 k2 k3 k4
      refine region_append_ints (by rfl) _ _ rfl rfl rfl hrun ?_
      clear hrun ho hg
      refine hK.out _ _ H5.out (fun hHeld => ?_)
      clear hK K hHeld
      try simp only [Act.put, p1, p2, p3]
      refine tk 12 rfl (.slice A9 L'.length c9) ?_ (hQ := fun _ _ _ h => HPA.out _ _ _ _ _ h)
      refine wpAnyH_done (by kernel_rfl) ?_ _
      exact HQ.out A9 c9 L' _ _ _ _ _ _ _ _ _ _ _ _ _ HLL.out hl2 KK.out.2.2.1 KK.out.1 KK.out.2.1 H5.out KK.out.2.2.2
    · go_simp
      have H6 : Hid (Below wz.heap.size wz (W1.alloc (.cells #[.int .i64 x] 3))) := H1.out.alloc H1.out.size _
      have N6 : Hid (IRow (W1.alloc (.cells #[.int .i64 x] 3)) (some ⟨W1.heap.size, 0, none⟩) 1 [x] ∧ W1.heap.size < (W1.alloc (.cells #[.int .i64 x] 3)).heap.size) := ⟨IRow.one W1 x, by rw [size_alloc]; omega⟩
      have O6 := Lib.hid (O1.out.alloc (.cells #[.int .i64 x] 3))
      refine hK.out _ _ H6.out (fun hHeld => ?_)
      clear hK K hHeld
      try simp only [Act.put, p1, p2, p3]
      have hne : W1.heap.size ≠ g1 := by rw [hs1.out]; omega
      obtain ⟨g6, hg6⟩ : ∃ g, W1.heap.size = g := ⟨_, rfl⟩
      rw [hg6] at N6 ⊢
      rw [hg6] at hne
      generalize W1.alloc (.cells #[.int .i64 x] 3) = W6 at H6 N6 O6 ⊢
      clear hg6
      refine wpAnyH_ready (rs := [4]) (by kernel_rfl) (by simp) ?_
      refine AllReadyH.cons (nth_ops (i := 4) rfl) (fun K hK => ?_) AllReadyH.nil
      obtain ⟨v7, W7, hrun, ho, hg⟩ := run_append_ints W6 42 wz.heap.size (.slice (some ⟨g1, 0, none⟩) 0 0) 0 [] O6.out A m cp (l.take m) (R1.out.kept H6.out) N1.out (by omega) H6.out.size
      have H7 : Hid (Below wz.heap.size wz W7) := H6.out.grown hg H6.out.size (fun k hk => (O6.out.lt k hk).1)
      have O7 := Lib.hid ho
      rw [Nat.zero_add, List.nil_append] at O7
      have N7 : Hid (IRow W7 (some ⟨g6, 0, none⟩) 1 [x]) := irow_grown N6.out.1 hg (fun e => hne (by injection e))
      refine region_append_ints (by rfl) _ _ rfl rfl rfl hrun ?_
      clear hrun ho hg
      refine hK.out _ _ H7.out (fun hHeld => ?_)
      clear hK K hHeld
      try simp only [Act.put, p1, p2, p3]
      refine wpAnyH_ready (rs := [7]) (by kernel_rfl) (by simp) ?_
      refine AllReadyH.cons (nth_ops (i := 7) rfl) (fun K hK => ?_) AllReadyH.nil
      obtain ⟨v8, W8, hrun, ho, hg⟩ := run_append_ints W7 42 wz.heap.size v7 m (l.take m) O7.out (some ⟨g6, 0, none⟩) 1 1 [x] N7.out (fun e => by cases e) (by omega) H7.out.size
      have H8 : Hid (Below wz.heap.size wz W8) := H7.out.grown hg H7.out.size (fun k hk => (O7.out.lt k hk).1)
      have O8 := Lib.hid ho
      refine region_append_ints (by rfl) _ _ rfl rfl rfl hrun ?_
      clear hrun ho hg
      refine hK.out _ _ H8.out (fun hHeld => ?_)
      clear hK K hHeld
      try simp only [Act.put, p1, p2, p3]
      refine wpAnyH_ready (rs := [11]) (by kernel_rfl) (by simp) ?_
      refine AllReadyH.cons (nth_ops (i := 11) rfl) (fun K hK => ?_) AllReadyH.nil
      obtain ⟨v9, W9, hrun, ho, hg⟩ := run_append_ints W8 42 wz.heap.size v8 (m + 1) (l.take m ++ [x]) O8.out A2 (n - m) (cp - m) (l.drop m) (R2.out.kept H8.out) N2.out (by omega) H8.out.size
      have H9 : Hid (Below wz.heap.size wz W9) := H8.out.grown hg H8.out.size (fun k hk => (O8.out.lt k hk).1)
      have O9 : Hid (World.ownsRow W9 wz.heap.size 3 1 v9 L'.length (ints L')) := by
        have q := ho
        rw [show l.take m ++ [x] ++ l.drop m = L' by rw [← HLL.out, List.append_assoc]; rfl] at q
        unfold Hid; rw [show L'.length = m + 1 + (n - m) by omega]; exact q
      obtain ⟨A9, c9, he, k1, k2, k3⟩ := IRow.of_own O9.out
      have k4 : c9 ≤ maxLen := own_cap (by rw [← he]; exact O9.out)
      subst he
      have KK := Lib.hid (And.intro k1 (And.intro k2 (And.intro k3 k4)))
      clear k1 k2 k3 k4
      refine region_append_ints (by rfl) _ _ rfl rfl rfl hrun ?_
      clear hrun ho hg
      refine hK.out _ _ H9.out (fun hHeld => ?_)
      clear hK K hHeld
      try simp only [Act.put, p1, p2, p3]
      refine tk 12 rfl (.slice A9 L'.length c9) ?_ (hQ := fun _ _ _ h => HPA.out _ _ _ _ _ h)
      refine wpAnyH_done (by kernel_rfl) ?_ _
      exact HQ.out A9 c9 L' _ _ _ _ _ _ _ _ _ _ _ _ _ HLL.out hl2 KK.out.2.2.1 KK.out.1 KK.out.2.1 H9.out KK.out.2.2.2
  · go_simp
    have H10 : Hid (Below wz.heap.size wz (W0.alloc (.cells #[.int .i64 x] 3))) := H0.out.alloc H0.out.size _
    have N10 : Hid (IRow (W0.alloc (.cells #[.int .i64 x] 3)) (some ⟨W0.heap.size, 0, none⟩) 1 [x] ∧ W0.heap.size < (W0.alloc (.cells #[.int .i64 x] 3)).heap.size) := ⟨IRow.one W0 x, by rw [size_alloc]; omega⟩
    refine hK.out _ _ H10.out (fun hHeld => ?_)
    clear hK K hHeld
    try simp only [Act.put, p1, p2, p3]
    obtain ⟨g10, hg10⟩ : ∃ g, W0.heap.size = g := ⟨_, rfl⟩
    rw [hg10] at N10 ⊢
    generalize W0.alloc (.cells #[.int .i64 x] 3) = W10 at H10 N10 ⊢
    clear hg10
    refine wpAnyH_ready (rs := [0]) (by kernel_rfl) (by simp) ?_
    refine AllReadyH.cons (nth_ops (i := 0) rfl) (fun K hK => ?_) AllReadyH.nil
    go_simp
    have H11 : Hid (Below wz.heap.size wz (W10.alloc (.cells #[] 3))) := H10.out.alloc H10.out.size _
    have O11 : Hid (World.ownsRow (W10.alloc (.cells #[] 3)) wz.heap.size 3 1 (.slice (some ⟨W10.heap.size, 0, none⟩) 0 0) 0 (ints [])) := World.ownsRow_made (base := wz.heap.size) (e := 3) (size := 1) W10 #[] 0 H10.out.size (by unfold maxLen; omega) rfl
    have N11 := Lib.hid (N10.out.1.kept ((Below.refl _ _).alloc (Nat.le_refl _) (.cells #[] 3)))
    have hne : g10 ≠ W10.heap.size := Nat.ne_of_lt N10.out.2
    refine hK.out _ _ H11.out (fun hHeld => ?_)
    clear hK K hHeld
    try simp only [Act.put, p1, p2, p3]
    obtain ⟨g11, hg11⟩ : ∃ g, W10.heap.size = g := ⟨_, rfl⟩
    rw [hg11] at O11 ⊢
    rw [hg11] at hne
    have hs11 : Hid ((W10.alloc (.cells #[] 3)).heap.size = g11 + 1) := by unfold Hid; rw [size_alloc, hg11]
    generalize W10.alloc (.cells #[] 3) = W11 at H11 O11 N11 hs11 ⊢
    clear hg11
    refine wpAnyH_ready (rs := [4]) (by kernel_rfl) (by simp) ?_
    refine AllReadyH.cons (nth_ops (i := 4) rfl) (fun K hK => ?_) AllReadyH.nil
    obtain ⟨v12, W12, hrun, ho, hg⟩ := run_append_ints W11 42 wz.heap.size (.slice (some ⟨g11, 0, none⟩) 0 0) 0 [] O11.out A m cp (l.take m) (R1.out.kept H11.out) N1.out (by omega) H11.out.size
    have H12 : Hid (Below wz.heap.size wz W12) := H11.out.grown hg H11.out.size (fun k hk => (O11.out.lt k hk).1)
    have O12 := Lib.hid ho
    rw [Nat.zero_add, List.nil_append] at O12
    have N12 : Hid (IRow W12 (some ⟨g10, 0, none⟩) 1 [x]) := irow_grown N11.out hg (fun e => hne (by injection e))
    refine region_append_ints (by rfl) _ _ rfl rfl rfl hrun ?_
    clear hrun ho hg
    refine hK.out _ _ H12.out (fun hHeld => ?_)
    clear hK K hHeld
    try simp only [Act.put, p1, p2, p3]
    refine wpAnyH_ready (rs := [7]) (by kernel_rfl) (by simp) ?_
    refine AllReadyH.cons (nth_ops (i := 7) rfl) (fun K hK => ?_) AllReadyH.nil
    obtain ⟨v13, W13, hrun, ho, hg⟩ := run_append_ints W12 42 wz.heap.size v12 m (l.take m) O12.out (some ⟨g10, 0, none⟩) 1 1 [x] N12.out (fun e => by cases e) (by omega) H12.out.size
    have H13 : Hid (Below wz.heap.size wz W13) := H12.out.grown hg H12.out.size (fun k hk => (O12.out.lt k hk).1)
    have O13 := Lib.hid ho
    refine region_append_ints (by rfl) _ _ rfl rfl rfl hrun ?_
    clear hrun ho hg
    refine hK.out _ _ H13.out (fun hHeld => ?_)
    clear hK K hHeld
    try simp only [Act.put, p1, p2, p3]
    refine wpAnyH_ready (rs := [11]) (by kernel_rfl) (by simp) ?_
    refine AllReadyH.cons (nth_ops (i := 11) rfl) (fun K hK => ?_) AllReadyH.nil
    obtain ⟨v14, W14, hrun, ho, hg⟩ := run_append_ints W13 42 wz.heap.size v13 (m + 1) (l.take m ++ [x]) O13.out A2 (n - m) (cp - m) (l.drop m) (R2.out.kept H13.out) N2.out (by omega) H13.out.size
    have H14 : Hid (Below wz.heap.size wz W14) := H13.out.grown hg H13.out.size (fun k hk => (O13.out.lt k hk).1)
    have O14 : Hid (World.ownsRow W14 wz.heap.size 3 1 v14 L'.length (ints L')) := by
      have q := ho
      rw [show l.take m ++ [x] ++ l.drop m = L' by rw [← HLL.out, List.append_assoc]; rfl] at q
      unfold Hid; rw [show L'.length = m + 1 + (n - m) by omega]; exact q
    obtain ⟨A9, c9, he, k1, k2, k3⟩ := IRow.of_own O14.out
    have k4 : c9 ≤ maxLen := own_cap (by rw [← he]; exact O14.out)
    subst he
    have KK := Lib.hid (And.intro k1 (And.intro k2 (And.intro k3 k4)))
    clear k1 k2 k3 k4
    refine region_append_ints (by rfl) _ _ rfl rfl rfl hrun ?_
    clear hrun ho hg
    refine hK.out _ _ H14.out (fun hHeld => ?_)
    clear hK K hHeld
    try simp only [Act.put, p1, p2, p3]
    refine tk 12 rfl (.slice A9 L'.length c9) ?_ (hQ := fun _ _ _ h => HPA.out _ _ _ _ _ h)
    refine wpAnyH_done (by kernel_rfl) ?_ _
    exact HQ.out A9 c9 L' _ _ _ _ _ _ _ _ _ _ _ _ _ HLL.out hl2 KK.out.2.2.1 KK.out.1 KK.out.2.1 H14.out KK.out.2.2.2
end Go.Proofs.Ytpgfolfhfhfdhaa.Name
