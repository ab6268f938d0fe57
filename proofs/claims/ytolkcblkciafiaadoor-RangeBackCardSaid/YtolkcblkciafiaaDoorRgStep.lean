/-
  A reader's small steps (rangeexpr.reader: stands, oneOf, lack). Conditions: the reader's block holds its bytes and a place within them. (Made by wip/gen_rgstep.py.)
-/
import Derived.Test.YtolkcblkciafiaaDoorRgPass
import Derived.Deep.CutBlock
import Derived.Deep.DeepCutAuto
namespace Go.Proofs.YtolkcblkciafiaaDoor.Range
open Go.RowKit Num Ident Semver

/-- Bytes as numbers. -/
def nums (l : List UInt8) : List Int := l.map fun b => (b.toNat : Int)
theorem nums_len (l : List UInt8) : (nums l).length = l.length := by simp [nums]
theorem nums_back (l : List UInt8) : Lib.bytesOf (nums l) = l := by
  unfold Lib.bytesOf nums
  rw [List.map_map]
  have : ((fun n : Int => UInt8.ofNat n.toNat) ∘ fun b : UInt8 => (b.toNat : Int)) = id := by funext b; simp
  rw [this, List.map_id]
theorem bytes_in {w : World} {A : Option Addr} {n : Nat} {l : List UInt8} (h : Row w A n l) : Lib.BytesIn w A n (nums l) := by
  intro h0
  obtain ⟨b, o, e, _, hc⟩ := h.2.2 h0
  refine ⟨b, o, e, fun i hi => ?_⟩
  rw [hc i hi]
  have hl : i < l.length := by rw [h.1]; exact hi
  unfold byteAt nums
  simp [List.getD, List.getElem?_eq_getElem hl]
theorem has_any (A B : Option Addr) (n c m d : Nat) (l t : List UInt8) (w : World) (h : Row w A n l) (k : Row w B m t) (hc : n ≤ c) :
    Calls Tryd.prog 49 #[.slice A n c, .slice B m d] w fun e w' => e = .returned (.bool (stands t l)) ∧ w' = w := by
  have := Tryd.bytes_HasPrefix_all A B n c m d (nums l) (nums t) w (by rw [nums_len, h.1]) (by rw [nums_len, k.1]) hc (bytes_in h) (bytes_in k)
  rw [nums_back, nums_back] at this
  exact this
theorem index_mem (l : List UInt8) (c : UInt8) : 0 ≤ Lib.indexByte l c ↔ c ∈ l := by
  induction l with
  | nil => simp [Lib.indexByte]
  | cons b l ih =>
    have hg := Lib.indexByte_ge l c
    unfold Lib.indexByte
    by_cases hb : b = c
    · subst hb; simp
    · have h1 : (b == c) = false := beq_eq_false_iff_ne.2 hb
      rw [h1, if_neg (by simp), List.mem_cons]
      by_cases h2 : Lib.indexByte l c = -1
      · rw [h2] at ih ⊢
        simp only [beq_self_eq_true, if_true]
        constructor
        · intro h; omega
        · rintro (h | h)
          · exact absurd h.symm hb
          · have := ih.2 h; omega
      · have h3 : (Lib.indexByte l c == -1) = false := beq_eq_false_iff_ne.2 h2
        rw [h3, if_neg (by simp)]
        constructor
        · intro h; exact .inr (ih.1 (by omega))
        · intro h; omega
set_option maxRecDepth 100000 in
set_option maxHeartbeats 1600000 in
theorem stands_any (b : Nat) (A : Option Addr) (n c p : Nat) (l s t : List UInt8) (w : World) (hR : Rd w b A n c p) (hr : Row w A n l) (hc : n ≤ c) (hs : Pl l p s) (ht : t.length ≤ 1000) :
    Calls Tryd.prog 39 #[.pointer (some ⟨b, 0, none⟩), .string (mk t)] w fun e w' => e = .returned (.bool (stands t s)) ∧ Rd w' b A n c p ∧ Moved b w w' := by
  have hm := hr.2.1
  unfold maxLen at hm
  have hp : p ≤ n := by have := hs.le; rw [hr.1] at this; exact this
  have hcp : n - p ≤ c - p := by omega
  obtain ⟨R, hRR⟩ : ∃ R, (if c = p then A else A.map (fun x => x.add p)) = R := ⟨_, rfl⟩
  obtain ⟨c2, W1, hc2, hcv, hr2, hb2⟩ := run_bytes w.drew (mk t) (by rw [mk_size]; unfold maxLen; omega)
  have HK1 : Hid (Rd W1 b A n c p) := hR.drew.kept hb2 hR.lt
  have HM1 : Hid (Moved b w W1) := (Moved.refl b w).drew.below hb2 (Nat.le_refl _) hR.lt
  have HRR : Hid (Row W1 R (n - p) s) := by
    have := Row.from_ hr p c hp hc hRR
    rw [hs.eq]
    exact row_keep this (hR.keep HM1.out)
  obtain ⟨A2, hA2⟩ : ∃ A2, some (⟨w.drew.heap.size, 0, none⟩ : Addr) = A2 := ⟨_, rfl⟩
  rw [hA2] at hcv hr2
  have HRB : Hid (Row W1 A2 (mk t).size t) := hr2
  have HCV := Lib.hid hcv
  obtain ⟨_, _, hx0, hx1, _⟩ := hR
  clear hr hs hr2 hcv hb2 hA2
  go_enter Tryd.func39, Tryd.ntmps39
  go_upto_region 1 with (fail)
  refine wp_region_held_drew (S := fun w' => w'.cell? ⟨b, 0, none⟩ = some (.slice A n c) ∧ w'.cell? ⟨b, 1, none⟩ = some (.int .i64 (p : Int))) (by kernel_rfl) ⟨hx0, hx1⟩ (fun hHeld => ?_)
  refine wpAnyH_take (i := 0) (oi := { dst := some 5, op := Op.move (Operand.tmp 0), type := 74, pos := "rangeexpr.go:72", after := #[], guard := none }) (v := .pointer (some ⟨b, 0, none⟩)) rfl (by kernel_rfl) (by kernel_rfl) (by kernel_rfl) (fun _ _ _ h => h) (Or.inl ⟨by rfl, fun w' hS' => by go_simp⟩) (by assumption) ?_
  simp only [Act.put, List.setIfInBounds_toArray, List.set_cons_zero, List.set_cons_succ]
  refine wpAnyH_take (i := 1) (oi := { dst := some 6, op := Op.nilCheck (Operand.tmp 5), type := 0, pos := "rangeexpr.go:72", after := #[{ on := 0, ground := Ground.data }], guard := none }) (v := .pointer (some ⟨b, 0, none⟩)) rfl (by kernel_rfl) (by kernel_rfl) (by kernel_rfl) (fun _ _ _ h => h) (Or.inl ⟨by rfl, fun w' hS' => by go_simp⟩) (by assumption) ?_
  simp only [Act.put, List.setIfInBounds_toArray, List.set_cons_zero, List.set_cons_succ]
  refine wpAnyH_take (i := 2) (oi := { dst := some 7, op := Op.fieldAddr 61 (Operand.tmp 6) 0, type := 0, pos := "rangeexpr.go:72", after := #[{ on := 1, ground := Ground.data }], guard := none }) (v := .pointer (some ⟨b, 0, none⟩)) rfl (by kernel_rfl) (by kernel_rfl) (by kernel_rfl) (fun _ _ _ h => h) (Or.inl ⟨by rfl, fun w' hS' => by go_simp⟩) (by assumption) ?_
  simp only [Act.put, List.setIfInBounds_toArray, List.set_cons_zero, List.set_cons_succ]
  refine wpAnyH_take (i := 3) (oi := { dst := some 8, op := Op.load 39 (Operand.tmp 7), type := 39, pos := "rangeexpr.go:72", after := #[{ on := 2, ground := Ground.data }], guard := none }) (v := .slice A n c) rfl (by kernel_rfl) (by kernel_rfl) (by kernel_rfl) (fun _ _ _ h => h) (Or.inl ⟨by rfl, fun w' hS' => by have x := hS'.1; go_simp⟩) (by assumption) ?_
  simp only [Act.put, List.setIfInBounds_toArray, List.set_cons_zero, List.set_cons_succ]
  refine wpAnyH_take (i := 4) (oi := { dst := some 9, op := Op.move (Operand.tmp 0), type := 74, pos := "rangeexpr.go:72", after := #[], guard := none }) (v := .pointer (some ⟨b, 0, none⟩)) rfl (by kernel_rfl) (by kernel_rfl) (by kernel_rfl) (fun _ _ _ h => h) (Or.inl ⟨by rfl, fun w' hS' => by go_simp⟩) (by assumption) ?_
  simp only [Act.put, List.setIfInBounds_toArray, List.set_cons_zero, List.set_cons_succ]
  refine wpAnyH_take (i := 5) (oi := { dst := some 10, op := Op.nilCheck (Operand.tmp 9), type := 0, pos := "rangeexpr.go:72", after := #[{ on := 4, ground := Ground.data }], guard := none }) (v := .pointer (some ⟨b, 0, none⟩)) rfl (by kernel_rfl) (by kernel_rfl) (by kernel_rfl) (fun _ _ _ h => h) (Or.inl ⟨by rfl, fun w' hS' => by go_simp⟩) (by assumption) ?_
  simp only [Act.put, List.setIfInBounds_toArray, List.set_cons_zero, List.set_cons_succ]
  refine wpAnyH_take (i := 6) (oi := { dst := some 11, op := Op.fieldAddr 61 (Operand.tmp 10) 1, type := 0, pos := "rangeexpr.go:72", after := #[{ on := 5, ground := Ground.data }], guard := none }) (v := .pointer (some ⟨b, 1, none⟩)) rfl (by kernel_rfl) (by kernel_rfl) (by kernel_rfl) (fun _ _ _ h => h) (Or.inl ⟨by rfl, fun w' hS' => by go_simp⟩) (by assumption) ?_
  simp only [Act.put, List.setIfInBounds_toArray, List.set_cons_zero, List.set_cons_succ]
  refine wpAnyH_take (i := 7) (oi := { dst := some 12, op := Op.load 3 (Operand.tmp 11), type := 3, pos := "rangeexpr.go:72", after := #[{ on := 6, ground := Ground.data }], guard := none }) (v := .int .i64 (p : Int)) rfl (by kernel_rfl) (by kernel_rfl) (by kernel_rfl) (fun _ _ _ h => h) (Or.inl ⟨by rfl, fun w' hS' => by have x := hS'.2; go_simp⟩) (by assumption) ?_
  simp only [Act.put, List.setIfInBounds_toArray, List.set_cons_zero, List.set_cons_succ]
  refine wpAnyH_take (i := 8) (oi := { dst := some 13, op := Op.slice 39 (Operand.tmp 8) (some (Operand.tmp 12)) none none, type := 39, pos := "rangeexpr.go:72", after := #[{ on := 3, ground := Ground.data }, { on := 7, ground := Ground.data }], guard := none }) (v := .slice R (n - p) (c - p)) rfl (by kernel_rfl) (by kernel_rfl) (by kernel_rfl) (fun _ _ _ h => h) (Or.inl ⟨by rfl, fun w' hS' => by go_simp⟩) (by assumption) ?_
  simp only [Act.put, List.setIfInBounds_toArray, List.set_cons_zero, List.set_cons_succ]
  refine wpAnyH_take (i := 9) (oi := { dst := some 14, op := Op.move (Operand.tmp 1), type := 9, pos := "rangeexpr.go:72", after := #[], guard := none }) (v := .string (mk t)) rfl (by kernel_rfl) (by kernel_rfl) (by kernel_rfl) (fun _ _ _ h => h) (Or.inl ⟨by rfl, fun w' hS' => by go_simp⟩) (by assumption) ?_
  simp only [Act.put, List.setIfInBounds_toArray, List.set_cons_zero, List.set_cons_succ]
  refine wpAnyH_ready (rs := [10]) (by kernel_rfl) (by simp) ?_
  refine AllReadyH.cons (o := { dst := some 15, op := Op.convert 9 39 (Operand.tmp 14), type := 39, pos := "rangeexpr.go:72", after := #[{ on := 9, ground := Ground.data }], guard := none }) rfl (fun K hK => ?_) AllReadyH.nil
  go_simp
  rw [HCV.out]
  simp only [Result.andThen_ok]
  refine hK.out _ _ ⟨HK1.out.row, HK1.out.at_⟩ (fun hHeld => ?_)
  clear hK K
  try simp only [Act.put, List.setIfInBounds_toArray, List.set_cons_zero, List.set_cons_succ]
  refine wpAnyH_ready (rs := [11]) (by kernel_rfl) (by simp) ?_
  refine AllReadyH.cons (o := { dst := some 16, op := Op.call { callee := Callee.value (Operand.func 49), args := #[Operand.tmp 13, Operand.tmp 15], argTypes := #[39, 39] }, type := 4, pos := "rangeexpr.go:72", after := #[{ on := 8, ground := Ground.data }, { on := 10, ground := Ground.data }], guard := none }) rfl (fun K hK => ?_) AllReadyH.nil
  go_simp
  refine (has_any R A2 _ _ _ _ _ _ _ HRR.out HRB.out hcp).mono ?_
  rintro e w2 ⟨rfl, rfl⟩
  clear hHeld
  refine hK.out _ _ ⟨HK1.out.row, HK1.out.at_⟩ (fun hHeld => ?_)
  clear hK K
  try simp only [Act.put, List.setIfInBounds_toArray, List.set_cons_zero, List.set_cons_succ]
  refine wpAnyH_take (i := 12) (oi := { dst := some 4, op := Op.assign (Operand.tmp 16), type := 4, pos := "rangeexpr.go:72", after := #[{ on := 11, ground := Ground.data }, { on := 11, ground := Ground.chain }, { on := 0, ground := Ground.phase }, { on := 1, ground := Ground.phase }, { on := 2, ground := Ground.phase }, { on := 3, ground := Ground.phase }, { on := 4, ground := Ground.phase }, { on := 5, ground := Ground.phase }, { on := 6, ground := Ground.phase }, { on := 7, ground := Ground.phase }, { on := 8, ground := Ground.phase }, { on := 9, ground := Ground.phase }, { on := 10, ground := Ground.phase }, { on := 11, ground := Ground.phase }], guard := none }) (v := .bool (stands t s)) rfl (by kernel_rfl) (by kernel_rfl) (by kernel_rfl) (fun _ _ _ h => h) (Or.inl ⟨by rfl, fun w' hS' => by go_simp⟩) (by assumption) ?_
  simp only [Act.put, List.setIfInBounds_toArray, List.set_cons_zero, List.set_cons_succ]
  refine wpAnyH_done (by kernel_rfl) ?_ _
  go_wp2
  go_ret
  exact ⟨rfl, HK1.out, HM1.out⟩
set_option maxRecDepth 100000 in
set_option maxHeartbeats 3200000 in
theorem oneOf_any (b : Nat) (A : Option Addr) (n c p : Nat) (l s t : List UInt8) (w : World) (hR : Rd w b A n c p) (hr : Row w A n l) (hs : Pl l p s) :
    Calls Tryd.prog 48 #[.pointer (some ⟨b, 0, none⟩), .string (mk t)] w fun e w' => e = .returned (.bool (oneOf t s)) ∧ Rd w' b A n c p ∧ Moved b w w' := by
  have hm := hr.2.1
  unfold maxLen at hm
  have HP := Lib.hid hs
  have HL := Lib.hid hr.1
  have HR := Lib.hid hR
  have HRow := Lib.hid hr
  obtain ⟨_, _, hx0, hx1, _⟩ := hR
  clear hr hs
  by_cases h1 : p < n
  · obtain ⟨g, o, rfl, hg, hcell⟩ := HRow.out.2.2 (by omega)
    have hx := hcell p h1
    have HT := Lib.hid (pl_next HP.out (by rw [HL.out]; exact h1))
    have HF : Hid (∀ (x : Int), byteAt l p = x → oneOf t s = decide (0 ≤ Lib.indexByte t x.toNat.toUInt8)) := fun x hx => by
      rw [HT.out, ← hx]
      show decide (l.getD p 0 ∈ t) = _
      have e : (byteAt l p).toNat.toUInt8 = l.getD p 0 := by unfold byteAt; simp
      rw [e, decide_eq_decide, index_mem]
    clear hcell
    obtain ⟨x, hxx⟩ : ∃ x, byteAt l p = x := ⟨_, rfl⟩
    have HF2 := Lib.hid (HF.out x hxx)
    rw [hxx] at hx
    clear hxx HF
    have hk1 : (p : Int) < (n : Int) := by omega
    have HI := Lib.hid (fun W => Tryd.strings_IndexByte (mk t) x W)
    rw [mk_list] at HI
    generalize Lib.indexByte t x.toNat.toUInt8 = y at HF2 HI
    rw [HF2.out]
    go_enter Tryd.func48, Tryd.ntmps48
    go_wp2_with fail
    go_quiet (first | (go_at_call 57; refine Calls.quiet_of_same (HI.out _)))
    go_wp2
    go_ret
    exact ⟨rfl, HR.out.drewN _, (Moved.refl b w).drewN _⟩
  · have HF : Hid (oneOf t s = false) := by
      have e : s = [] := by rw [HP.out.eq]; exact List.drop_eq_nil_of_le (by rw [HL.out]; omega)
      unfold Hid; rw [e]; rfl
    have hk1 : decide ((p : Int) < (n : Int)) = false := by simp; omega
    rw [HF.out]
    go_enter Tryd.func48, Tryd.ntmps48
    go_wp2_with fail
    go_quiet (fail)
    go_wp2
    go_ret
    exact ⟨rfl, HR.out.drewN _, (Moved.refl b w).drewN _⟩
set_option maxRecDepth 100000 in
set_option maxHeartbeats 1600000 in
theorem lack_any (b : Nat) (A : Option Addr) (n c p : Nat) (l s : List UInt8) (w : World) (hR : Rd w b A n c p) (hr : Row w A n l) (hs : Pl l p s) :
    Calls Tryd.prog 55 #[.pointer (some ⟨b, 0, none⟩)] w fun e w' => e = .returned (.int .i64 (lackN s : Int)) ∧ Rd w' b A n c p ∧ Moved b w w' := by
  have hm := hr.2.1
  unfold maxLen at hm
  have HP := Lib.hid hs
  have HL := Lib.hid hr.1
  have HR := Lib.hid hR
  have hle : p ≤ n := by have := hs.le; rw [hr.1] at this; exact this
  obtain ⟨_, _, hx0, hx1, _⟩ := hR
  clear hr hs
  by_cases h1 : p = n
  · have HF : Hid (lackN s = 5) := by
      have e : s = [] := by rw [HP.out.eq]; exact List.drop_eq_nil_of_le (by rw [HL.out]; omega)
      unfold Hid; rw [e]; rfl
    have hk1 : ((p : Int) == (n : Int)) = true := by simp [h1]
    clear h1
    rw [HF.out]
    go_enter Tryd.func55, Tryd.ntmps55
    go_wp2_with fail
    go_quiet (fail)
    go_wp2
    go_ret
    exact ⟨rfl, HR.out.drewN _, (Moved.refl b w).drewN _⟩
  · have HF : Hid (lackN s = 3) := by
      have e : s ≠ [] := by
        intro e
        have := HP.out.len
        rw [e, HL.out, List.length_nil] at this
        omega
      unfold Hid lackN; rw [if_neg e]
    have hk1 : ((p : Int) == (n : Int)) = false := by simp; omega
    clear h1
    rw [HF.out]
    go_enter Tryd.func55, Tryd.ntmps55
    go_wp2_with fail
    go_quiet (fail)
    go_wp2
    go_ret
    exact ⟨rfl, HR.out.drewN _, (Moved.refl b w).drewN _⟩
end Go.Proofs.YtolkcblkciafiaaDoor.Range
