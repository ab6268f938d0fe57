/-
  (*Table).Order: the numbers as their names stand. Condition: the pointer leads to a table.
-/
import Derived.Test.YtpgfolfhfhfdhaaNaSort
import Derived.Laws.MakeOwn
import Derived.Laws.OwnMore
namespace Go.Proofs.Ytpgfolfhfhfdhaa.Name
open Go.RowKit Num Ident Fr Ints

/-- make([]int, n): a row of the call's own, of noughts. -/
theorem run_make_ints (w : World) (n : Nat) (hn : n ≤ 4096) : ∃ W, (Instr.makeSlice 42 (.int .i64 (n : Int)) (.int .i64 (n : Int))).run Try.prog w = .ok (.slice (some ⟨w.heap.size, 0, none⟩) n n) W ∧ W.ownsRow w.heap.size 3 1 (.slice (some ⟨w.heap.size, 0, none⟩) n n) n (ints (List.replicate n 0)) ∧ Below w.heap.size w W := by
  obtain ⟨i, hi, hz, hs, hby⟩ := info_parts intInfo
  have h := run_make (P := Try.prog) w 42 3 i (.int .i64 0) Try.underlying42 hi hz .i64 .i64 (n : Int) (n : Int) (by omega) (by omega) (by rw [hby]; omega) (by omega)
  rw [hs, Int.toNat_natCast, Nat.mul_one] at h
  refine ⟨_, h, ⟨by rw [ints_length, List.length_replicate, Nat.mul_one], .inr ⟨w.heap.size, n, _, rfl, Nat.le_refl _, heap_alloc_new w _, Nat.le_refl _, by unfold maxLen; omega, by rw [size_madeCells, Nat.mul_one], ?_⟩⟩, (Below.refl _ w).alloc (Nat.le_refl _) _⟩
  rw [show (Value.int .i64 0).cells = #[.int .i64 0] from rfl, toList_madeCells_one, Nat.mul_one, List.take_of_length_le (by simp), ints, List.map_replicate]
/-- The numbers told so far. -/
def upTo (n k : Nat) : List Int := (List.range k).map (fun (j : Nat) => (j : Int)) ++ List.replicate (n - k) 0
theorem upTo_zero (n : Nat) : upTo n 0 = List.replicate n 0 := by simp [upTo]
theorem upTo_all (n : Nat) : upTo n n = (List.range n).map fun (j : Nat) => (j : Int) := by simp [upTo]
theorem upTo_next {n k : Nat} (h : k < n) : (upTo n k).set k (k : Int) = upTo n (k + 1) := by
  unfold upTo
  rw [List.set_append_right _ _ (by simp), List.length_map, List.length_range, Nat.sub_self, List.range_succ, List.map_append, show n - k = (n - (k + 1)) + 1 by omega, List.replicate_succ, List.set_cons_zero, List.append_assoc]; rfl
theorem ints_set (l : List Int) (k : Nat) (u : Int) : (ints l).set k (.int .i64 u) = ints (l.set k u) := by unfold ints; rw [List.map_set]
set_option maxRecDepth 100000 in
set_option maxHeartbeats 1600000 in
theorem order_any (tb : Nat) (T : Nat → Prop) (x : List (List UInt8)) (w : World) (h : TabAt w tb T x) :
    Calls Try.prog 17 #[.pointer (some ⟨tb, 0, none⟩)] w (OrdPost w x) := by
  have HND := Lib.hid h.nodup
  have hfew := h.few
  obtain ⟨m, v, h2, hm, hv, ho, hne⟩ := h.at_
  obtain ⟨A, c, rfl, hnc, hsr⟩ := SRow.of_own hv
  have HBx : Hid (Below w.heap.size w (w.alloc (.cells #[.pointer (some ⟨tb, 0, none⟩)] 32))) := (Below.refl _ _).alloc (Nat.le_refl _) _
  have HBc : Hid ((w.alloc (.cells #[.pointer (some ⟨tb, 0, none⟩)] 32)).cell? ⟨w.heap.size, 0, none⟩ = some (.pointer (some ⟨tb, 0, none⟩))) := by unfold Hid; simp [go_sem]
  have HBl : Hid (w.heap.size < (w.alloc (.cells #[.pointer (some ⟨tb, 0, none⟩)] 32)).heap.size) := by unfold Hid; simp
  have H2 := Lib.hid (h2.but (But.of_same HBx.out fun _ => False) (fun g => g))
  have HR := Lib.hid (hsr.kept HBx.out)
  have htl := h2.lt
  have HAl : Hid (∀ b o, 0 < x.length → A = some ⟨b, o, none⟩ → b < w.heap.size) := fun b o h0 e => by
    obtain ⟨b', o', e', hlt, _⟩ := hsr.2 h0
    rw [e] at e'; injection e' with e'; injection e' with e'; subst e'; exact hlt
  clear h h2 hm hv ho hne hnc hsr
  obtain ⟨n, hn⟩ : ∃ n, x.length = n := ⟨_, rfl⟩
  rw [hn] at H2 HR hfew HAl
  have HN := Lib.hid hn
  clear hn
  go_enter Try.func17, Try.ntmps17
  go_upto_region 1 with (fail)
  obtain ⟨bx, hbx⟩ : ∃ bx, w.heap.size = bx := ⟨_, rfl⟩
  have HW : Hid (w.heap.size = bx) := hbx
  rw [hbx] at HBc HBl ⊢
  generalize w.alloc (.cells #[.pointer (some ⟨tb, 0, none⟩)] 32) = W0 at HBx HBc HBl H2 HR ⊢
  clear hbx
  have d0 := HBc.out
  go_wp2_with fail
  refine (len_at _ _ _ _ _ _ H2.out).mono ?_
  rintro e w' ⟨rfl, rfl⟩
  obtain ⟨W1, hmk, hown, hb1⟩ := run_make_ints W0 n hfew
  obtain ⟨blk, hblk⟩ : ∃ blk, W0.heap.size = blk := ⟨_, rfl⟩
  rw [hblk] at hmk hown
  have HK := Lib.hid hblk
  have HB1 := Lib.hid hb1
  have HO1 := Lib.hid hown
  clear hown hb1 hblk
  go_wp2
  go_loopw [10] (fun i W => ∃ k : Nat, k ≤ n ∧ i = .int .i64 k ∧ Hid (W.ownsRow blk 3 1 (.slice (some ⟨blk, 0, none⟩) n n) n (ints (upTo n k))) ∧ Hid (But (fun b => b = blk) W1 W)) (fun i _ => n - (intOf i).toNat)
  case atStart => exact ⟨0, by omega, rfl, by rw [upTo_zero]; exact HO1, But.refl _ _⟩
  case round =>
    rename World => wo
    obtain ⟨k, hk, rfl, HO, HB⟩ := hrel
    have hkm : k ≤ 9223372036854775806 := by omega
    by_cases hlt : k < n
    · obtain ⟨hs, hg⟩ := HO.out.stored k (.int .i64 (k : Int))
      rw [ints_set, upTo_next hlt] at hs
      have HS := Lib.hid hs
      have HG := Lib.hid (HB.out.trans (But.of_grown (T := fun b => b = blk) hg fun b e => by cases e; rfl) fun i g => .inl g)
      clear hs hg
      have hcs : ∃ u, wo.cell? ⟨blk, k, none⟩ = some u := ⟨_, (HO.out.cellAt k (by omega)).trans (ints_at _ k (by simp [upTo]; omega))⟩
      have hfz : wo.frozen? ⟨blk, k, none⟩ = false := HO.out.frozenAt k
      obtain ⟨u, hu⟩ := hcs
      go_wp2
      go_roundw
      case rel => exact ⟨k + 1, by omega, by go_num, HS, HG⟩
      case measure => simp [intOf]; omega
    · obtain rfl : k = n := by omega
      rw [upTo_all] at HO
      have h6 : bx ≠ blk := by have := HBl.out; have := HK.out; omega
      have h7 : tb ≠ blk := by have := HBl.out; have := HK.out; have := HW.out; omega
      have h8 : ∀ b o, 0 < k → A = some ⟨b, o, none⟩ → b ≠ blk := fun b o h0 e => by have := HAl.out b o h0 e; have := HBl.out; have := HK.out; have := HW.out; omega
      have HB2 : Hid (But (fun b => b = blk) W0 wo) := (But.of_same HB1.out (fun b => b = blk)).trans HB.out fun i g => .inl g
      have g1 := (HB2.out.cell HBl.out h6).trans HBc.out
      have g2 := Nat.lt_of_lt_of_le HBl.out HB2.out.size
      have g3 := H2.out.but HB2.out h7
      have g4 := srow_but HR.out HB2.out h8
      have hfew2 := hfew
      have hl := HN.out
      subst hl
      have HSo := Lib.hid (sort_any bx tb m A c x wo blk x.length blk HND.out hfew2 g1 g2 g3 g4 h6 h7 h8 HO.out)
      clear g1 g2 g3 g4 h6 h7 h8 HO hfew2
      go_wp2_with fail
      refine HSo.out.mono ?_
      rintro e w2 ⟨rfl, hb2, o, ho, hr⟩
      have HP := Lib.hid (And.intro hb2 (And.intro ho hr))
      clear hb2 ho hr
      go_wp2
      go_ret
      refine ⟨some ⟨blk, 0, none⟩, x.length, o, rfl, Nat.le_refl _, HP.out.2.1, HP.out.2.2, ?_⟩
      have h9 : But (fun b => b = blk) W0 w2 := HB2.out.trans HP.out.1 fun i g => .inl g
      exact HBx.out.trans (h9.below (fun b e => by have := HBl.out; have := HK.out; have := HW.out; omega) HBx.out.size)
end Go.Proofs.Ytpgfolfhfhfdhaa.Name
