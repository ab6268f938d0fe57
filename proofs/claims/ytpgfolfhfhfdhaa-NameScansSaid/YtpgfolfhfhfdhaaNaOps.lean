/-
  What a table of names answers without a change: (*Table).Find, Len, Name. Conditions: the pointer leads to a table; the text's length is one that the form allows.
-/
import Derived.Test.YtpgfolfhfhfdhaaNaSays
import Derived.Maps.OwnOps
import Derived.WalkSpells
namespace Go.Proofs.Ytpgfolfhfhfdhaa.Name
open Go.RowKit Num Ident Fr
open Go.Maps (Keyed)

theorem zeroInt (w : World) : (zeroValue 3).run Try.prog w = .ok (.int .i64 0) w := by kernel_rfl
theorem look_none {s : ByteArray} (hs : s.size ≤ maxLen) (w : World) (c : Bool) : (Instr.lookup 33 (.map none) (.string s) c).run Try.prog w = .ok (if c then .tuple #[.int .i64 0, .bool false] else .int .i64 0) w :=
  Go.Maps.look_nil (P := Try.prog) (t := 33) (e := 3) (k := 9) c strKeyed Try.underlying33 (zeroInt w) (strKey hs)
/-- 'v, ok := m[s]'. -/
theorem look_map {W : World} {T : Nat → Prop} {m : Value} {x : List (List UInt8)} {s : ByteArray} (h : MapAt W T m x) (hs : s.size ≤ maxLen) :
    (Instr.lookup 33 m (.string s) true).run Try.prog W = .ok (.tuple #[.int .i64 (if s.data.toList ∈ x then ((find x s.data.toList : Nat) : Int) else 0), .bool (decide (s.data.toList ∈ x))]) W := by
  rcases h with ⟨rfl, rfl⟩ | ⟨mb, D, rfl, _, hown, hN⟩
  · rw [look_none hs]; simp
  · obtain ⟨v, ps, hrun, hv⟩ := hown.look_ok (t := 33) (e := 3) strKeyed Try.underlying33 (z := .int .i64 0) (zeroInt W) (zd := .lit (.int .i64 0)) (zp := []) (plainElem_int Try.underlying3 (by decide)) (strKey hs)
    obtain ⟨c, rfl, hc, _⟩ := plainElem_int_inv Try.underlying3 hv
    rw [hrun, hN.has]
    simp only [Prod.mk.injEq] at hc
    by_cases hm : s.data.toList ∈ x
    · have := hN.num _ hm
      rw [hc.1] at this
      injection this with this; injection this with _ this
      rw [if_pos hm, this]
    · have := Go.Maps.atKey_of_not_has (hN.miss hm) (.lit (.int .i64 0))
      rw [hc.1] at this
      injection this with this; injection this with _ this
      rw [if_neg hm, this]
/-- A map's block is no row's. -/
theorem map_not_row {W : World} {H : Type} {P : Program} {k : TypeId} {R : Value → Option (DataW H × List MemPlace)} {mb n : Nat} {D : DataW H} (h : W.ownsMap P k R mb n D) {base : Nat} {e : TypeId} {size : Nat} {v : Value} {m : Nat} {xs : List Value} (hv : W.ownsRow base e size v m xs) : ∀ b, v.ownBlock = some b → b ≠ mb := by
  rintro b hb rfl
  obtain ⟨es, clock, h1, _⟩ := h
  rcases hv.2 with ⟨rfl, _⟩ | ⟨g, cap, cur, rfl, _, hg, _⟩
  · cases hb
  · injection hb with hb
    have : g = b := hb
    subst this
    rw [hg] at h1; cases h1
theorem find_len {x : List (List UInt8)} (hx : x.length ≤ 4096) (s : List UInt8) : find x s ≤ 4096 := Nat.le_trans (find_le x s) hx

set_option maxRecDepth 100000 in
set_option maxHeartbeats 800000 in
theorem find_any (tb : Nat) (T : Nat → Prop) (x : List (List UInt8)) (s : ByteArray) (w : World) (h : TabAt w tb T x) (hs : s.size ≤ maxLen) :
    Calls Try.prog 16 #[.pointer (some ⟨tb, 0, none⟩), .string s] w fun e w' => e = .returned (.tuple #[.int .i64 (if s.data.toList ∈ x then ((find x s.data.toList : Nat) : Int) else 0), .bool (decide (s.data.toList ∈ x))]) ∧ w = w' := by
  obtain ⟨m, v, h2, hm, hv, ho, hne⟩ := h.at_
  obtain ⟨lt1, hfr, c0, c1⟩ := h2
  have hlook := look_map hm hs
  have HS := Lib.hid hs
  clear h hm hv ho hne hs
  obtain ⟨i, hi⟩ : ∃ i, (if s.data.toList ∈ x then ((find x s.data.toList : Nat) : Int) else 0) = i := ⟨_, rfl⟩
  obtain ⟨b, hb⟩ : ∃ b, decide (s.data.toList ∈ x) = b := ⟨_, rfl⟩
  rw [hi, hb] at hlook ⊢
  clear hi hb
  go_enter Try.func16, Try.ntmps16
  go_wp2
  go_ret2
  exact ⟨rfl, rfl⟩
set_option maxRecDepth 100000 in
set_option maxHeartbeats 800000 in
theorem len_at (tb : Nat) (m : Value) (A : Option Addr) (n c : Nat) (w : World) (h2 : At2 w tb m (.slice A n c)) :
    Calls Try.prog 14 #[.pointer (some ⟨tb, 0, none⟩)] w fun e w' => e = .returned (.int .i64 (n : Int)) ∧ w = w' := by
  obtain ⟨lt1, hfr, c0, c1⟩ := h2
  go_enter Try.func14, Try.ntmps14
  go_wp2
  go_ret
  exact ⟨rfl, rfl⟩
theorem len_any (tb : Nat) (T : Nat → Prop) (x : List (List UInt8)) (w : World) (h : TabAt w tb T x) :
    Calls Try.prog 14 #[.pointer (some ⟨tb, 0, none⟩)] w fun e w' => e = .returned (.int .i64 (x.length : Int)) ∧ w = w' := by
  obtain ⟨m, v, h2, hm, hv, ho, hne⟩ := h.at_
  obtain ⟨A, c, rfl, hnc, hsr⟩ := SRow.of_own hv
  exact len_at tb m A _ c w h2
theorem nameAt_at (x : List (List UInt8)) (k : Nat) (h : k < x.length) : nameAt x k = x.getD k [] := by
  unfold nameAt; rw [if_pos ⟨by omega, by omega⟩, Int.toNat_natCast]
theorem nameAt_no (x : List (List UInt8)) (i : Int) (h : i < 0 ∨ (x.length : Int) ≤ i) : nameAt x i = [] := by
  unfold nameAt; rw [if_neg (by omega)]
set_option maxRecDepth 100000 in
set_option maxHeartbeats 800000 in
theorem name_any (tb : Nat) (T : Nat → Prop) (x : List (List UInt8)) (i : Int) (w : World) (h : TabAt w tb T x) :
    Calls Try.prog 15 #[.pointer (some ⟨tb, 0, none⟩), .int .i64 i] w fun e w' => e = .returned (.string (mk (nameAt x i))) ∧ w = w' := by
  obtain ⟨m, v, h2, hm, hv, ho, hne⟩ := h.at_
  obtain ⟨lt1, hfr, c0, c1⟩ := h2
  obtain ⟨A, c, rfl, hnc, hsr⟩ := SRow.of_own hv
  have HT := Lib.hid h
  have HR := Lib.hid hsr
  clear h hm hv ho hne hnc hsr
  by_cases hi : i < 0
  · have HN := Lib.hid (nameAt_no x i (.inl hi))
    go_enter Try.func15, Try.ntmps15
    go_wp2
    go_ret
    exact ⟨by rw [HN.out]; rfl, rfl⟩
  · obtain ⟨k, rfl⟩ := Int.eq_ofNat_of_zero_le (show 0 ≤ i by omega)
    by_cases hk : k < x.length
    · have HN := Lib.hid (nameAt_at x k hk)
      obtain ⟨b, o, rfl, hlt, hcell⟩ := HR.out.2 (by omega)
      have hx := hcell k hk
      clear hcell HR
      obtain ⟨y, hy⟩ : ∃ y, x.getD k [] = y := ⟨_, rfl⟩
      rw [hy] at hx HN
      clear hy
      go_enter Try.func15, Try.ntmps15
      go_wp2_with fail
      refine (len_any _ _ _ _ HT.out).mono ?_
      rintro e w' ⟨rfl, rfl⟩
      go_wp2
      go_ret
      exact ⟨by rw [HN.out]; rfl, rfl⟩
    · have HN := Lib.hid (nameAt_no x k (.inr (by omega)))
      go_enter Try.func15, Try.ntmps15
      go_wp2_with fail
      refine (len_any _ _ _ _ HT.out).mono ?_
      rintro e w' ⟨rfl, rfl⟩
      go_wp2
      go_ret
      exact ⟨by rw [HN.out]; rfl, rfl⟩
end Go.Proofs.Ytpgfolfhfhfdhaa.Name
