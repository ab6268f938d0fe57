/-
  (*Table).Add: a name's number, a new one if it has none and there is room. Conditions: the pointer leads to a table; the text's length is one that the form allows.
-/
import Derived.Test.YtpgfolfhfhfdhaaNaPut
import Derived.Test.YtpgfolfhfhfdhaaShelf
namespace Go.Proofs.Ytpgfolfhfhfdhaa.Name
open Go.RowKit Num Ident Fr

set_option maxRecDepth 100000 in
set_option maxHeartbeats 800000 in
theorem clone_any (s : ByteArray) (w : World) (hs : s.size ≤ 1000000) :
    Calls Try.prog 22 #[.string s] w fun e w' => e = .returned (.string s) ∧ Below w.heap.size w w' := by
  go_enter Try.func22, Try.ntmps22
  go_wp2_with fail
  refine (Try.stringslite_Clone s _ (by omega)).mono ?_
  rintro e w' ⟨rfl, hb⟩
  go_wp2
  go_ret
  exact ⟨rfl, hb⟩
set_option maxRecDepth 100000 in
set_option maxHeartbeats 1600000 in
theorem add_any (tb : Nat) (T : Nat → Prop) (x : List (List UInt8)) (s : ByteArray) (w : World) (h : TabAt w tb T x) (hs : s.size ≤ maxLen) :
    Calls Try.prog 12 #[.pointer (some ⟨tb, 0, none⟩), .string s] w (AddPost w tb T x s.data.toList) := by
  have HS := Lib.hid hs
  have H := Lib.hid h
  have HB : Hid (But T w w) := But.refl _ _
  have hfew := h.few
  have hfl := find_len hfew s.data.toList
  clear h hs
  go_enter Try.func12, Try.ntmps12
  go_wp2_with fail
  refine (find_any tb T x s _ H.out HS.out).mono ?_
  rintro e w' ⟨rfl, rfl⟩
  by_cases hmem : s.data.toList ∈ x
  · rw [if_pos hmem, decide_eq_true hmem]
    have HX := Lib.hid (addX_old (H.out.name _ hmem) hmem)
    clear hmem
    obtain ⟨k, hk⟩ : ∃ k, find x s.data.toList = k := ⟨_, rfl⟩
    rw [hk] at HX hfl ⊢
    clear hk
    go_wp2
    go_ret2
    exact ⟨by rw [HX.out.2.1, HX.out.2.2]; rfl, T, by rw [HX.out.1]; exact H.out, fun b g => .inl g, HB.out⟩
  · rw [if_neg hmem, decide_eq_false hmem]
    have HNM := Lib.hid hmem
    clear hmem hfl
    go_wp2_with fail
    refine (good_any s _ HS.out).mono ?_
    rintro e w1 ⟨rfl, hb⟩
    have HB1 := Lib.hid (HB.out.trans (But.of_same hb T) fun i g => .inl g)
    have H1 := Lib.hid (H.out.but (But.of_same hb fun _ => False) fun _ _ g => g)
    clear hb
    cases hn : isName s.data.toList
    · have HX := Lib.hid (addX_bad (x := x) hn)
      clear hn
      go_wp2
      go_ret2
      refine ⟨by rw [HX.out.2.1, HX.out.2.2]; rfl, T, by rw [HX.out.1]; exact H1.out, fun b g => .inl g, HB1.out⟩
    · have HN := Lib.hid hn
      clear hn
      go_wp2_with fail
      refine (len_any tb T x _ H1.out).mono ?_
      rintro e w' ⟨rfl, rfl⟩
      by_cases hroom : x.length < 4096
      · have HX := Lib.hid (addX_new HN.out HNM.out hroom)
        have hne : ((x.length : Int) == 4096) = false := by simp; omega
        have HRM := Lib.hid hroom
        clear hroom
        go_wp2_with fail
        refine (clone_any s _ (by have := isName_len HN.out; rw [Lib.size_eq]; omega)).mono ?_
        rintro e w2 ⟨rfl, hb⟩
        have HB2 := Lib.hid (HB1.out.trans (But.of_same hb T) fun i g => .inl g)
        have H2 := Lib.hid (H1.out.but (But.of_same hb fun _ => False) fun _ _ g => g)
        clear hb
        go_wp2_with fail
        refine (put_any tb T x s _ H2.out HS.out HN.out HNM.out HRM.out).mono ?_
        rintro e w3 ⟨rfl, T', h1, h2, h3⟩
        have HP := Lib.hid (And.intro h1 (And.intro h2 h3))
        clear h1 h2 h3
        go_wp2
        go_ret2
        refine ⟨by rw [HX.out.2.1, HX.out.2.2]; rfl, T', by rw [HX.out.1]; exact HP.out.1, fun b g => ?_, HB2.out.trans HP.out.2.2 fun i g => .inl g⟩
        rcases HP.out.2.1 b g with g | g
        · exact .inl g
        · exact .inr (Nat.le_trans HB2.out.size g)
      · have HX := Lib.hid (addX_full HN.out HNM.out hroom)
        have hne : ((x.length : Int) == 4096) = true := by simp; omega
        clear hroom
        go_wp2
        go_ret2
        exact ⟨by rw [HX.out.2.1, HX.out.2.2]; rfl, T, by rw [HX.out.1]; exact H1.out, fun b g => .inl g, HB1.out⟩
end Go.Proofs.Ytpgfolfhfhfdhaa.Name
