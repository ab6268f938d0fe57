/-
  The law SemverBack answers true for any text, and writes nothing that was there. Conditions: the text's length is one that the form allows; the library's table of powers of ten reads as it is written.
-/
import Derived.Test.YtfimjmikmbkkgaaDoorSvBack
import Derived.Test.YtfimjmikmbkkgaaDoorSvAwake
namespace Go.Proofs.YtfimjmikmbkkgaaDoor.Semver
open Go.RowKit Num Ident

theorem read_bad {l : List UInt8} {f q : Nat} {v : Ver} (h : vread l = (f, q, v)) (hf : f ≠ 0) : v = noVer := by
  unfold vread at h
  by_cases h0 : (vparse l 0).1 ≠ 0
  · rw [if_pos h0] at h; injection h with _ h; injection h with _ h; exact h.symm
  · rw [if_neg h0] at h
    by_cases h1 : (vparse l 0).2.1 ≠ l.length
    · rw [if_pos h1] at h; injection h with _ h; injection h with _ h; exact h.symm
    · rw [if_neg h1] at h; injection h with h; exact absurd h.symm hf
theorem held_lt {x y z : Nat} (h : heldB x y z = true) : x < 18446744073709551616 ∧ y < 18446744073709551616 ∧ z < 18446744073709551616 := by
  have := of_decide_eq_true h
  unfold maxField at this; omega
theorem good_parts {v : Ver} (h : goodV v = true) : heldB v.a v.b v.c = true ∧ goodFrom true v.pre 0 = true ∧ goodFrom false v.build 0 = true := by
  unfold goodV at h
  simpa using h
theorem short_len {xs : List (List UInt8)} (h : shortB xs = true) : xs.length ≤ maxLen ∧ ∀ x ∈ xs, x.length ≤ maxLen := by
  rw [shortB_iff] at h
  exact ⟨by unfold maxLen; omega, fun x hx => by have := h.2 x hx; unfold maxLen; omega⟩

set_option maxRecDepth 100000 in
set_option maxHeartbeats 1600000 in
theorem semverBack_any (s : ByteArray) (w : World) (hs : s.size ≤ maxLen) (htab : Tab w) :
    Calls Tryd.prog 4 #[.string s] w fun e w' => e = .returned (.bool true) ∧ Below w.heap.size w w' := by
  have HS := Lib.hid hs
  have HT := Lib.hid htab
  unfold maxLen at hs
  clear htab
  by_cases h0 : 600 < s.size
  · go_enter Tryd.func4, Tryd.ntmps4
    go_wp2_with fail
    refine (awake_any _).mono ?_
    rintro e w1 ⟨rfl, hb1⟩
    go_wp2
    go_ret
    exact ⟨rfl, hb1⟩
  have HR := Lib.hid (fun W => read_any s W HS.out)
  have HBK := Lib.hid (fun q v h => read_back (l := s.data.toList) (q := q) (v := v) h)
  have HBD := Lib.hid (fun f q v h hf => read_bad (l := s.data.toList) (f := f) (q := q) (v := v) h hf)
  have HMK : Hid (mk s.data.toList = s) := mk_of s
  generalize s.data.toList = l at HR HBK HBD HMK
  obtain ⟨⟨f, q, v⟩, hk⟩ : ∃ t, vread l = t := ⟨_, rfl⟩
  rw [hk] at HR HBK HBD
  clear hk
  go_enter Tryd.func4, Tryd.ntmps4
  go_wp2_with fail
  refine (awake_any _).mono ?_
  rintro e w1 ⟨rfl, hb1⟩
  have HB1 := Lib.hid hb1
  have hz1 := hb1.size
  clear hb1
  go_wp2_with fail
  refine (HR.out _).mono ?_
  rintro e w2 ⟨A, c, B, d, rfl, hc1, hc2, r1, r2, hb2⟩
  simp only at hc1 hc2 r1 r2 ⊢
  have HB2 := Lib.hid (HB1.out.trans (hb2.mono hz1))
  have hz2 := HB2.out.size
  have HBa := Lib.hid ((Below.refl w2.heap.size w2).alloc (Nat.le_refl _) (.cells #[.int .u64 (v.a : Int), .int .u64 (v.b : Int), .int .u64 (v.c : Int), .slice A v.pre.length c, .slice B v.build.length d] 25))
  have HB3 := Lib.hid (HB2.out.trans (HBa.out.mono hz2))
  have K1 := Lib.hid (At5.new w2 25 (.int .u64 (v.a : Int)) (.int .u64 (v.b : Int)) (.int .u64 (v.c : Int)) (.slice A v.pre.length c) (.slice B v.build.length d))
  have S1 := Lib.hid (r1.kept HBa.out)
  have S2 := Lib.hid (r2.kept HBa.out)
  clear r1 r2 hb2 HB1
  by_cases hf : f = 0
  · subst hf
    obtain ⟨hg, htx⟩ := HBK.out q v rfl
    have HG := Lib.hid hg
    obtain ⟨p1, p2, p3⟩ := good_parts hg
    have P1 := Lib.hid (held_lt p1)
    have P2 := Lib.hid (good_short p2)
    have P3 := Lib.hid (good_short p3)
    have HTX : Hid (mk (vtext v) = s) := by unfold Hid; rw [htx]; exact HMK.out
    clear hg htx p1 p2 p3 HBK HBD
    have hq : (s.toList == s.toList) = true := by simp
    go_upto_region 8 with (fail)
    generalize w2.alloc (.cells #[.int .u64 (v.a : Int), .int .u64 (v.b : Int), .int .u64 (v.c : Int), .slice A v.pre.length c, .slice B v.build.length d] 25) = W at K1 S1 S2 HB3 HBa ⊢
    have hzW := K1.out.1
    generalize w2.heap.size = b2 at *
    have hzw := HB3.out.size
    obtain ⟨_, _, x0, x1, x2, x3, x4⟩ := K1.out
    go_wp2_with fail
    refine (vgood_any v _ _ _ _ _ S1.out S2.out (short_len P2.out).1 (short_len P3.out).1 (short_len P2.out).2 (short_len P3.out).2).mono ?_
    rw [HG.out]
    rintro e w3 ⟨rfl, hb3⟩
    have K2 := Lib.hid (K1.out.kept hb3 (by omega))
    have T1 := Lib.hid (S1.out.kept hb3)
    have T2 := Lib.hid (S2.out.kept hb3)
    have HB4 := Lib.hid (HB3.out.trans (hb3.mono hzw))
    have hz4 := HB4.out.size
    clear hb3 x0 x1 x2 x3 x4
    obtain ⟨_, _, x0, x1, x2, x3, x4⟩ := K2.out
    go_wp2_with fail
    refine (vtext_any v _ _ _ _ _ P1.out.1 P1.out.2.1 P1.out.2.2 T1.out T2.out hc1 hc2 P2.out P3.out (HT.out.kept HB4.out)).mono ?_
    rw [HTX.out]
    rintro e w4 ⟨rfl, hb4⟩
    have HB5 := Lib.hid (HB4.out.trans (hb4.mono hz4))
    clear hb4 x0 x1 x2 x3 x4
    go_wp2
    go_ret
    exact ⟨rfl, HB5.out⟩
  · have hv : v = noVer := HBD.out f q v rfl hf
    subst hv
    have hb1 : ((f : Int) != 0) = true := by simp [hf]
    have hb2 : ((f : Int) == 0) = false := by simp [hf]
    clear hf HBK HBD
    go_upto_region 7 with (fail)
    generalize w2.alloc (.cells #[.int .u64 (noVer.a : Int), .int .u64 (noVer.b : Int), .int .u64 (noVer.c : Int), .slice A noVer.pre.length c, .slice B noVer.build.length d] 25) = W at K1 S1 S2 HB3 HBa ⊢
    have hzW := K1.out.1
    generalize w2.heap.size = b2 at *
    have hzw := HB3.out.size
    obtain ⟨_, _, x0, x1, x2, x3, x4⟩ := K1.out
    go_wp2_with fail
    refine (same_self noVer _ _ _ _ _ _ _ _ _ S1.out S2.out (SRow.none_ _ _) (SRow.none_ _ _) ⟨by simp [noVer], by simp [noVer]⟩).mono ?_
    rintro e w3 ⟨rfl, hb3⟩
    have HB4 := Lib.hid (HB3.out.trans (hb3.mono hzw))
    clear hb3
    go_wp2
    go_ret
    exact ⟨rfl, HB4.out⟩
end Go.Proofs.YtfimjmikmbkkgaaDoor.Semver
