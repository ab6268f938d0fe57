/-
  What the theorem of the last text needs of these: IdRow, SvParse, SvEq. Conditions: as each theorem states.
-/
import Derived.Test.YtgfbflnhjpbceaaGreatDoorAgaB1
import Derived.Test.YtgfbflnhjpbceaaGreatDoorAgaB2
import Derived.Test.YtgfbflnhjpbceaaGreatDoorAgaB5
import Derived.Test.YtgfbflnhjpbceaaGreatDoorChecked
import Derived.WalkKit
import Derived.ChangeKeysEq
import Derived.Laws.StructEq
set_option maxRecDepth 100000
set_option maxHeartbeats 25600000
namespace Go.Proofs.YtgfbflnhjpbceaaGreatDoor.Ident
open Go.RowKit Num

def Fresh (B : Nat) (A : Option Addr) (n : Nat) : Prop := 0 < n → ∃ b o, A = some ⟨b, o, none⟩ ∧ B ≤ b
theorem Fresh.none_ (B : Nat) (A : Option Addr) : Fresh B A 0 := fun h => absurd h (Nat.lt_irrefl _)
theorem Fresh.mono {B B' : Nat} {A : Option Addr} {n : Nat} (h : Fresh B A n) (hB : B' ≤ B) : Fresh B' A n := fun h0 => by
 obtain ⟨b, o, e, hb⟩ := h h0
 exact ⟨b, o, e, Nat.le_trans hB hb⟩
theorem Fresh.of_own {w : World} {base : Nat} {e : TypeId} {k : Nat} {A : Option Addr} {n c : Nat} {xs : List Value} (h : w.ownsRow base e k (.slice A n c) n xs) : Fresh base A n := fun h0 => by
 rcases h.2 with ⟨_, h1⟩ | ⟨g, cap, cur, hv, hg, _⟩
 ·omega
 ·injection hv with hv _ _
  exact ⟨g, 0, hv, hg⟩
def RowPostF (w : World) (r : Res) (e : Ending) (w' : World) : Prop :=
 ∃ A c, e = .returned (.tuple #[.slice A r.2.2.length c, .int .i64 (r.2.1 : Int), .int .i64 (r.1 : Int)]) ∧ r.2.2.length ≤ c ∧ SRow w' A r.2.2.length r.2.2 ∧ Below w.heap.size w w' ∧ Fresh w.heap.size A r.2.2.length
theorem RowPostF.bad {w w' : World} {f : Nat} (hb : Below w.heap.size w w') : RowPostF w (f, 0, []) (.returned (.tuple #[.slice none 0 0, .int .i64 0, .int .i64 (f : Int)])) w' :=
 ⟨none, 0, rfl, Nat.le_refl _, SRow.none_ _ _, hb, Fresh.none_ _ _⟩

theorem row_out (A : Option Addr) (n c : Nat) (l : List UInt8) (p : Int) (pre : Bool) (w : World) (h : Row w A n l) (ho : p < 0 ∨ (n : Int) < p) :
  Calls Tryz.prog 194 #[.slice A n c, .int .i64 p, .bool pre] w (RowPostF w (row l p pre)) := by
 have HE : Hid (row l p pre = (1, 0, [])) := by
  unfold Hid row; rw [if_pos (by rw [h.1]; exact ho)]
 rw [HE.out]
 clear h HE
 by_cases h0 : p < 0
 ·go_enter Tryz.func194, Tryz.ntmps194
  go_wp2
  refine wp_scope_back 0 (fun _ _ => False) (fun _ _ => 0) rfl (fun _ _ hF => hF.elim) ?_
  intro _
  go_wp2
  simp only [Exit.jump]
  go_ret3
  exact RowPostF.bad (f := 1) (Below.refl _ _)
 ·have h1 : (n : Int) < p := by omega
  clear ho
  go_enter Tryz.func194, Tryz.ntmps194
  go_wp2
  refine wp_scope_back 0 (fun _ _ => False) (fun _ _ => 0) rfl (fun _ _ hF => hF.elim) ?_
  intro _
  go_wp2
  simp only [Exit.jump]
  go_ret3
  exact RowPostF.bad (f := 1) (Below.refl _ _)

theorem go_step_bad {pre : Bool} {l s : List UInt8} {acc : List (List UInt8)} {k m : Nat} (hM : lead (l.drop k) = m) (hs : (l.drop k).take m = s) (hf : fault s acc.length pre ≠ 0) : go pre (l.drop k) [] acc k = (fault s acc.length pre, 0, []) := by
 subst hM; subst hs; exact go_stop pre _ acc k hf
theorem lead_end (l : List UInt8) (h : lead l < l.length) : isId (l.getD (lead l) 0) = false := by
 induction l with
 | nil => simp at h
 | cons b r ih =>
  by_cases hb : isId b = true
  ·rw [lead, if_pos hb] at h ⊢
   simpa using ih (by simpa using h)
  ·rw [lead, if_neg hb]; simpa using hb
theorem go_step_point {pre : Bool} {l s : List UInt8} {acc : List (List UInt8)} {k m : Nat} (hM : lead (l.drop k) = m) (hs : (l.drop k).take m = s) (hf : fault s acc.length pre = 0) (hlt : k + m < l.length) (hx : byteAt l (k + m) = 46) :
  go pre (l.drop k) [] acc k = go pre (l.drop (k + m + 1)) [] (acc ++ [s]) (k + m + 1) := by
 rw [go_lead, hM, hs, List.nil_append, List.drop_drop, drop_getD l (k + m) hlt]
 exact go_point (by unfold byteAt at hx; omega) hf
theorem go_step_end {pre : Bool} {l s : List UInt8} {acc : List (List UInt8)} {k m : Nat} (hM : lead (l.drop k) = m) (hs : (l.drop k).take m = s) (hf : fault s acc.length pre = 0) (h : l.length ≤ k + m ∨ byteAt l (k + m) ≠ 46) :
  go pre (l.drop k) [] acc k = (0, k + m, acc ++ [s]) := by
 have e : shut pre s acc (k + m) = (0, k + m, acc ++ [s]) := by unfold shut; rw [if_pos hf]
 rw [go_lead, hM, hs, List.nil_append, List.drop_drop]
 rcases Nat.lt_or_ge (k + m) l.length with hlt | hge
 ·rw [drop_getD l (k + m) hlt, go_else ?_ ?_, e]
  ·have h1 := lead_end (l.drop k) (by rw [hM, List.length_drop]; omega)
   rw [hM] at h1
   simpa [List.getD] using h1
  ·rcases h with h | h
   ·omega
   ·unfold byteAt at h; omega
 ·rw [List.drop_eq_nil_of_le hge, go, e]
theorem RowPostF.good {w w' : World} {n : Nat} {xs : List (List UInt8)} (hb : Below w.heap.size w w') {A : Option Addr} {c : Nat} (hc : xs.length ≤ c) (hr : SRow w' A xs.length xs) (hf : Fresh w.heap.size A xs.length) :
  RowPostF w (0, n, xs) (.returned (.tuple #[.slice A xs.length c, .int .i64 (n : Int), .int .i64 0])) w' :=
 ⟨A, c, rfl, hc, hr, hb, hf⟩

def RowJ (w : World) (A : Option Addr) (n c p : Nat) (pre : Bool) (R : Option Addr) (N C : Nat) (l : List UInt8) (a' : Act) (w' : World) : Prop :=
 ∃ (acc : List (List UInt8)) (k : Nat) (v : Value) (u10 u11 u12 u13 u14 u15 u16 u17 u18 u19 u20 u21 u22 u23 u24 u25 u26 u27 u28 u29 u30 u31 u32 u33 u34 u35 u36 u37 u38 u39 u40 u41 u42 u43 u44 u45 u46 u47 u48 u49 u50 u51 u52 u53 u54 u55 u56 u57 u58 u59 u60 u61 u62 : Value), Below w.heap.size w w' ∧ w'.ownsRow w.heap.size 9 1 v acc.length (strs acc) ∧ acc.length ≤ 16 ∧ k ≤ N ∧ go pre (l.drop k) [] acc k = go pre l [] [] 0 ∧
  a' = { tmps := #[.slice A n c, .int .i64 p, .bool pre, undef, undef, undef, v, .int .i64 k, .int .i64 0, .slice R N C, u10, u11, u12, u13, u14, u15, u16, u17, u18, u19, u20, u21, u22, u23, u24, u25, u26, u27, u28, u29, u30, u31, u32, u33, u34, u35, u36, u37, u38, u39, u40, u41, u42, u43, u44, u45, u46, u47, u48, u49, u50, u51, u52, u53, u54, u55, u56, u57, u58, u59, u60, u61, u62], defers := [] }
def RowM (N : Nat) (a' : Act) (_ : World) : Nat := N - (intOf (a'.tmps.getD 7 undef)).toNat

theorem row_in (A : Option Addr) (n c : Nat) (l0 : List UInt8) (p : Nat) (pre : Bool) (w : World) (h : Row w A n l0) (hc : n ≤ c) (hp : p ≤ n) :
  Calls Tryz.prog 194 #[.slice A n c, .int .i64 p, .bool pre] w (RowPostF w (row l0 p pre)) := by
 have hm := h.2.1
 unfold maxLen at hm
 have hp0 : ¬ (p : Int) < 0 := by omega
 have hp1 : ¬ n < p := by omega
 obtain ⟨R, hR⟩ : ∃ R, (if c = p then A else A.map (fun x => x.add p)) = R := ⟨_, rfl⟩
 obtain ⟨l, hl⟩ : ∃ l, l0.drop p = l := ⟨_, rfl⟩
 have HE : Hid (row l0 p pre = go pre l [] [] 0) := by
  unfold Hid row; rw [if_neg (by rw [h.1]; omega), Int.toNat_natCast, hl]
 have R1 : Row w R (n - p) l := hl ▸ Row.from_ h p c hp hc hR
 rw [HE.out]
 clear h HE hl
 obtain ⟨N, hN⟩ : ∃ N, n - p = N := ⟨_, rfl⟩
 obtain ⟨C, hC⟩ : ∃ C, c - p = C := ⟨_, rfl⟩
 have hNC : N ≤ C := by omega
 have hNm : N ≤ 9223372036854775807 := by omega
 rw [hN] at R1
 have HR1 := Lib.hid R1
 have HLen := Lib.hid R1.1
 clear R1
 go_enter Tryz.func194, Tryz.ntmps194
 go_wp2
 refine wp_scope_back 0 (RowJ w A n c p pre R N C l) (RowM N) rfl ?_ ?_
 ·rintro a' w1 ⟨acc, k, v, u10, u11, u12, u13, u14, u15, u16, u17, u18, u19, u20, u21, u22, u23, u24, u25, u26, u27, u28, u29, u30, u31, u32, u33, u34, u35, u36, u37, u38, u39, u40, u41, u42, u43, u44, u45, u46, u47, u48, u49, u50, u51, u52, u53, u54, u55, u56, u57, u58, u59, u60, u61, u62, hb1, hown, hacc, hk, hgo, rfl⟩
  have HRW := Lib.hid (HR1.out.kept hb1)
  obtain ⟨VA, VC, rfl, hvc, _⟩ := SRow.of_own hown
  clear hR hN hC
  obtain ⟨m, hM⟩ : ∃ m, lead (l.drop k) = m := ⟨_, rfl⟩
  have hkm : k + m ≤ N := by have := lead_le (l.drop k); rw [hM, List.length_drop, HLen.out] at this; omega
  obtain ⟨S, hS⟩ : ∃ S, (if C = k then R else R.map (fun x => x.add k)) = S := ⟨_, rfl⟩
  have RA := Row.from_ HRW.out k C hk hNC hS
  have RB := Row.part_ HRW.out k m C hkm hNC hS
  obtain ⟨s, hs⟩ : ∃ s, (l.drop k).take m = s := ⟨_, rfl⟩
  rw [hs] at RB
  have hsl := RB.1
  have htx := run_text RB (C - k)
  have HA := Lib.hid RA
  have HM := Lib.hid hM
  have HSl := Lib.hid hsl
  have HSS := Lib.hid hs
  have HB1 := Lib.hid hb1
  have HO := Lib.hid hown
  have HG := Lib.hid hgo
  clear RA RB hM hsl hs hb1 hown hgo
  have hz1 := HB1.out.size
  go_wp2_with fail
  refine (length_any _ _ _ _ _ HA.out).mono ?_
  rintro e w' ⟨rfl, rfl⟩
  rw [HM.out]
  go_wp2_with fail
  refine (fault_any (mk s) acc.length pre _ (by rw [mk_size, HSl.out]; unfold maxLen; omega) (by unfold maxLen; omega)).mono ?_
  rintro e w2 ⟨rfl, hb2⟩
  rw [mk_list]
  have HBD := Lib.hid (go_step_bad (pre := pre) (acc := acc) HM.out HSS.out)
  have HPT := Lib.hid (fun hf => go_step_point (pre := pre) (acc := acc) HM.out HSS.out hf)
  have HEN := Lib.hid (fun hf => go_step_end (pre := pre) (acc := acc) HM.out HSS.out hf)
  have HPL0 : Hid (fault s acc.length pre = 0 → acc.length + 1 ≤ 16) := fun h => (fault_pos h).2.2
  obtain ⟨f, hf⟩ : ∃ f, fault s acc.length pre = f := ⟨_, rfl⟩
  rw [hf] at HBD HPT HEN HPL0 ⊢
  clear hf
  by_cases hf0 : f = 0
  ·subst hf0
   have HPL := Lib.hid (HPL0.out rfl)
   have HPT2 := Lib.hid (HPT.out rfl)
   have HEN2 := Lib.hid (HEN.out rfl)
   clear HBD HPT HEN
   have hz2 := hb2.size
   have HO2 : Hid ((w2.alloc (.cells #[.string (mk s)] 9)).ownsRow w.heap.size 9 1 (.slice VA acc.length VC) acc.length (strs acc)) := (own_below HO.out hb2).alloc _
   have HB2 := Lib.hid ((HB1.out.trans (hb2.mono hz1)).alloc (Nat.le_trans hz1 hz2) (.cells #[.string (mk s)] 9))
   have hms : (mk s).size = m := HSl.out
   have hacc2 : acc.length + 1 ≤ 16 := HPL.out
   clear hS htx
   by_cases hlt : k + m < N
   ·obtain ⟨b, o, rfl, hb, hcell⟩ := HR1.out.2.2 (by omega)
    have HX := Lib.hid (hcell (k + m) hlt)
    have hbd := byteAt_bd l (k + m)
    clear hcell
    have HPT3 := Lib.hid (fun h => HPT2.out (by rw [HLen.out]; exact hlt) h)
    have HEN3 := Lib.hid (fun h => HEN2.out (.inr h))
    clear HPT2 HEN2 HRW
    generalize byteAt l (k + m) = x at HX hbd HPT3 HEN3
    by_cases h46 : x = 46
    ·subst h46
     have HPT4 := Lib.hid (HPT3.out rfl)
     clear HPT3 HEN3
     go_wp2_with (first
      | (at_builtin; refine wpList_append_strs _ rfl _ _ rfl w.heap.size _ acc.length acc rfl HO2.out (some ⟨w2.heap.size, 0, none⟩) 1 1 [s] rfl (SRow.one w2 s) (fun h => by cases h) (by omega) (by simp; omega) ?_; intro v3 w3 ho3 hb3; obtain ⟨VA3, VC3, rfl, hvc3, hr3⟩ := SRow.of_own ho3; have HB3 := Lib.hid (HB2.out.trans hb3); have HO3 := Lib.hid ho3; have HR3 := Lib.hid hr3; clear ho3 hb3 hr3; have hx := (HB3.out.cell (p := ⟨b, o + (k + m), none⟩) hb).trans HX.out)
      | fail)
     go_step3
     rw [show ((k : Int) + (m : Int) + 1) = ((k + m + 1 : Nat) : Int) from rfl]
     refine ⟨rfl, ⟨acc ++ [s], k + m + 1, .slice VA3 (acc.length + 1) VC3, _, _, _, _, _, _, _, _, _, _, _, _, _, _, _, _, _, _, _, _, _, _, _, _, _, _, _, _, _, _, _, _, _, _, _, _, _, _, _, _, _, _, _, _, _, _, _, _, _, _, _, _, _, HB3.out, ?_, ?_, by omega, ?_, rfl⟩, ?_⟩
     ·rw [List.length_append]; exact HO3.out
     ·rw [List.length_append]; exact hacc2
     ·rw [← HPT4.out]; exact HG.out
     ·simp [RowM, intOf]; omega
    ·have HEN4 := Lib.hid (HEN3.out h46)
     have hb46 : (x == 46) = false := by simp [h46]
     clear HPT3 HEN3 h46
     go_wp2_with (first
      | (at_builtin; refine wpList_append_strs _ rfl _ _ rfl w.heap.size _ acc.length acc rfl HO2.out (some ⟨w2.heap.size, 0, none⟩) 1 1 [s] rfl (SRow.one w2 s) (fun h => by cases h) (by omega) (by simp; omega) ?_; intro v3 w3 ho3 hb3; obtain ⟨VA3, VC3, rfl, hvc3, hr3⟩ := SRow.of_own ho3; have HB3 := Lib.hid (HB2.out.trans hb3); have HO3 := Lib.hid ho3; have HR3 := Lib.hid hr3; clear ho3 hb3 hr3; have hx := (HB3.out.cell (p := ⟨b, o + (k + m), none⟩) hb).trans HX.out)
      | fail)
     simp only [Exit.jump]
     go_ret3
     rw [← HG.out, HEN4.out]
     have e1 : (acc ++ [s]).length = acc.length + 1 := by simp
     have := RowPostF.good (n := k + m) HB3.out (A := VA3) (c := VC3) (xs := acc ++ [s]) (by rw [e1]; exact hvc3) (by rw [e1]; exact HR3.out) (by rw [e1]; exact Fresh.of_own HO3.out)
     rw [e1] at this
     exact this
   ·have HEN4 := Lib.hid (HEN2.out (.inl (by rw [HLen.out]; omega)))
    clear HPT2 HEN2 HRW
    go_wp2_with (first
     | (at_builtin; refine wpList_append_strs _ rfl _ _ rfl w.heap.size _ acc.length acc rfl HO2.out (some ⟨w2.heap.size, 0, none⟩) 1 1 [s] rfl (SRow.one w2 s) (fun h => by cases h) (by omega) (by simp; omega) ?_; intro v3 w3 ho3 hb3; obtain ⟨VA3, VC3, rfl, hvc3, hr3⟩ := SRow.of_own ho3; have HB3 := Lib.hid (HB2.out.trans hb3); have HO3 := Lib.hid ho3; have HR3 := Lib.hid hr3; clear ho3 hb3 hr3)
     | fail)
    simp only [Exit.jump]
    go_ret3
    rw [← HG.out, HEN4.out]
    have e1 : (acc ++ [s]).length = acc.length + 1 := by simp
    have := RowPostF.good (n := k + m) HB3.out (A := VA3) (c := VC3) (xs := acc ++ [s]) (by rw [e1]; exact hvc3) (by rw [e1]; exact HR3.out) (by rw [e1]; exact Fresh.of_own HO3.out)
    rw [e1] at this
    exact this
  ·have HBD2 := Lib.hid (HBD.out hf0)
   have HB2 := Lib.hid (HB1.out.trans (hb2.mono hz1))
   go_wp2
   simp only [Exit.jump]
   go_ret3
   rw [← HG.out, HBD2.out]
   exact RowPostF.bad HB2.out
 ·intro HP
  go_wp2
  go_step3
  rename_i hK
  exact hK _ _ (HP.out _ _ ⟨[], 0, .slice none 0 0, _, _, _, _, _, _, _, _, _, _, _, _, _, _, _, _, _, _, _, _, _, _, _, _, _, _, _, _, _, _, _, _, _, _, _, _, _, _, _, _, _, _, _, _, _, _, _, _, _, _, _, _, _, Below.refl _ _, World.ownsRow_nil _ _ _ _, by simp, by omega, rfl, rfl⟩)

theorem row_anyF (A : Option Addr) (n c : Nat) (l : List UInt8) (p : Int) (pre : Bool) (w : World) (h : Row w A n l) (hc : n ≤ c) :
  Calls Tryz.prog 194 #[.slice A n c, .int .i64 p, .bool pre] w (RowPostF w (row l p pre)) := by
 by_cases ho : p < 0 ∨ (n : Int) < p
 ·exact row_out A n c l p pre w h ho
 ·obtain ⟨k, rfl⟩ := Int.eq_ofNat_of_zero_le (show 0 ≤ p by omega)
  exact row_in A n c l k pre w h hc (by omega)
end Go.Proofs.YtgfbflnhjpbceaaGreatDoor.Ident
namespace Go.Proofs.YtgfbflnhjpbceaaGreatDoor.Semver
open Go.RowKit Num Ident

theorem readRow_pre (A : Option Addr) (n c : Nat) (l : List UInt8) (p : Nat) (w : World) (h : Row w A n l) (hc : n ≤ c) (hp : p ≤ n) :
  Calls Tryz.prog 182 #[.slice A n c, .int .i64 p, .int .u8 45] w (RowPostF w (rowAt l p 45)) := by
 have hm := h.2.1
 unfold maxLen at hm
 have HR := Lib.hid h
 have HL := Lib.hid h.1
 have HC := Lib.hid h.2.2
 clear h
 by_cases h0 : p = n
 ·have HF := Lib.hid (rowAt_none (l := l) (p := p) (m := 45) (.inl (by rw [HL.out]; exact h0)))
  subst h0
  have hb : ((p : Int) == (p : Int)) = true := by simp
  rw [HF.out]
  go_enter Tryz.func182, Tryz.ntmps182
  go_wp2
  go_ret3
  exact ⟨none, 0, rfl, Nat.le_refl _, SRow.none_ _ _, Below.refl _ _, Fresh.none_ _ _⟩
 ·have hlt : p < n := by omega
  have hb : ((p : Int) == (n : Int)) = false := by simp; omega
  have H0 : Hid (p ≠ l.length) := by unfold Hid; rw [HL.out]; exact h0
  obtain ⟨b, o, rfl, hbl, hcell⟩ := HC.out (by omega)
  have hx := hcell p hlt
  clear hcell HC h0
  have hbd := byteAt_bd l p
  have HN := Lib.hid (fun h => rowAt_none (l := l) (p := p) (m := 45) (.inr h))
  have HY := Lib.hid (fun h => rowAt_some (l := l) (p := p) (m := 45) H0.out h)
  generalize byteAt l p = x at hx hbd HN HY
  by_cases hxm : x = 45
  ·have HF := Lib.hid (HY.out (by exact hxm))
   have h1 : (x != 45) = false := by simp [hxm]
   clear hxm HN HY
   rw [HF.out]
   have HQ := Lib.hid (fun W hW => row_anyF (some ⟨b, o, none⟩) n c l ((p + 1 : Nat) : Int) true W hW hc)
   rw [show ((45 : Nat) == 45) = true from rfl]
   obtain ⟨⟨E, N, xs⟩, hr⟩ : ∃ t, row l ((p + 1 : Nat) : Int) true = t := ⟨_, rfl⟩
   have HE := Lib.hid (row_end l (p + 1) true (by rw [HL.out]; exact hlt))
   rw [hr] at HQ HE ⊢
   clear hr HF
   have hE : p + 1 + N ≤ n := by have := HE.out; rw [HL.out] at this; exact this
   go_enter Tryz.func182, Tryz.ntmps182
   go_wp2_with fail
   refine (HQ.out _ HR.out).mono ?_
   rintro e w1 ⟨A1, c1, rfl, hc1, hr1, hb1, hf1⟩
   simp only at hc1 hr1 hf1 ⊢
   have HR1 := Lib.hid hr1
   have HB1 := Lib.hid hb1
   clear hr1 hb1
   go_wp2
   go_ret3
   exact ⟨A1, c1, by simp, hc1, HR1.out, HB1.out, hf1⟩
  ·have HF := Lib.hid (HN.out (by exact hxm))
   have h1 : (x != 45) = true := by simp [hxm]
   clear hxm HN HY
   rw [HF.out]
   go_enter Tryz.func182, Tryz.ntmps182
   go_wp2
   go_ret3
   exact ⟨none, 0, rfl, Nat.le_refl _, SRow.none_ _ _, Below.refl _ _, Fresh.none_ _ _⟩

theorem readRow_build (A : Option Addr) (n c : Nat) (l : List UInt8) (p : Nat) (w : World) (h : Row w A n l) (hc : n ≤ c) (hp : p ≤ n) :
  Calls Tryz.prog 182 #[.slice A n c, .int .i64 p, .int .u8 43] w (RowPostF w (rowAt l p 43)) := by
 have hm := h.2.1
 unfold maxLen at hm
 have HR := Lib.hid h
 have HL := Lib.hid h.1
 have HC := Lib.hid h.2.2
 clear h
 by_cases h0 : p = n
 ·have HF := Lib.hid (rowAt_none (l := l) (p := p) (m := 43) (.inl (by rw [HL.out]; exact h0)))
  subst h0
  have hb : ((p : Int) == (p : Int)) = true := by simp
  rw [HF.out]
  go_enter Tryz.func182, Tryz.ntmps182
  go_wp2
  go_ret3
  exact ⟨none, 0, rfl, Nat.le_refl _, SRow.none_ _ _, Below.refl _ _, Fresh.none_ _ _⟩
 ·have hlt : p < n := by omega
  have hb : ((p : Int) == (n : Int)) = false := by simp; omega
  have H0 : Hid (p ≠ l.length) := by unfold Hid; rw [HL.out]; exact h0
  obtain ⟨b, o, rfl, hbl, hcell⟩ := HC.out (by omega)
  have hx := hcell p hlt
  clear hcell HC h0
  have hbd := byteAt_bd l p
  have HN := Lib.hid (fun h => rowAt_none (l := l) (p := p) (m := 43) (.inr h))
  have HY := Lib.hid (fun h => rowAt_some (l := l) (p := p) (m := 43) H0.out h)
  generalize byteAt l p = x at hx hbd HN HY
  by_cases hxm : x = 43
  ·have HF := Lib.hid (HY.out (by exact hxm))
   have h1 : (x != 43) = false := by simp [hxm]
   clear hxm HN HY
   rw [HF.out]
   have HQ := Lib.hid (fun W hW => row_anyF (some ⟨b, o, none⟩) n c l ((p + 1 : Nat) : Int) false W hW hc)
   rw [show ((43 : Nat) == 45) = false from rfl]
   obtain ⟨⟨E, N, xs⟩, hr⟩ : ∃ t, row l ((p + 1 : Nat) : Int) false = t := ⟨_, rfl⟩
   have HE := Lib.hid (row_end l (p + 1) false (by rw [HL.out]; exact hlt))
   rw [hr] at HQ HE ⊢
   clear hr HF
   have hE : p + 1 + N ≤ n := by have := HE.out; rw [HL.out] at this; exact this
   go_enter Tryz.func182, Tryz.ntmps182
   go_wp2_with fail
   refine (HQ.out _ HR.out).mono ?_
   rintro e w1 ⟨A1, c1, rfl, hc1, hr1, hb1, hf1⟩
   simp only at hc1 hr1 hf1 ⊢
   have HR1 := Lib.hid hr1
   have HB1 := Lib.hid hb1
   clear hr1 hb1
   go_wp2
   go_ret3
   exact ⟨A1, c1, by simp, hc1, HR1.out, HB1.out, hf1⟩
  ·have HF := Lib.hid (HN.out (by exact hxm))
   have h1 : (x != 43) = true := by simp [hxm]
   clear hxm HN HY
   rw [HF.out]
   go_enter Tryz.func182, Tryz.ntmps182
   go_wp2
   go_ret3
   exact ⟨none, 0, rfl, Nat.le_refl _, SRow.none_ _ _, Below.refl _ _, Fresh.none_ _ _⟩

def VerPostF (w : World) (r : Out) (e : Ending) (w' : World) : Prop :=
 ∃ A c B d, e = .returned (.tuple #[.agg #[.int .u64 (r.2.2.a : Int), .int .u64 (r.2.2.b : Int), .int .u64 (r.2.2.c : Int), .slice A r.2.2.pre.length c, .slice B r.2.2.build.length d], .int .i64 (r.2.1 : Int), .int .i64 (r.1 : Int)]) ∧
  r.2.2.pre.length ≤ c ∧ r.2.2.build.length ≤ d ∧ SRow w' A r.2.2.pre.length r.2.2.pre ∧ SRow w' B r.2.2.build.length r.2.2.build ∧ Below w.heap.size w w' ∧ Fresh w.heap.size A r.2.2.pre.length ∧ Fresh w.heap.size B r.2.2.build.length
theorem VerPostF.bad {w w' : World} {q f : Nat} (hb : Below w.heap.size w w') : VerPostF w (f, q, noVer) (.returned (.tuple #[.agg #[.int .u64 0, .int .u64 0, .int .u64 0, .slice none 0 0, .slice none 0 0], .int .i64 (q : Int), .int .i64 (f : Int)])) w' :=
 ⟨none, 0, none, 0, rfl, Nat.le_refl _, Nat.le_refl _, SRow.none_ _ _, SRow.none_ _ _, hb, Fresh.none_ _ _, Fresh.none_ _ _⟩

theorem parse_out (A : Option Addr) (n c : Nat) (l : List UInt8) (p : Int) (w : World) (h : Row w A n l) (ho : p < 0 ∨ (n : Int) < p) :
  Calls Tryz.prog 171 #[.slice A n c, .int .i64 p] w (VerPostF w (vparse l p)) := by
 have HE : Hid (vparse l p = (1, 0, noVer)) := by
  unfold Hid vparse; rw [if_pos (by rw [h.1]; exact ho)]
 rw [HE.out]
 clear h HE
 by_cases h0 : p < 0
 ·go_enter Tryz.func171, Tryz.ntmps171
  go_wp2
  exact bodyPost_ret (v := .tuple #[.agg #[.int .u64 0, .int .u64 0, .int .u64 0, .slice none 0 0, .slice none 0 0], .int .i64 0, .int .i64 1]) (by simp [results, Tryz.results171, go_sem]) rfl (VerPostF.bad (q := 0) (f := 1) ((Below.refl _ _).alloc (Nat.le_refl _) _))
 ·have h1 : (n : Int) < p := by omega
  clear ho
  go_enter Tryz.func171, Tryz.ntmps171
  go_wp2
  exact bodyPost_ret (v := .tuple #[.agg #[.int .u64 0, .int .u64 0, .int .u64 0, .slice none 0 0, .slice none 0 0], .int .i64 0, .int .i64 1]) (by simp [results, Tryz.results171, go_sem]) rfl (VerPostF.bad (q := 0) (f := 1) ((Below.refl _ _).alloc (Nat.le_refl _) _))

theorem parse_in (A : Option Addr) (n c : Nat) (l : List UInt8) (p : Nat) (w : World) (h : Row w A n l) (hc : n ≤ c) (hp : p ≤ n) :
  Calls Tryz.prog 171 #[.slice A n c, .int .i64 p] w (VerPostF w (vparse l p)) := by
 have hm := h.2.1
 unfold maxLen at hm
 have HR := Lib.hid h
 have HL := Lib.hid h.1
 have HE : Hid (vparse l p = inside l p) := by
  unfold Hid vparse; rw [if_neg (by rw [h.1]; omega), Int.toNat_natCast]
 rw [HE.out]
 clear h HE
 have hp0 : ¬ (p : Int) < 0 := by omega
 have hp1 : ¬ n < p := by omega
 have HB0 : Hid (Below w.heap.size w (w.alloc (.cells #[.int .u64 0, .int .u64 0, .int .u64 0, .slice none 0 0, .slice none 0 0] 25))) := (Below.refl _ _).alloc (Nat.le_refl _) _
 obtain ⟨⟨f, q, x, y, z⟩, hk⟩ : ∃ t, core l p = t := ⟨_, rfl⟩
 have HQ := Lib.hid (core_end l p (by rw [HL.out]; exact hp))
 have HI : Hid (inside l p = if f ≠ 0 then (f, q, noVer) else tail1 l x y z q) := by unfold Hid inside; rw [hk]
 have HO : Hid (coreOut (core l p) = .tuple #[.agg #[.int .u64 (x : Int), .int .u64 (y : Int), .int .u64 (z : Int)], .int .i64 (q : Int), .int .i64 (f : Int)]) := by unfold Hid; rw [hk]; rfl
 rw [hk] at HQ
 have hq : q ≤ n := by have := HQ.out; rw [HL.out] at this; exact this
 clear hk HQ
 go_enter Tryz.func171, Tryz.ntmps171
 go_wp2_with fail
 refine (readCore_any _ _ _ l p _ (HR.out.kept HB0.out) hc hp).mono ?_
 rw [HO.out]
 rintro e w1 ⟨rfl, hb1⟩
 have hz1 : w.heap.size + 1 ≤ w1.heap.size := by have := hb1.size; simpa using this
 have HV1 : Hid (At5 w1 w.heap.size (.int .u64 0) (.int .u64 0) (.int .u64 0) (.slice none 0 0) (.slice none 0 0)) := (At5.new w 25 _ _ _ _ _).kept hb1 (by simp)
 have HC1 : Hid (At3 (w1.alloc (.cells #[.int .u64 (x : Int), .int .u64 (y : Int), .int .u64 (z : Int)] 99)) w1.heap.size (.int .u64 (x : Int)) (.int .u64 (y : Int)) (.int .u64 (z : Int))) := At3.new w1 99 _ _ _
 have HB1w : Hid (Below w.heap.size w w1) := HB0.out.trans (hb1.mono (by simp))
 have HB1 : Hid (Below w.heap.size w (w1.alloc (.cells #[.int .u64 (x : Int), .int .u64 (y : Int), .int .u64 (z : Int)] 99))) := (HB0.out.trans (hb1.mono (by simp))).alloc (by omega) _
 clear hb1
 by_cases h0 : f = 0
 ·subst h0
  have HI2 : Hid (inside l p = tail1 l x y z q) := HI.out.trans (if_neg (by simp))
  clear HI
  have HP2 := Lib.hid (fun W hW => readRow_pre A n c l q W hW hc hq)
  have HQ := Lib.hid (rowAt_end l q 45 (by rw [HL.out]; exact hq))
  have HT : Hid (tail1 l x y z q = if (rowAt l q 45).1 ≠ 0 then ((rowAt l q 45).1, (rowAt l q 45).2.1, noVer) else tail2 l x y z (rowAt l q 45).2.2 (rowAt l q 45).2.1) := rfl
  obtain ⟨⟨f, q2, xs⟩, hr⟩ : ∃ t, rowAt l q 45 = t := ⟨_, rfl⟩
  rw [hr] at HP2 HQ HT
  clear hr
  have hq2 : q2 ≤ n := by have := HQ.out; rw [HL.out] at this; exact this
  go_wp2_with fail
  refine (HP2.out _ (HR.out.kept HB1.out)).mono ?_
  rintro e w2 ⟨A2, c2, rfl, hc2, hr2, hb2, hf2⟩
  simp only at hc2 hr2 hf2 ⊢
  replace hf2 := hf2.mono (B' := w.heap.size) (by simp; omega)
  have hz2 : w1.heap.size + 1 ≤ w2.heap.size := by have := hb2.size; simpa using this
  have HB2 := Lib.hid (HB1.out.trans (hb2.mono (by simp; omega)))
  have HV2 : Hid (At5 w2 w.heap.size (.int .u64 0) (.int .u64 0) (.int .u64 0) (.slice none 0 0) (.slice none 0 0)) := (HV1.out.kept ((Below.refl _ _).alloc (Nat.le_refl _) _) (by omega)).kept hb2 (by simp; omega)
  have HC2 := Lib.hid (HC1.out.kept hb2 (by simp))
  have HR2 := Lib.hid hr2
  clear hb2 hr2 HV1 HC1
  by_cases h0 : f = 0
  ·subst h0
   have HI3 : Hid (inside l p = tail2 l x y z xs q2) := HI2.out.trans (HT.out.trans (if_neg (by simp)))
   clear HT HI2
   have HP3 := Lib.hid (fun W hW => readRow_build A n c l q2 W hW hc hq2)
   have HQ3 := Lib.hid (rowAt_end l q2 43 (by rw [HL.out]; exact hq2))
   have HT : Hid (tail2 l x y z xs q2 = if (rowAt l q2 43).1 ≠ 0 then ((rowAt l q2 43).1, (rowAt l q2 43).2.1, noVer) else (0, (rowAt l q2 43).2.1, ⟨x, y, z, xs, (rowAt l q2 43).2.2⟩)) := rfl
   obtain ⟨⟨f, q3, ys⟩, hr⟩ : ∃ t, rowAt l q2 43 = t := ⟨_, rfl⟩
   rw [hr] at HP3 HQ3 HT
   clear hr
   go_wp2_with fail
   refine (HP3.out _ (HR.out.kept HB2.out)).mono ?_
   rintro e w3 ⟨A3, c3, rfl, hc3, hr3, hb3, hf3⟩
   simp only at hc3 hr3 hf3 ⊢
   replace hf3 := hf3.mono (B' := w.heap.size) (by omega)
   have hz3 : w2.heap.size ≤ w3.heap.size := hb3.size
   have HB3 := Lib.hid (HB2.out.trans (hb3.mono (by omega)))
   have HV3 := Lib.hid (HV2.out.kept hb3 (by omega))
   have HC3 := Lib.hid (HC2.out.kept hb3 (by omega))
   have HR3 := Lib.hid hr3
   have HR2' := Lib.hid (HR2.out.kept hb3)
   clear hb3 hr3 HV2 HC2
   by_cases h0 : f = 0
   ·subst h0
    have HI4 : Hid (inside l p = (0, q3, ⟨x, y, z, xs, ys⟩)) := HI3.out.trans (HT.out.trans (if_neg (by simp)))
    clear HT HI3
    obtain ⟨hvl, hvf, hv0, hv1, hv2, hv3, hv4⟩ := HV3.out
    obtain ⟨hcl, hcf, hk0, hk1, hk2⟩ := HC3.out
    have HA := Lib.hid (HR2'.out.set5 hv0 hv1 hv2 hv3 hv4 (by simp) (by simp) (by simp) (by simp) (by simp) (.int .u64 (x : Int)) (.int .u64 (y : Int)) (.int .u64 (z : Int)) (.slice A2 xs.length c2) (.slice A3 ys.length c3))
    have HB := Lib.hid (HR3.out.set5 hv0 hv1 hv2 hv3 hv4 (by simp) (by simp) (by simp) (by simp) (by simp) (.int .u64 (x : Int)) (.int .u64 (y : Int)) (.int .u64 (z : Int)) (.slice A2 xs.length c2) (.slice A3 ys.length c3))
    go_wp2
    exact bodyPost_ret (v := .tuple #[.agg #[.int .u64 (x : Int), .int .u64 (y : Int), .int .u64 (z : Int), .slice A2 xs.length c2, .slice A3 ys.length c3], .int .i64 (q3 : Int), .int .i64 0]) (by simp [results, Tryz.results171, go_sem, hv0, hv1, hv2, hv3, hv4]) rfl (by rw [HI4.out]; exact ⟨A2, c2, A3, c3, rfl, hc2, hc3, HA.out, HB.out, (((((HB3.out.setCell (by simp) _).setCell (by simp) _).setCell (by simp) _).setCell (by simp) _).setCell (by simp) _), hf2, hf3⟩)
   ·have HI4 : Hid (inside l p = (f, q3, noVer)) := HI3.out.trans (HT.out.trans (if_pos h0))
    clear HT HI3
    have hb1 : ((f : Int) != 0) = true := by simp [h0]
    have hb2 : ((f : Int) == 0) = false := by simp [h0]
    clear h0
    obtain ⟨hvl, hvf, hv0, hv1, hv2, hv3, hv4⟩ := HV3.out
    have hne := Nat.ne_of_lt hvl
    go_wp2
    exact bodyPost_ret (v := .tuple #[.agg #[.int .u64 0, .int .u64 0, .int .u64 0, .slice none 0 0, .slice none 0 0], .int .i64 (q3 : Int), .int .i64 (f : Int)]) (by simp [results, Tryz.results171, go_sem, hv0, hv1, hv2, hv3, hv4]) rfl (by rw [HI4.out]; exact VerPostF.bad (((((HB3.out.setCell (by simp) _).setCell (by simp) _).setCell (by simp) _).setCell (by simp) _).setCell (by simp) _))
  ·have HI3 : Hid (inside l p = (f, q2, noVer)) := HI2.out.trans (HT.out.trans (if_pos h0))
   clear HT HI2
   have hb1 : ((f : Int) != 0) = true := by simp [h0]
   have hb2 : ((f : Int) == 0) = false := by simp [h0]
   clear h0
   obtain ⟨hvl, hvf, hv0, hv1, hv2, hv3, hv4⟩ := HV2.out
   have hne := Nat.ne_of_lt hvl
   go_wp2
   exact bodyPost_ret (v := .tuple #[.agg #[.int .u64 0, .int .u64 0, .int .u64 0, .slice none 0 0, .slice none 0 0], .int .i64 (q2 : Int), .int .i64 (f : Int)]) (by simp [results, Tryz.results171, go_sem, hv0, hv1, hv2, hv3, hv4]) rfl (by rw [HI3.out]; exact VerPostF.bad (((((HB2.out.setCell (by simp) _).setCell (by simp) _).setCell (by simp) _).setCell (by simp) _).setCell (by simp) _))
 ·have HI2 : Hid (inside l p = (f, q, noVer)) := HI.out.trans (if_pos h0)
  clear HI
  have hb1 : ((f : Int) != 0) = true := by simp [h0]
  have hb2 : ((f : Int) == 0) = false := by simp [h0]
  clear h0
  obtain ⟨hvl, hvf, hv0, hv1, hv2, hv3, hv4⟩ := HV1.out
  have hne := Nat.ne_of_lt hvl
  go_wp2
  exact bodyPost_ret (v := .tuple #[.agg #[.int .u64 0, .int .u64 0, .int .u64 0, .slice none 0 0, .slice none 0 0], .int .i64 (q : Int), .int .i64 (f : Int)]) (by simp [results, Tryz.results171, go_sem, hv0, hv1, hv2, hv3, hv4, hvl]) rfl (by rw [HI2.out]; exact VerPostF.bad ((((((HB1w.out.setCell (by simp) _).setCell (by simp) _).setCell (by simp) _).setCell (by simp) _).setCell (by simp) _).alloc (by simp; omega) _))

theorem parse_anyF (A : Option Addr) (n c : Nat) (l : List UInt8) (p : Int) (w : World) (h : Row w A n l) (hc : n ≤ c) :
  Calls Tryz.prog 171 #[.slice A n c, .int .i64 p] w (VerPostF w (vparse l p)) := by
 by_cases ho : p < 0 ∨ (n : Int) < p
 ·exact parse_out A n c l p w h ho
 ·obtain ⟨k, rfl⟩ := Int.eq_ofNat_of_zero_le (show 0 ≤ p by omega)
  exact parse_in A n c l k w h hc (by omega)

end Go.Proofs.YtgfbflnhjpbceaaGreatDoor.Semver
namespace Go.Proofs.YtgfbflnhjpbceaaGreatDoor.Semver
open Go.RowKit

theorem run_eq3 (n0 n1 n2 m0 m1 m2 : Int) (w : World) :
  (Op.equalIn 10000 99 (.agg #[.int .u64 n0, .int .u64 n1, .int .u64 n2]) (.agg #[.int .u64 m0, .int .u64 m1, .int .u64 m2])).run Tryz.prog w = .ok (n0 == m0 && (n1 == m1 && n2 == m2)) w := by
 obtain ⟨i, hi⟩ := Option.isSome_iff_exists.1 (show (Tryz.prog.info? 22).isSome = true by kernel_rfl)
 have hc : Tryz.prog.cellsOf 22 = 1 := by kernel_rfl
 have hp : Tryz.prog.plainKey 22 = true := by kernel_rfl
 have q0 := run_part_plain (P := Tryz.prog) w hp (xs := #[.int .u64 n0, .int .u64 n1, .int .u64 n2]) (off := 0) rfl
 have q1 := run_part_plain (P := Tryz.prog) w hp (xs := #[.int .u64 n0, .int .u64 n1, .int .u64 n2]) (off := 1) rfl
 have q2 := run_part_plain (P := Tryz.prog) w hp (xs := #[.int .u64 n0, .int .u64 n1, .int .u64 n2]) (off := 2) rfl
 have p0 := run_part_plain (P := Tryz.prog) w hp (xs := #[.int .u64 m0, .int .u64 m1, .int .u64 m2]) (off := 0) rfl
 have p1 := run_part_plain (P := Tryz.prog) w hp (xs := #[.int .u64 m0, .int .u64 m1, .int .u64 m2]) (off := 1) rfl
 have p2 := run_part_plain (P := Tryz.prog) w hp (xs := #[.int .u64 m0, .int .u64 m1, .int .u64 m2]) (off := 2) rfl
 have e := fun a b : Int => run_equalIn_int (P := Tryz.prog) w 9998 22 .u64 .u64 a b Tryz.underlying22
 rw [run_equalIn_array w 9999 _ _ Tryz.underlying99 hi, hc, show List.range 3 = [0, 1, 2] from rfl]
 simp only [Op.eqItems, Sem.run_bind, Nat.mul_one, q0, p0, Result.andThen_ok]
 cases h0 : n0 == m0 <;> cases h1 : n1 == m1 <;> cases h2 : n2 == m2 <;> simp [q1, q2, p1, p2, e, h0, h1, h2]
end Go.Proofs.YtgfbflnhjpbceaaGreatDoor.Semver
