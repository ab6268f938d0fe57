/-
  The row of identifiers that stands at a place of any bytes, how many bytes it has, or what is wrong (ident.Row). Condition: the slice reads as the list of bytes l.
-/
import Derived.Test.YtolkcblkciafiaaDoorIdMem
import Derived.Test.YtolkcblkciafiaaDoorIdWalks
namespace Go.Proofs.YtolkcblkciafiaaDoor.Ident
open Go.RowKit Num

/-- The slice lies in a block from B on, if there is something in it. -/
def Fresh (B : Nat) (A : Option Addr) (n : Nat) : Prop := 0 < n → ∃ b o, A = some ⟨b, o, none⟩ ∧ B ≤ b
theorem Fresh.none_ (B : Nat) (A : Option Addr) : Fresh B A 0 := fun h => absurd h (Nat.lt_irrefl _)
theorem Fresh.mono {B B' : Nat} {A : Option Addr} {n : Nat} (h : Fresh B A n) (hB : B' ≤ B) : Fresh B' A n := fun h0 => by
  obtain ⟨b, o, e, hb⟩ := h h0
  exact ⟨b, o, e, Nat.le_trans hB hb⟩
theorem Fresh.of_own {w : World} {base : Nat} {e : TypeId} {k : Nat} {A : Option Addr} {n c : Nat} {xs : List Value} (h : w.ownsRow base e k (.slice A n c) n xs) : Fresh base A n := fun h0 => by
  rcases h.2 with ⟨_, h1⟩ | ⟨g, cap, cur, hv, hg, _⟩
  · omega
  · injection hv with hv _ _
    exact ⟨g, 0, hv, hg⟩
/-- What Row leaves: the row's slice, how many bytes, the error's number. -/
def RowPost (w : World) (r : Res) (e : Ending) (w' : World) : Prop :=
  ∃ A c, e = .returned (.tuple #[.slice A r.2.2.length c, .int .i64 (r.2.1 : Int), .int .i64 (r.1 : Int)]) ∧ r.2.2.length ≤ c ∧ SRow w' A r.2.2.length r.2.2 ∧ Below w.heap.size w w'
/-- The same, and that the row's block is new. -/
def RowPostF (w : World) (r : Res) (e : Ending) (w' : World) : Prop :=
  ∃ A c, e = .returned (.tuple #[.slice A r.2.2.length c, .int .i64 (r.2.1 : Int), .int .i64 (r.1 : Int)]) ∧ r.2.2.length ≤ c ∧ SRow w' A r.2.2.length r.2.2 ∧ Below w.heap.size w w' ∧ Fresh w.heap.size A r.2.2.length
theorem RowPostF.drop {w w' : World} {r : Res} {e : Ending} (h : RowPostF w r e w') : RowPost w r e w' := by
  obtain ⟨A, c, h1, h2, h3, h4, _⟩ := h
  exact ⟨A, c, h1, h2, h3, h4⟩
theorem RowPostF.bad {w w' : World} {f : Nat} (hb : Below w.heap.size w w') : RowPostF w (f, 0, []) (.returned (.tuple #[.slice none 0 0, .int .i64 0, .int .i64 (f : Int)])) w' :=
  ⟨none, 0, rfl, Nat.le_refl _, SRow.none_ _ _, hb, Fresh.none_ _ _⟩

set_option maxRecDepth 100000 in
set_option maxHeartbeats 400000 in
theorem row_out (A : Option Addr) (n c : Nat) (l : List UInt8) (p : Int) (pre : Bool) (w : World) (h : Row w A n l) (ho : p < 0 ∨ (n : Int) < p) :
    Calls Tryd.prog 81 #[.slice A n c, .int .i64 p, .bool pre] w (RowPostF w (row l p pre)) := by
  have HE : Hid (row l p pre = (1, 0, [])) := by
    unfold Hid row; rw [if_pos (by rw [h.1]; exact ho)]
  rw [HE.out]
  clear h HE
  by_cases h0 : p < 0
  · go_enter Tryd.func81, Tryd.ntmps81
    go_wp2
    refine wp_scope_back 0 (fun _ _ => False) (fun _ _ => 0) rfl (fun _ _ hF => hF.elim) ?_
    intro _
    go_wp2
    simp only [Exit.jump]
    go_ret3
    exact RowPostF.bad (f := 1) (Below.refl _ _)
  · have h1 : (n : Int) < p := by omega
    clear ho
    go_enter Tryd.func81, Tryd.ntmps81
    go_wp2
    refine wp_scope_back 0 (fun _ _ => False) (fun _ _ => 0) rfl (fun _ _ hF => hF.elim) ?_
    intro _
    go_wp2
    simp only [Exit.jump]
    go_ret3
    exact RowPostF.bad (f := 1) (Below.refl _ _)

theorem go_step_bad {pre : Bool} {l s : List UInt8} {acc : List (List UInt8)} {k m : Nat} (hM : lead (l.drop k) = m) (hs : (l.drop k).take m = s) (hf : fault s acc.length pre ≠ 0) : go pre (l.drop k) [] acc k = (fault s acc.length pre, 0, []) := by
  subst hM; subst hs; exact go_stop pre _ acc k hf
theorem lead_end (l : List UInt8) (h : lead l < l.length) : isId (l.getD (lead l) 0) = false := by
  induction l with
  | nil => simp at h
  | cons b r ih =>
    by_cases hb : isId b = true
    · rw [lead, if_pos hb] at h ⊢
      simpa using ih (by simpa using h)
    · rw [lead, if_neg hb]; simpa using hb
theorem go_step_point {pre : Bool} {l s : List UInt8} {acc : List (List UInt8)} {k m : Nat} (hM : lead (l.drop k) = m) (hs : (l.drop k).take m = s) (hf : fault s acc.length pre = 0) (hlt : k + m < l.length) (hx : byteAt l (k + m) = 46) :
    go pre (l.drop k) [] acc k = go pre (l.drop (k + m + 1)) [] (acc ++ [s]) (k + m + 1) := by
  rw [go_lead, hM, hs, List.nil_append, List.drop_drop, drop_getD l (k + m) hlt]
  exact go_point (by unfold byteAt at hx; omega) hf
theorem go_step_end {pre : Bool} {l s : List UInt8} {acc : List (List UInt8)} {k m : Nat} (hM : lead (l.drop k) = m) (hs : (l.drop k).take m = s) (hf : fault s acc.length pre = 0) (h : l.length ≤ k + m ∨ byteAt l (k + m) ≠ 46) :
    go pre (l.drop k) [] acc k = (0, k + m, acc ++ [s]) := by
  have e : shut pre s acc (k + m) = (0, k + m, acc ++ [s]) := by unfold shut; rw [if_pos hf]
  rw [go_lead, hM, hs, List.nil_append, List.drop_drop]
  rcases Nat.lt_or_ge (k + m) l.length with hlt | hge
  · rw [drop_getD l (k + m) hlt, go_else ?_ ?_, e]
    · have h1 := lead_end (l.drop k) (by rw [hM, List.length_drop]; omega)
      rw [hM] at h1
      simpa [List.getD] using h1
    · rcases h with h | h
      · omega
      · unfold byteAt at h; omega
  · rw [List.drop_eq_nil_of_le hge, go, e]
theorem RowPostF.good {w w' : World} {n : Nat} {xs : List (List UInt8)} (hb : Below w.heap.size w w') {A : Option Addr} {c : Nat} (hc : xs.length ≤ c) (hr : SRow w' A xs.length xs) (hf : Fresh w.heap.size A xs.length) :
    RowPostF w (0, n, xs) (.returned (.tuple #[.slice A xs.length c, .int .i64 (n : Int), .int .i64 0])) w' :=
  ⟨A, c, rfl, hc, hr, hb, hf⟩

def RowJ (w : World) (A : Option Addr) (n c p : Nat) (pre : Bool) (R : Option Addr) (N C : Nat) (l : List UInt8) (a' : Act) (w' : World) : Prop :=
  ∃ (acc : List (List UInt8)) (k : Nat) (v : Value) (u10 u11 u12 u13 u14 u15 u16 u17 u18 u19 u20 u21 u22 u23 u24 u25 u26 u27 u28 u29 u30 u31 u32 u33 u34 u35 u36 u37 u38 u39 u40 u41 u42 u43 u44 u45 u46 u47 u48 u49 u50 u51 u52 u53 u54 u55 u56 u57 u58 u59 u60 u61 u62 : Value), Below w.heap.size w w' ∧ w'.ownsRow w.heap.size 9 1 v acc.length (strs acc) ∧ acc.length ≤ 16 ∧ k ≤ N ∧ go pre (l.drop k) [] acc k = go pre l [] [] 0 ∧
    a' = { tmps := #[.slice A n c, .int .i64 p, .bool pre, undef, undef, undef, v, .int .i64 k, .int .i64 0, .slice R N C, u10, u11, u12, u13, u14, u15, u16, u17, u18, u19, u20, u21, u22, u23, u24, u25, u26, u27, u28, u29, u30, u31, u32, u33, u34, u35, u36, u37, u38, u39, u40, u41, u42, u43, u44, u45, u46, u47, u48, u49, u50, u51, u52, u53, u54, u55, u56, u57, u58, u59, u60, u61, u62], defers := [] }
def RowM (N : Nat) (a' : Act) (_ : World) : Nat := N - (intOf (a'.tmps.getD 7 undef)).toNat

set_option maxRecDepth 100000 in
set_option maxHeartbeats 1600000 in
theorem row_in (A : Option Addr) (n c : Nat) (l0 : List UInt8) (p : Nat) (pre : Bool) (w : World) (h : Row w A n l0) (hc : n ≤ c) (hp : p ≤ n) :
    Calls Tryd.prog 81 #[.slice A n c, .int .i64 p, .bool pre] w (RowPostF w (row l0 p pre)) := by
  have hm := h.2.1
  unfold maxLen at hm
  have hp0 : ¬ (p : Int) < 0 := by omega
  have hp1 : ¬ n < p := by omega
  obtain ⟨R, hR⟩ : ∃ R, (if c = p then A else A.map (fun x => x.add p)) = R := ⟨_, rfl⟩
  obtain ⟨l, hl⟩ : ∃ l, l0.drop p = l := ⟨_, rfl⟩
  have HE : Hid (row l0 p pre = go pre l [] [] 0) := by
    unfold Hid row; rw [if_neg (by rw [h.1]; omega), Int.toNat_natCast, hl]
  have R1 : Row w R (n - p) l := hl ▸ Row.from_ h p c hp hc hR
  rw [HE.out]
  clear h HE hl
  obtain ⟨N, hN⟩ : ∃ N, n - p = N := ⟨_, rfl⟩
  obtain ⟨C, hC⟩ : ∃ C, c - p = C := ⟨_, rfl⟩
  have hNC : N ≤ C := by omega
  have hNm : N ≤ 9223372036854775807 := by omega
  rw [hN] at R1
  have HR1 := Lib.hid R1
  have HLen := Lib.hid R1.1
  clear R1
  go_enter Tryd.func81, Tryd.ntmps81
  go_wp2
  refine wp_scope_back 0 (RowJ w A n c p pre R N C l) (RowM N) rfl ?_ ?_
  · rintro a' w1 ⟨acc, k, v, u10, u11, u12, u13, u14, u15, u16, u17, u18, u19, u20, u21, u22, u23, u24, u25, u26, u27, u28, u29, u30, u31, u32, u33, u34, u35, u36, u37, u38, u39, u40, u41, u42, u43, u44, u45, u46, u47, u48, u49, u50, u51, u52, u53, u54, u55, u56, u57, u58, u59, u60, u61, u62, hb1, hown, hacc, hk, hgo, rfl⟩
    have HRW := Lib.hid (HR1.out.kept hb1)
    obtain ⟨VA, VC, rfl, hvc, _⟩ := SRow.of_own hown
    clear hR hN hC
    obtain ⟨m, hM⟩ : ∃ m, lead (l.drop k) = m := ⟨_, rfl⟩
    have hkm : k + m ≤ N := by have := lead_le (l.drop k); rw [hM, List.length_drop, HLen.out] at this; omega
    obtain ⟨S, hS⟩ : ∃ S, (if C = k then R else R.map (fun x => x.add k)) = S := ⟨_, rfl⟩
    have RA := Row.from_ HRW.out k C hk hNC hS
    have RB := Row.part_ HRW.out k m C hkm hNC hS
    obtain ⟨s, hs⟩ : ∃ s, (l.drop k).take m = s := ⟨_, rfl⟩
    rw [hs] at RB
    have hsl := RB.1
    have htx := run_text RB (C - k)
    have HA := Lib.hid RA
    have HM := Lib.hid hM
    have HSl := Lib.hid hsl
    have HSS := Lib.hid hs
    have HB1 := Lib.hid hb1
    have HO := Lib.hid hown
    have HG := Lib.hid hgo
    clear RA RB hM hsl hs hb1 hown hgo
    have hz1 := HB1.out.size
    go_wp2_with fail
    refine (length_any _ _ _ _ _ HA.out).mono ?_
    rintro e w' ⟨rfl, rfl⟩
    rw [HM.out]
    go_wp2_with fail
    refine (fault_any (mk s) acc.length pre _ (by rw [mk_size, HSl.out]; unfold maxLen; omega) (by unfold maxLen; omega)).mono ?_
    rintro e w2 ⟨rfl, hb2⟩
    rw [mk_list]
    have HBD := Lib.hid (go_step_bad (pre := pre) (acc := acc) HM.out HSS.out)
    have HPT := Lib.hid (fun hf => go_step_point (pre := pre) (acc := acc) HM.out HSS.out hf)
    have HEN := Lib.hid (fun hf => go_step_end (pre := pre) (acc := acc) HM.out HSS.out hf)
    have HPL0 : Hid (fault s acc.length pre = 0 → acc.length + 1 ≤ 16) := fun h => (fault_pos h).2.2
    obtain ⟨f, hf⟩ : ∃ f, fault s acc.length pre = f := ⟨_, rfl⟩
    rw [hf] at HBD HPT HEN HPL0 ⊢
    clear hf
    by_cases hf0 : f = 0
    · subst hf0
      have HPL := Lib.hid (HPL0.out rfl)
      have HPT2 := Lib.hid (HPT.out rfl)
      have HEN2 := Lib.hid (HEN.out rfl)
      clear HBD HPT HEN
      have hz2 := hb2.size
      have HO2 : Hid ((w2.alloc (.cells #[.string (mk s)] 9)).ownsRow w.heap.size 9 1 (.slice VA acc.length VC) acc.length (strs acc)) := (own_below HO.out hb2).alloc _
      have HB2 := Lib.hid ((HB1.out.trans (hb2.mono hz1)).alloc (Nat.le_trans hz1 hz2) (.cells #[.string (mk s)] 9))
      have hms : (mk s).size = m := HSl.out
      have hacc2 : acc.length + 1 ≤ 16 := HPL.out
      clear hS htx
      by_cases hlt : k + m < N
      · obtain ⟨b, o, rfl, hb, hcell⟩ := HR1.out.2.2 (by omega)
        have HX := Lib.hid (hcell (k + m) hlt)
        have hbd := byteAt_bd l (k + m)
        clear hcell
        have HPT3 := Lib.hid (fun h => HPT2.out (by rw [HLen.out]; exact hlt) h)
        have HEN3 := Lib.hid (fun h => HEN2.out (.inr h))
        clear HPT2 HEN2 HRW
        generalize byteAt l (k + m) = x at HX hbd HPT3 HEN3
        by_cases h46 : x = 46
        · subst h46
          have HPT4 := Lib.hid (HPT3.out rfl)
          clear HPT3 HEN3
          go_wp2_with (first
            | (at_builtin; refine wpList_append_strs _ rfl _ _ rfl w.heap.size _ acc.length acc rfl HO2.out (some ⟨w2.heap.size, 0, none⟩) 1 1 [s] rfl (SRow.one w2 s) (fun h => by cases h) (by omega) (by simp; omega) ?_; intro v3 w3 ho3 hb3; obtain ⟨VA3, VC3, rfl, hvc3, hr3⟩ := SRow.of_own ho3; have HB3 := Lib.hid (HB2.out.trans hb3); have HO3 := Lib.hid ho3; have HR3 := Lib.hid hr3; clear ho3 hb3 hr3; have hx := (HB3.out.cell (p := ⟨b, o + (k + m), none⟩) hb).trans HX.out)
            | fail)
          go_step3
          rw [show ((k : Int) + (m : Int) + 1) = ((k + m + 1 : Nat) : Int) from rfl]
          refine ⟨rfl, ⟨acc ++ [s], k + m + 1, .slice VA3 (acc.length + 1) VC3, _, _, _, _, _, _, _, _, _, _, _, _, _, _, _, _, _, _, _, _, _, _, _, _, _, _, _, _, _, _, _, _, _, _, _, _, _, _, _, _, _, _, _, _, _, _, _, _, _, _, _, _, _, HB3.out, ?_, ?_, by omega, ?_, rfl⟩, ?_⟩
          · rw [List.length_append]; exact HO3.out
          · rw [List.length_append]; exact hacc2
          · rw [← HPT4.out]; exact HG.out
          · simp [RowM, intOf]; omega
        · have HEN4 := Lib.hid (HEN3.out h46)
          have hb46 : (x == 46) = false := by simp [h46]
          clear HPT3 HEN3 h46
          go_wp2_with (first
            | (at_builtin; refine wpList_append_strs _ rfl _ _ rfl w.heap.size _ acc.length acc rfl HO2.out (some ⟨w2.heap.size, 0, none⟩) 1 1 [s] rfl (SRow.one w2 s) (fun h => by cases h) (by omega) (by simp; omega) ?_; intro v3 w3 ho3 hb3; obtain ⟨VA3, VC3, rfl, hvc3, hr3⟩ := SRow.of_own ho3; have HB3 := Lib.hid (HB2.out.trans hb3); have HO3 := Lib.hid ho3; have HR3 := Lib.hid hr3; clear ho3 hb3 hr3; have hx := (HB3.out.cell (p := ⟨b, o + (k + m), none⟩) hb).trans HX.out)
            | fail)
          simp only [Exit.jump]
          go_ret3
          rw [← HG.out, HEN4.out]
          have e1 : (acc ++ [s]).length = acc.length + 1 := by simp
          have := RowPostF.good (n := k + m) HB3.out (A := VA3) (c := VC3) (xs := acc ++ [s]) (by rw [e1]; exact hvc3) (by rw [e1]; exact HR3.out) (by rw [e1]; exact Fresh.of_own HO3.out)
          rw [e1] at this
          exact this
      · have HEN4 := Lib.hid (HEN2.out (.inl (by rw [HLen.out]; omega)))
        clear HPT2 HEN2 HRW
        go_wp2_with (first
          | (at_builtin; refine wpList_append_strs _ rfl _ _ rfl w.heap.size _ acc.length acc rfl HO2.out (some ⟨w2.heap.size, 0, none⟩) 1 1 [s] rfl (SRow.one w2 s) (fun h => by cases h) (by omega) (by simp; omega) ?_; intro v3 w3 ho3 hb3; obtain ⟨VA3, VC3, rfl, hvc3, hr3⟩ := SRow.of_own ho3; have HB3 := Lib.hid (HB2.out.trans hb3); have HO3 := Lib.hid ho3; have HR3 := Lib.hid hr3; clear ho3 hb3 hr3)
          | fail)
        simp only [Exit.jump]
        go_ret3
        rw [← HG.out, HEN4.out]
        have e1 : (acc ++ [s]).length = acc.length + 1 := by simp
        have := RowPostF.good (n := k + m) HB3.out (A := VA3) (c := VC3) (xs := acc ++ [s]) (by rw [e1]; exact hvc3) (by rw [e1]; exact HR3.out) (by rw [e1]; exact Fresh.of_own HO3.out)
        rw [e1] at this
        exact this
    · have HBD2 := Lib.hid (HBD.out hf0)
      have HB2 := Lib.hid (HB1.out.trans (hb2.mono hz1))
      go_wp2
      simp only [Exit.jump]
      go_ret3
      rw [← HG.out, HBD2.out]
      exact RowPostF.bad HB2.out
  · intro HP
    go_wp2
    go_step3
    rename_i hK
    exact hK _ _ (HP.out _ _ ⟨[], 0, .slice none 0 0, _, _, _, _, _, _, _, _, _, _, _, _, _, _, _, _, _, _, _, _, _, _, _, _, _, _, _, _, _, _, _, _, _, _, _, _, _, _, _, _, _, _, _, _, _, _, _, _, _, _, _, _, _, Below.refl _ _, World.ownsRow_nil _ _ _ _, by simp, by omega, rfl, rfl⟩)

theorem row_anyF (A : Option Addr) (n c : Nat) (l : List UInt8) (p : Int) (pre : Bool) (w : World) (h : Row w A n l) (hc : n ≤ c) :
    Calls Tryd.prog 81 #[.slice A n c, .int .i64 p, .bool pre] w (RowPostF w (row l p pre)) := by
  by_cases ho : p < 0 ∨ (n : Int) < p
  · exact row_out A n c l p pre w h ho
  · obtain ⟨k, rfl⟩ := Int.eq_ofNat_of_zero_le (show 0 ≤ p by omega)
    exact row_in A n c l k pre w h hc (by omega)
theorem row_any (A : Option Addr) (n c : Nat) (l : List UInt8) (p : Int) (pre : Bool) (w : World) (h : Row w A n l) (hc : n ≤ c) :
    Calls Tryd.prog 81 #[.slice A n c, .int .i64 p, .bool pre] w (RowPost w (row l p pre)) := (row_anyF A n c l p pre w h hc).mono fun _ _ h => h.drop
end Go.Proofs.YtolkcblkciafiaaDoor.Ident
