/-
  The document's own reader of rows (ferruleref02.Row): what it answers is what the program's does. Condition: the text has at most 600 bytes.
-/
import Derived.Test.YtfimjmikmbkkgaaIdRef
import Derived.Test.YtfimjmikmbkkgaaIdMem
import Derived.WalkSpells
import Derived.Deep.CutBlock
import Derived.Deep.DeepCutAuto
namespace Go.Proofs.Ytfimjmikmbkkgaa.Ident
open Go.RowKit Num

/-- What the document's Row leaves. -/
def RefPost (w : World) (r : Res) (e : Ending) (w' : World) : Prop :=
  ∃ A c, e = .returned (.agg #[.slice A r.2.2.length c, .int .i64 (r.2.1 : Int), .int .i64 (r.1 : Int)]) ∧ r.2.2.length ≤ c ∧ SRow w' A r.2.2.length r.2.2 ∧ Below w.heap.size w w'

set_option maxRecDepth 100000 in
set_option maxHeartbeats 800000 in
theorem ref_row_out (s : ByteArray) (p : Int) (pre : Bool) (w : World) (ho : p < 0 ∨ (s.size : Int) < p) :
    Calls Try.prog 14 #[.string s, .int .i64 p, .bool pre] w (RefPost w (row s.data.toList p pre)) := by
  have HE : Hid (row s.data.toList p pre = (1, 0, [])) := by
    unfold Hid row; rw [if_pos (by rw [← Lib.size_eq]; exact ho)]
  rw [HE.out]
  clear HE
  by_cases h0 : p < 0
  · go_enter Try.func14, Try.ntmps14
    go_wp2
    exact bodyPost_ret (v := .agg #[.slice none 0 0, .int .i64 0, .int .i64 1]) (by simp [results, Try.results14, go_sem]) rfl ⟨none, 0, rfl, Nat.le_refl _, SRow.none_ _ _, ((Below.refl _ _).alloc (Nat.le_refl _) _)⟩
  · have h1 : (s.size : Int) < p := by omega
    clear ho
    go_enter Try.func14, Try.ntmps14
    go_wp2
    exact bodyPost_ret (v := .agg #[.slice none 0 0, .int .i64 0, .int .i64 1]) (by simp [results, Try.results14, go_sem]) rfl ⟨none, 0, rfl, Nat.le_refl _, SRow.none_ _ _, ((Below.refl _ _).alloc (Nat.le_refl _) _)⟩

/-- The first place at or behind p whose byte is neither an identifier's nor a point. -/
def EndAt (l : List UInt8) (p k : Nat) : Prop := (∀ j, p ≤ j → j < k → isId (l.getD j 0) = true ∨ byteAt l j = 46) ∧ (k = l.length ∨ (isId (l.getD k 0) = false ∧ byteAt l k ≠ 46))
theorem go_end {pre : Bool} {l wd : List UInt8} {acc : List (List UInt8)} {p k n : Nat} (h : EndAt l p k) : go pre (l.drop k) wd acc n = shut pre wd acc n := by
  rcases h.2 with h | ⟨h1, h2⟩
  · rw [List.drop_eq_nil_of_le (by omega), go]
  · rcases Nat.lt_or_ge k l.length with hlt | hge
    · rw [drop_getD l k hlt, go_else h1 (by unfold byteAt at h2; omega)]
    · rw [List.drop_eq_nil_of_le hge, go]

theorem step_id {pre : Bool} {l wd : List UInt8} {acc : List (List UInt8)} {p k i n : Nat} (h : EndAt l p k) (hp : p ≤ i) (hi : i < k) (hk : k ≤ l.length) (hx : byteAt l i ≠ 46) :
    go pre (l.drop i) wd acc n = go pre (l.drop (i + 1)) (wd ++ [l.getD i 0]) acc (n + 1) := by
  rw [drop_getD l i (by omega), go_id]
  rcases h.1 i hp hi with h1 | h1
  · exact h1
  · exact absurd h1 hx
theorem step_point {pre : Bool} {l wd : List UInt8} {acc : List (List UInt8)} {i n : Nat} (hi : i < l.length) (hx : byteAt l i = 46) (hf : fault wd acc.length pre = 0) :
    go pre (l.drop i) wd acc n = go pre (l.drop (i + 1)) [] (acc ++ [wd]) (n + 1) := by
  rw [drop_getD l i hi]
  exact go_point (by unfold byteAt at hx; omega) hf
theorem bad_point {pre : Bool} {l wd : List UInt8} {acc : List (List UInt8)} {i n : Nat} (hi : i < l.length) (hx : byteAt l i = 46) (hf : fault wd acc.length pre ≠ 0) :
    go pre (l.drop i) wd acc n = (fault wd acc.length pre, 0, []) := by
  rw [drop_getD l i hi]
  have e : l.getD i 0 = 46 := UInt8.toNat_inj.1 (show (l.getD i 0).toNat = 46 by unfold byteAt at hx; omega)
  exact go_bad (by rw [e]; exact point_no) hf
theorem text_more (s : ByteArray) (wd : List UInt8) (i : Nat) (h : i < s.size) : mk wd ++ s.extract i (i + 1) = mk (wd ++ [s.data.toList.getD i 0]) := by
  have h2 : i < s.data.toList.length := by rw [← Lib.size_eq]; exact h
  have e := Lib.extract_data s i (i + 1)
  have : (mk wd ++ s.extract i (i + 1)).data.toList = wd ++ [s.data.toList.getD i 0] := by
    rw [ByteArray.data_append, Array.toList_append, e, mk_list, show i + 1 - i = 1 by omega, drop_getD _ i h2]; rfl
  rw [← this]; rfl
theorem SRow.own {w : World} {base : Nat} {A : Option Addr} {c : Nat} {n : Nat} {xs : List (List UInt8)} (h : w.ownsRow base 9 1 (.slice A n c) n (strs xs)) : n ≤ c ∧ SRow w A n xs := by
  obtain ⟨A', c', e, h1, h2⟩ := SRow.of_own h
  injection e with e1 _ e3
  subst e1; subst e3
  exact ⟨h1, h2⟩

/-- What holds in each round over a text's bytes: at i, of which acc and wd have been read. -/
def RefJ (w : World) (s : ByteArray) (p E : Nat) (pre : Bool) (lv wv iv : Value) (W : World) : Prop :=
  ∃ (i : Nat) (acc : List (List UInt8)) (wd : List UInt8), p ≤ i ∧ i ≤ E + 1 ∧ iv = .int .i64 i ∧ wv = .string (mk wd) ∧ wd.length ≤ i ∧ W.ownsRow (w.heap.size + 1) 9 1 lv acc.length (strs acc) ∧ acc.length ≤ 16 ∧
    Below (w.heap.size + 1) (w.alloc (.cells #[.slice none 0 0, .int .i64 0, .int .i64 0] 49)) W ∧ (if i ≤ E then go pre (s.data.toList.drop i) wd acc (i - p) else (0, E - p, acc)) = go pre (s.data.toList.drop p) [] [] 0

def Cut2 (w : World) (s : ByteArray) (p : Nat) (x : Value) (wx : World) : Prop :=
  ∃ k : Nat, p ≤ k ∧ k ≤ s.size ∧ x = .int .i64 k ∧ EndAt s.data.toList p k ∧ wx = w.alloc (.cells #[.slice none 0 0, .int .i64 0, .int .i64 0] 49)

set_option maxRecDepth 100000 in
set_option maxHeartbeats 1600000 in
theorem ref_row_in (s : ByteArray) (p : Nat) (pre : Bool) (w : World) (hs : s.size ≤ 600) (hp : p ≤ s.size) :
    Calls Try.prog 14 #[.string s, .int .i64 p, .bool pre] w (RefPost w (row s.data.toList p pre)) := by
  have HL := Lib.hid (Lib.size_eq s)
  have HE : Hid (row s.data.toList p pre = go pre (s.data.toList.drop p) [] [] 0) := by
    unfold Hid row; rw [if_neg (by rw [← Lib.size_eq]; omega), Int.toNat_natCast]
  rw [HE.out]
  clear HE
  have hp0 : ¬ (p : Int) < 0 := by omega
  have hp1 : ¬ s.size < p := by omega
  go_enter Try.func14, Try.ntmps14
  go_upto_block 0 with (fail)
  go_cut [7] (fun x wx => Cut2 w s p x wx)
  case first =>
    go_wp2_with fail
    go_loop [7] (fun t => ∃ k : Nat, p ≤ k ∧ k ≤ s.size ∧ t = .int .i64 k ∧ Hid (∀ j, p ≤ j → j < k → isId (s.data.toList.getD j 0) = true ∨ byteAt s.data.toList j = 46)) (fun t => s.size - (intOf t).toNat)
    case atStart => exact ⟨p, Nat.le_refl _, hp, rfl, fun j h1 h2 => by omega⟩
    case round =>
      obtain ⟨k, hk1, hk2, rfl, HD⟩ := hrel
      by_cases hlt : k < s.size
      · have HX := Lib.hid (at_text s k hlt)
        have hbd := byteAt_bd s.data.toList k
        have HI : Hid (isId (s.data.toList.getD k 0) = idB (byteAt s.data.toList k)) := (idB_at _).symm
        rw [← HX.out] at hbd HI
        obtain ⟨hx0, hx1⟩ := hbd
        have HN : Hid (idB (s[k].toNat : Int) = true ∨ (s[k].toNat : Int) = 46 → ∀ j, p ≤ j → j < k + 1 → isId (s.data.toList.getD j 0) = true ∨ byteAt s.data.toList j = 46) := fun hh j hj1 hj2 => by
          rcases Nat.lt_or_ge j k with hj | hj
          · exact HD.out j hj1 hj
          · obtain rfl : j = k := by omega
            rw [HI.out, ← HX.out]; exact hh
        go_wp2_with fail
        refine (ref_byte_any _ _ hx0 hx1).mono ?_
        rintro e w' ⟨rfl, rfl⟩
        cases h1 : idB (s[k].toNat : Int)
        · have H1 := Lib.hid h1; clear h1
          by_cases h2 : (s[k].toNat : Int) = 46
          · have hb : ((s[k].toNat : Int) == 46) = true := by simp [h2]
            have H2 := Lib.hid h2; clear h2
            go_wp2
            go_round
            case rel => exact ⟨k + 1, by omega, by omega, by go_num, HN.out (.inr H2.out)⟩
            case measure => simp [intOf]; omega
          · have hb : ((s[k].toNat : Int) == 46) = false := by simp [h2]
            have H2 := Lib.hid h2; clear h2
            go_wp2
            go_meet
            exact ⟨k, hk1, hk2, rfl, ⟨HD.out, .inr ⟨by rw [HI.out]; exact H1.out, by rw [← HX.out]; exact H2.out⟩⟩, rfl⟩
        · have H1 := Lib.hid h1; clear h1
          go_wp2
          go_round
          case rel => exact ⟨k + 1, by omega, by omega, by go_num, HN.out (.inl H1.out)⟩
          case measure => simp [intOf]; omega
      · go_wp2
        go_meet
        exact ⟨k, hk1, hk2, rfl, ⟨HD.out, .inl (by rw [← HL.out]; omega)⟩, rfl⟩
  case rest =>
    obtain ⟨E, hE1, hE2, rfl, hend, rfl⟩ := hcut
    have HEN := Lib.hid hend; clear hend
    go_wp2_with fail
    go_loopw [8, 9, 10] (fun lv wv iv W => RefJ w s p E pre lv wv iv W) (fun _ _ iv _ => E + 1 - (intOf iv).toNat)
    case atStart => exact ⟨p, [], [], Nat.le_refl _, by omega, rfl, rfl, by simp, World.ownsRow_nil _ _ _ _, by simp, Below.refl _ _, by rw [if_pos hE1, Nat.sub_self]⟩
    case round =>
      obtain ⟨i, acc, wd, hi1, hi2, rfl, rfl, hwd, hown, hacc, hbel, hgo⟩ := hrel
      obtain ⟨VA, VC, rfl, hvc, hvr⟩ := SRow.of_own hown
      have HO := Lib.hid hown
      have HBL := Lib.hid hbel
      have hz : w.heap.size + 1 ≤ wr.heap.size := by have := hbel.size; simpa using this
      have HW : Hid (Below w.heap.size w wr) := ((Below.refl w.heap.size w).alloc (Nat.le_refl _) _).trans (hbel.mono (by omega))
      clear hown hvr hbel
      by_cases hiE : i ≤ E
      · rw [if_pos hiE] at hgo
        have HG := Lib.hid hgo; clear hgo
        by_cases hlt : i < E
        · have hls : i < s.size := by omega
          have HX := Lib.hid (at_text s i hls)
          by_cases h46 : (s[i].toNat : Int) = 46
          · have HPT : Hid (fault wd acc.length pre = 0 → go pre (s.data.toList.drop (i + 1)) [] (acc ++ [wd]) (i + 1 - p) = go pre (s.data.toList.drop p) [] [] 0) := fun hf => by
              rw [← HG.out, step_point (n := i - p) (by rw [← HL.out]; exact hls) (by rw [← HX.out]; exact h46) hf, show i + 1 - p = i - p + 1 by omega]
            have HBD : Hid (fault wd acc.length pre ≠ 0 → go pre (s.data.toList.drop p) [] [] 0 = (fault wd acc.length pre, 0, [])) := fun hf => by
              rw [← HG.out, bad_point (n := i - p) (by rw [← HL.out]; exact hls) (by rw [← HX.out]; exact h46) hf]
            have HPL : Hid (fault wd acc.length pre = 0 → acc.length + 1 ≤ 16) := fun h => (fault_pos h).2.2
            have hb : ((s[i].toNat : Int) == 46) = true := by simp [h46]
            have hb2 : ((s[i].toNat : Int) != 46) = false := by simp [h46]
            clear h46
            go_wp2_with fail
            refine (wrong_any (mk wd) acc.length pre _ (by rw [mk_size]; omega) (by unfold maxLen; omega)).mono ?_
            rw [mk_list]
            rintro e w' ⟨rfl, rfl⟩
            generalize fault wd acc.length pre = f at HPT HBD HPL
            by_cases hf0 : f = 0
            · subst hf0
              have HPT2 := Lib.hid (HPT.out rfl)
              have hacc2 : acc.length + 1 ≤ 16 := HPL.out rfl
              have HO2 : Hid ((wr.alloc (.cells #[.string (mk wd)] 9)).ownsRow (w.heap.size + 1) 9 1 (.slice VA acc.length VC) acc.length (strs acc)) := HO.out.alloc _
              have HB2 := Lib.hid (HBL.out.alloc hz (.cells #[.string (mk wd)] 9))
              go_wp2_with (first
                | (at_builtin; refine wpList_append_strs _ rfl _ _ rfl (w.heap.size + 1) _ acc.length acc rfl HO2.out (some ⟨wr.heap.size, 0, none⟩) 1 1 [wd] rfl (SRow.one wr wd) (fun h => by cases h) (by omega) (by simp; omega) ?_; intro v3 w3 ho3 hb3; have HB3 := Lib.hid (HB2.out.trans hb3); have HO3 := Lib.hid ho3; clear ho3 hb3)
                | fail)
              refine ⟨⟨i + 1, acc ++ [wd], [], by omega, by omega, by go_num, rfl, by simp, ?_, ?_, HB3.out, ?_⟩, by simp [intOf]; omega⟩
              · rw [List.length_append]; exact HO3.out
              · rw [List.length_append]; exact hacc2
              · rw [if_pos (by omega)]; exact HPT2.out
            · have HBD2 := Lib.hid (HBD.out hf0)
              obtain ⟨hc, hfz⟩ : (∀ b o, b < w.heap.size + 1 → wr.cell? ⟨b, o, none⟩ = (w.alloc (.cells #[.slice none 0 0, .int .i64 0, .int .i64 0] 49)).cell? ⟨b, o, none⟩) ∧ (∀ b o, b < w.heap.size + 1 → wr.frozen? ⟨b, o, none⟩ = (w.alloc (.cells #[.slice none 0 0, .int .i64 0, .int .i64 0] 49)).frozen? ⟨b, o, none⟩) :=
                ⟨fun b o h => HBL.out.cell (p := ⟨b, o, none⟩) h, fun b o h => HBL.out.frozen (p := ⟨b, o, none⟩) h⟩
              go_wp2
              rw [HBD2.out]
              exact bodyPost_ret (v := .agg #[.slice none 0 0, .int .i64 0, .int .i64 (f : Int)]) (by simp [results, Try.results14, go_sem, hc]) rfl ⟨none, 0, rfl, Nat.le_refl _, SRow.none_ _ _, ((HW.out.setCell (by simp) _).setCell (by simp) _).setCell (by simp) _⟩
          · have HN : Hid (go pre (s.data.toList.drop (i + 1)) (wd ++ [s.data.toList.getD i 0]) acc (i + 1 - p) = go pre (s.data.toList.drop p) [] [] 0) := by
              unfold Hid
              rw [← HG.out, step_id (n := i - p) HEN.out hi1 hlt (by rw [← HL.out]; exact hE2) (by rw [← HX.out]; exact h46), show i + 1 - p = i - p + 1 by omega]
            have hb : ((s[i].toNat : Int) == 46) = false := by simp [h46]
            have hb2 : ((s[i].toNat : Int) != 46) = true := by simp [h46]
            obtain ⟨wd2, hwd2⟩ : ∃ wd2, wd ++ [s.data.toList.getD i 0] = wd2 := ⟨_, rfl⟩
            have hcat := text_more s wd i hls
            have hcap : ¬ 9223372036854775807 < (mk wd).size + (min (i + 1) s.size - i) := by rw [mk_size]; omega
            have hl2 : wd2.length ≤ i + 1 := by rw [← hwd2, List.length_append]; simp; exact hwd
            rw [hwd2] at hcat HN
            clear h46 hwd2
            go_wp2
            refine ⟨⟨i + 1, acc, wd2, by omega, by omega, by go_num, rfl, hl2, HO.out, hacc, HBL.out, ?_⟩, by simp [intOf]; omega⟩
            rw [if_pos (by omega)]; exact HN.out
        · have hE : i = E := by omega
          have HPT : Hid (fault wd acc.length pre = 0 → (0, E - p, acc ++ [wd]) = go pre (s.data.toList.drop p) [] [] 0) := fun hf => by
            rw [← HG.out, hE, go_end HEN.out, shut, if_pos hf]
          have HBD : Hid (fault wd acc.length pre ≠ 0 → go pre (s.data.toList.drop p) [] [] 0 = (fault wd acc.length pre, 0, [])) := fun hf => by
            rw [← HG.out, hE, go_end HEN.out, shut, if_neg hf]
          have HPL : Hid (fault wd acc.length pre = 0 → acc.length + 1 ≤ 16) := fun h => (fault_pos h).2.2
          clear hE
          go_wp2_with fail
          refine (wrong_any (mk wd) acc.length pre _ (by rw [mk_size]; omega) (by unfold maxLen; omega)).mono ?_
          rw [mk_list]
          rintro e w' ⟨rfl, rfl⟩
          generalize fault wd acc.length pre = f at HPT HBD HPL
          by_cases hf0 : f = 0
          · subst hf0
            have HPT2 := Lib.hid (HPT.out rfl)
            have hacc2 : acc.length + 1 ≤ 16 := HPL.out rfl
            have HO2 : Hid ((wr.alloc (.cells #[.string (mk wd)] 9)).ownsRow (w.heap.size + 1) 9 1 (.slice VA acc.length VC) acc.length (strs acc)) := HO.out.alloc _
            have HB2 := Lib.hid (HBL.out.alloc hz (.cells #[.string (mk wd)] 9))
            go_wp2_with (first
              | (at_builtin; refine wpList_append_strs _ rfl _ _ rfl (w.heap.size + 1) _ acc.length acc rfl HO2.out (some ⟨wr.heap.size, 0, none⟩) 1 1 [wd] rfl (SRow.one wr wd) (fun h => by cases h) (by omega) (by simp; omega) ?_; intro v3 w3 ho3 hb3; have HB3 := Lib.hid (HB2.out.trans hb3); have HO3 := Lib.hid ho3; clear ho3 hb3)
              | fail)
            refine ⟨⟨i + 1, acc ++ [wd], [], by omega, by omega, by go_num, rfl, by simp, ?_, ?_, HB3.out, ?_⟩, by simp [intOf]; omega⟩
            · rw [List.length_append]; exact HO3.out
            · rw [List.length_append]; exact hacc2
            · rw [if_neg (by omega)]; exact HPT2.out
          · have HBD2 := Lib.hid (HBD.out hf0)
            obtain ⟨hc, hfz⟩ : (∀ b o, b < w.heap.size + 1 → wr.cell? ⟨b, o, none⟩ = (w.alloc (.cells #[.slice none 0 0, .int .i64 0, .int .i64 0] 49)).cell? ⟨b, o, none⟩) ∧ (∀ b o, b < w.heap.size + 1 → wr.frozen? ⟨b, o, none⟩ = (w.alloc (.cells #[.slice none 0 0, .int .i64 0, .int .i64 0] 49)).frozen? ⟨b, o, none⟩) :=
              ⟨fun b o h => HBL.out.cell (p := ⟨b, o, none⟩) h, fun b o h => HBL.out.frozen (p := ⟨b, o, none⟩) h⟩
            go_wp2
            rw [HBD2.out]
            exact bodyPost_ret (v := .agg #[.slice none 0 0, .int .i64 0, .int .i64 (f : Int)]) (by simp [results, Try.results14, go_sem, hc]) rfl ⟨none, 0, rfl, Nat.le_refl _, SRow.none_ _ _, ((HW.out.setCell (by simp) _).setCell (by simp) _).setCell (by simp) _⟩
      · rw [if_neg hiE] at hgo
        have HG := Lib.hid hgo; clear hgo
        obtain ⟨hc, hfz⟩ : (∀ b o, b < w.heap.size + 1 → wr.cell? ⟨b, o, none⟩ = (w.alloc (.cells #[.slice none 0 0, .int .i64 0, .int .i64 0] 49)).cell? ⟨b, o, none⟩) ∧ (∀ b o, b < w.heap.size + 1 → wr.frozen? ⟨b, o, none⟩ = (w.alloc (.cells #[.slice none 0 0, .int .i64 0, .int .i64 0] 49)).frozen? ⟨b, o, none⟩) :=
          ⟨fun b o h => HBL.out.cell (p := ⟨b, o, none⟩) h, fun b o h => HBL.out.frozen (p := ⟨b, o, none⟩) h⟩
        go_wp2
        rw [← HG.out, show ((E : Int) - (p : Int)) = ((E - p : Nat) : Int) by omega]
        have HF := ownsRow_setCell_below (ownsRow_setCell_below (ownsRow_setCell_below HO.out (a := ⟨w.heap.size, 0, none⟩) (Nat.lt_succ_self _) (.slice VA acc.length VC)) (a := ⟨w.heap.size, 1, none⟩) (Nat.lt_succ_self _) (.int .i64 ((E - p : Nat) : Int))) (a := ⟨w.heap.size, 2, none⟩) (Nat.lt_succ_self _) (.int .i64 0)
        exact bodyPost_ret (v := .agg #[.slice VA acc.length VC, .int .i64 ((E - p : Nat) : Int), .int .i64 0]) (by simp [results, Try.results14, go_sem, hc]) rfl ⟨VA, VC, rfl, hvc, (SRow.own HF).2, ((HW.out.setCell (by simp) _).setCell (by simp) _).setCell (by simp) _⟩

theorem ref_row_any (s : ByteArray) (p : Int) (pre : Bool) (w : World) (hs : s.size ≤ 600) :
    Calls Try.prog 14 #[.string s, .int .i64 p, .bool pre] w (RefPost w (row s.data.toList p pre)) := by
  by_cases ho : p < 0 ∨ (s.size : Int) < p
  · exact ref_row_out s p pre w ho
  · obtain ⟨k, rfl⟩ := Int.eq_ofNat_of_zero_le (show 0 ≤ p by omega)
    exact ref_row_in s k pre w hs (by omega)
end Go.Proofs.Ytfimjmikmbkkgaa.Ident
