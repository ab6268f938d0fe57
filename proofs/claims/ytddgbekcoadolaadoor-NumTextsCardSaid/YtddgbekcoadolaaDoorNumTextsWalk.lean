/-
  The law NumTexts answers true for any number and any byte behind its numeral, and writes nothing that was there. Condition: the library's table of powers of ten reads as it is written.
-/
import Derived.Test.YtddgbekcoadolaaDoorNumRefText
import Derived.ArgAppend
namespace Go.Proofs.YtddgbekcoadolaaDoor.Num
open Go.RowKit

/-- []byte(s), with its spare room. -/
theorem run_bytes_room (w : World) (s : ByteArray) (hs : s.size ≤ maxLen) : ∃ c W, s.size ≤ c ∧
    (convert 9 29 (.string s)).run Tryd.prog w = .ok (.slice (some ⟨w.heap.size, 0, none⟩) s.size c) W ∧ Row W (some ⟨w.heap.size, 0, none⟩) s.size s.data.toList ∧ Below w.heap.size w W ∧ w.heap.size < W.heap.size ∧
    ∀ j, s.size ≤ j → j < c → (W.cell? ⟨w.heap.size, j, none⟩).isSome = true ∧ W.frozen? ⟨w.heap.size, j, none⟩ = false := by
  refine ⟨_, _, grownCap_ge w s.size 0 5, Lib.run_convert_string_bytes (P := Tryd.prog) w 9 29 5 s Tryd.underlying9 Tryd.underlying29 Tryd.underlying5, ?_, ?_, by rw [Lib.bytesWorld_size]; omega, ?_⟩
  · refine ⟨(Lib.size_eq s).symm, hs, fun h0 => ⟨w.heap.size, 0, rfl, by rw [Lib.bytesWorld_size]; omega, fun j hj => ?_⟩⟩
    rw [Nat.zero_add, Lib.bytesWorld_cell w 5 s j hj]; rfl
  · exact ⟨by simp [Lib.bytesWorld, World.freeze]; rfl, by simp [Lib.bytesWorld, World.freeze], by simp [Lib.bytesWorld, World.freeze]; rfl, by rw [Lib.bytesWorld_size]; omega, fun k hk => Lib.bytesWorld_at_old w 5 s k hk⟩
  · intro j hj hjc
    have hge := grownCap_ge w s.size 0 5
    have hsz : (Lib.bytesCells w 5 s).size = grownCap w s.size 0 5 := by
      unfold Lib.bytesCells
      have : s.data.size = s.size := rfl
      simp [this]; omega
    have hn := Lib.bytesWorld_at_new w 5 s
    constructor
    · rw [cell_of_row _ _ _ _ _ _ hn, Array.getElem?_eq_getElem (by rw [hsz]; exact hjc)]; rfl
    · simp only [World.frozen?, hn]
      rw [hsz]
      simp; omega

theorem run_append_one (w : World) (ty : TypeId) (base g n c : Nat) (l : List UInt8) (hr : Row w (some ⟨g, 0, none⟩) n l) (hbg : base ≤ g) (hbw : base ≤ w.heap.size)
    (hspare : ∀ j, n ≤ j → j < c → (w.cell? ⟨g, j, none⟩).isSome = true ∧ w.frozen? ⟨g, j, none⟩ = false) (b : UInt8) (k : Nat)
    (hk : w.cell? ⟨k, 0, none⟩ = some (.int .u8 (b.toNat : Int))) (hlim : n + 1 ≤ 140737488355328) (hg : g < w.heap.size) :
    ∃ A' c' w', (Builtin.append_ #[29, 29] ty #[.slice (some ⟨g, 0, none⟩) n c, .slice (some ⟨k, 0, none⟩) 1 1]).run Tryd.prog w = .ok (.slice A' (n + 1) c') w' ∧ n + 1 ≤ c' ∧ Row w' A' (n + 1) (l ++ [b]) ∧ Below base w w' := by
  obtain ⟨i, hi, hz, hsi, hby⟩ := info_parts byteInfo
  have hnews : ∀ j u, (cells [b])[j]? = some u → w.cell? ((⟨k, 0, none⟩ : Addr).add j) = some u := by
    intro j u hu
    have hj : j = 0 := by
      have := (List.getElem?_eq_some_iff.1 hu).1
      rw [cells_length] at this; simp at this; omega
    subst hj
    rw [add_none, hk]
    exact hu
  have holds : ∀ j u, (cells l)[j]? = some u → w.cell? ((⟨g, 0, none⟩ : Addr).add j) = some u := hr.news
  by_cases hroom : n + 1 ≤ c
  · have hrun := run_append_room_cells (P := Tryd.prog) w 29 ty 5 i Tryd.underlying29 hi g 0 n c ⟨k, 0, none⟩ 1 1 (cells [b]) (by rw [hsi]; rfl) hnews (cells_one _) hroom
      (fun j hj => by have := (hspare (n + j) (by omega) (by rw [cells_length] at hj; simp at hj; omega)).1; rwa [hsi, Nat.mul_one, Nat.zero_add])
      (fun j hj => by have := (hspare (n + j) (by omega) (by rw [cells_length] at hj; simp at hj; omega)).2; rwa [hsi, Nat.mul_one, Nat.zero_add])
    rw [hsi, Nat.mul_one, Nat.zero_add] at hrun
    refine ⟨_, c, _, hrun, hroom, ⟨by rw [List.length_append, hr.1]; rfl, by unfold maxLen; omega, fun _ => ⟨g, 0, rfl, ?_, fun j hj => ?_⟩⟩, ?_⟩
    · show g < (w.setCell ⟨g, n, none⟩ _).heap.size
      simpa [World.setCell] using hg
    · rw [Nat.zero_add]
      rcases Nat.lt_or_ge j n with hlt | hge
      · rw [World.cell?_setCells_out g (cells [b]) n w ⟨g, j, none⟩ (fun _ _ => .inl hlt)]
        have := holds j _ (cells_at l j (by rw [hr.1]; exact hlt))
        rw [add_none, Nat.zero_add] at this
        rw [this]
        unfold byteAt
        rw [List.getD, List.getD, List.getElem?_append_left (by rw [hr.1]; exact hlt)]
      · obtain rfl : j = n := by omega
        have := World.cell?_setCells_in g (cells [b]) j w (fun i hi' => by
          have := (hspare (j + i) (by omega) (by rw [cells_length] at hi'; simp at hi'; omega)).1
          exact this) 0 (by rw [cells_length]; exact Nat.zero_lt_one)
        rw [Nat.add_zero] at this
        rw [this]
        unfold byteAt
        rw [List.getD, List.getElem?_append_right (by rw [hr.1]; exact Nat.le_refl _), hr.1]
        simp [cells]
    · exact (Below.refl base w).setCell hbg _
  · obtain ⟨v', w', hrun, h2, h3⟩ := run_append_arg_grows (P := Tryd.prog) w 29 ty 5 i (.int .u8 0) 1 1 Tryd.underlying29 hi hz hsi hby rfl (by omega) ⟨g, 0, none⟩ n c (cells l) (by rw [cells_length, hr.1]; omega) holds ⟨k, 0, none⟩ 1 1 (cells [b]) rfl hnews (by omega) (by unfold maxLen; omega) (by omega)
    rw [← cells_append] at h2
    obtain ⟨A', c', rfl, h4, h5⟩ := Row.of_own h2
    exact ⟨A', c', w', hrun, h4, h5, (Below.refl base w).grown h3 hbw (fun k hk => by cases hk)⟩

theorem dec_len (u : Nat) (h : u < 18446744073709551616) : (⟨(Lib.decDigits u).toArray⟩ : ByteArray).size ≤ 20 := by
  have : (⟨(Lib.decDigits u).toArray⟩ : ByteArray).size = (Lib.decDigits u).length := rfl
  rw [this, Lib.decDigits_length]; exact Lib.nDigits_le20 u h

/-- What Parse answers of a number's digits with a byte behind them that isn't a digit. -/
theorem parse_dec (u : Nat) (b : UInt8) (hb : isDig b = false) : parse (Lib.decDigits u ++ [b]) 0 = if maxField < u then (0, 0, 4) else (u, (Lib.decDigits u).length, 0) := by
  have hd := dec_all u
  have hr : run (Lib.decDigits u ++ [b]) = (Lib.decDigits u).length := by
    refine run_stop _ _ (by rw [List.length_append]; omega) (fun j hj => ?_) (.inr ?_)
    · have := allDig_getD hd hj
      rw [List.getD] at this ⊢
      rwa [List.getElem?_append_left hj]
    · rw [List.getD, List.getElem?_append_right (Nat.le_refl _)]
      simpa using hb
  have e := parse_at (Lib.decDigits u ++ [b]) 0 (Nat.zero_le _) (Lib.decDigits u) (by rw [List.drop_zero, hr, List.take_left])
  rw [if_neg (by have := dec_pos u; omega), if_neg (by rw [dec_pad u]; simp), dec_val] at e
  exact e

theorem wpList_append_one (w : World) {ops : Array Oper} {rest : List Oper} {o : Oper} {a : Act} {Q : Exit → Act → World → Prop} (hgd : o.guard = none) (s x : Operand)
    (ho : o.op = .call { callee := .builtin .append, args := #[s, x], argTypes := #[29, 29] })
    (base g n c : Nat) (l : List UInt8) (hs : a.eval s = .slice (some ⟨g, 0, none⟩) n c) (hr : Row w (some ⟨g, 0, none⟩) n l) (hbg : base ≤ g) (hbw : base ≤ w.heap.size)
    (hspare : ∀ j, n ≤ j → j < c → (w.cell? ⟨g, j, none⟩).isSome = true ∧ w.frozen? ⟨g, j, none⟩ = false) (b : UInt8) (k : Nat) (hx : a.eval x = .slice (some ⟨k, 0, none⟩) 1 1)
    (hk : w.cell? ⟨k, 0, none⟩ = some (.int .u8 (b.toNat : Int))) (hlim : n + 1 ≤ 140737488355328) (hg : g < w.heap.size)
    (h : ∀ A' c' w', n + 1 ≤ c' → Row w' A' (n + 1) (l ++ [b]) → Below base w w' → wpList Tryd.prog ops Q rest (a.put o.dst (.slice A' (n + 1) c')) w') : wpList Tryd.prog ops Q (o :: rest) a w := by
  refine wpList_plain hgd fun K hK => ?_
  obtain ⟨A', c', w', hrun, h2, h3, h4⟩ := run_append_one w o.type base g n c l hr hbg hbw hspare b k hk hlim hg
  unfold Oper.wp execOp
  simp only [ho, resolve, invoke, builtin, Sem.run_bind, Sem.run_pure, Result.andThen_ok, List.map_toArray, List.map_cons, List.map_nil, hs, hx, hrun]
  exact hK _ _ (h A' c' w' h2 h3 h4)

set_option maxHeartbeats 1600000 in
theorem texts_any (a : Int) (u : Nat) (b : UInt8) (x : Int) (hau : a = (u : Int)) (hxb : x = (b.toNat : Int)) (ha0 : 0 ≤ a) (ha1 : a ≤ 18446744073709551615) (w : World) (htab : Tab w) :
    Calls Tryd.prog 3 #[.int .u64 a, .int .u8 x] w fun e w' => e = .returned (.bool true) ∧ Below w.heap.size w w' := by
  have HT := Lib.hid htab; clear htab
  have HU : Hid (u < 18446744073709551616) := by unfold Hid; omega
  have HA := Lib.hid hau
  have HX := Lib.hid hxb
  have hx0 : 0 ≤ x := by omega
  have hx1 : x ≤ 255 := by have := b.toNat_lt; omega
  have hts := dec_len u HU.out
  have HN : Hid (isNum (⟨(Lib.decDigits u).toArray⟩ : ByteArray).data.toList = true) := dec_num u
  have TA := Lib.hid (fun W hW => text_any u HU.out W hW)
  have TR := Lib.hid (fun W => ref_text_any u W HU.out)
  have HD : Hid ((⟨(Lib.decDigits u).toArray⟩ : ByteArray).data.toList = Lib.decDigits u) := rfl
  rw [← hau] at TA TR
  clear hau hxb
  generalize (⟨(Lib.decDigits u).toArray⟩ : ByteArray) = t at hts HN TA TR HD
  have hself : (t.toList == t.toList) = true := by simp
  go_enter Tryd.func3, Tryd.ntmps3
  go_wp2_with fail
  refine (awake_any _).mono ?_
  rintro e w1 ⟨rfl, hb1⟩
  have hz1 := hb1.size
  go_wp2_with fail
  refine (TA.out _ (HT.out.kept hb1)).mono ?_
  rintro e w2 ⟨rfl, hb2⟩
  have HB2 := Lib.hid (hb1.trans (hb2.mono hz1))
  have hz2 := HB2.out.size
  go_wp2_with fail
  refine (TR.out _).mono ?_
  rintro e w3 ⟨rfl, hb3⟩
  have HB3 := Lib.hid (HB2.out.trans (hb3.mono hz2))
  have hz3 := HB3.out.size
  go_wp2_with fail
  refine (is_any t _ (Nat.le_trans hts (by unfold maxLen; omega))).mono ?_
  rintro e w4 ⟨rfl, hb4⟩
  rw [HN.out]
  have HB4 := Lib.hid (HB3.out.trans (hb4.mono hz3))
  have hz4 := HB4.out.size
  clear hb1 hb2 hb3 hb4
  by_cases hd : 48 ≤ x ∧ x ≤ 57
  · obtain ⟨hd1, hd2⟩ := hd
    go_wp2
    go_ret
    exact ⟨rfl, HB4.out⟩
  have HND : Hid (isDig b = false) := by
    unfold Hid
    rw [isDig_no]
    have := HX.out
    omega
  obtain ⟨c, W, hc, hcv, hr, hb, hzW, hsp⟩ := run_bytes_room w4 t (Nat.le_trans hts (by unfold maxLen; omega))
  have hHW : Hid (Below w.heap.size w W) := HB4.out.trans (hb.mono hz4)
  have HR := Lib.hid hr
  have HSP := Lib.hid hsp
  clear hr hb hsp
  have hzw : w.heap.size ≤ W.heap.size := hHW.out.size
  have HB5' : Hid (Below w.heap.size w (W.alloc (.cells #[.int .u8 x] 5))) := hHW.out.alloc hzw _
  have HR2 : Hid (Row (W.alloc (.cells #[.int .u8 x] 5)) (some ⟨w4.heap.size, 0, none⟩) t.size t.data.toList) := HR.out.kept ((Below.refl _ W).alloc (Nat.le_refl _) _)
  have HSP2 : Hid (∀ j, t.size ≤ j → j < c → ((W.alloc (.cells #[.int .u8 x] 5)).cell? ⟨w4.heap.size, j, none⟩).isSome = true ∧ (W.alloc (.cells #[.int .u8 x] 5)).frozen? ⟨w4.heap.size, j, none⟩ = false) := by
    intro j h1 h2
    have := HSP.out j h1 h2
    have hb := (Below.refl W.heap.size W).alloc (Nat.le_refl _) (.cells #[.int .u8 x] 5)
    rw [hb.cell (p := ⟨w4.heap.size, j, none⟩) hzW, hb.frozen (p := ⟨w4.heap.size, j, none⟩) hzW]
    exact this
  have HK : Hid ((W.alloc (.cells #[.int .u8 x] 5)).cell? ⟨W.heap.size, 0, none⟩ = some (.int .u8 (b.toNat : Int))) := by
    unfold Hid
    rw [World.cell?_alloc_new, ← HX.out]; rfl
  have hz4W : w4.heap.size ≤ (W.alloc (.cells #[.int .u8 x] 5)).heap.size := by rw [size_alloc]; omega
  have hz4W2 : w4.heap.size < (W.alloc (.cells #[.int .u8 x] 5)).heap.size := by rw [size_alloc]; omega
  have HP := Lib.hid (parse_dec u b HND.out)
  rw [← HD.out] at HP
  have PY : Hid (9223372036854775807 < a → parse (t.data.toList ++ [b]) 0 = (0, 0, 4)) := fun h => by
    have e := HP.out; rw [if_pos (by unfold maxField; have := HA.out; omega)] at e; exact e
  have PN : Hid (a ≤ 9223372036854775807 → parse (t.data.toList ++ [b]) 0 = (u, t.size, 0)) := fun h => by
    have e := HP.out; rw [if_neg (by unfold maxField; have := HA.out; omega), ← Lib.size_eq] at e; exact e
  clear HP HR HSP
  by_cases hd1 : 48 ≤ x
  · have hd2 : ¬ x ≤ 57 := fun hh => hd ⟨hd1, hh⟩
    clear hd
    go_wp2_with (first
      | (at_builtin; refine wpList_append_one _ rfl _ _ rfl w4.heap.size w4.heap.size t.size c t.data.toList rfl HR2.out (Nat.le_refl _) hz4W HSP2.out b W.heap.size rfl HK.out (by omega) hz4W2 ?_; intro A3 c3 w5 hc3 hr3 hb5; have HR3 := Lib.hid hr3; have HB5 := Lib.hid (HB5'.out.trans (hb5.mono hz4)); clear hr3 hb5)
      | fail)
    refine (parse_any _ _ _ (t.data.toList ++ [b]) 0 _ HR3.out hc3).mono ?_
    rintro e w' ⟨rfl, rfl⟩
    unfold parseOut
    by_cases hbig : 9223372036854775807 < a
    · rw [PY.out hbig]
      go_wp2
      go_ret
      exact ⟨rfl, HB5.out⟩
    · rw [PN.out (by omega), show (((u : Nat), t.size, 0) : Nat × Nat × Nat).1 = u from rfl, ← HA.out]
      go_wp2
      go_ret
      exact ⟨rfl, HB5.out⟩
  · clear hd
    go_wp2_with (first
      | (at_builtin; refine wpList_append_one _ rfl _ _ rfl w4.heap.size w4.heap.size t.size c t.data.toList rfl HR2.out (Nat.le_refl _) hz4W HSP2.out b W.heap.size rfl HK.out (by omega) hz4W2 ?_; intro A3 c3 w5 hc3 hr3 hb5; have HR3 := Lib.hid hr3; have HB5 := Lib.hid (HB5'.out.trans (hb5.mono hz4)); clear hr3 hb5)
      | fail)
    refine (parse_any _ _ _ (t.data.toList ++ [b]) 0 _ HR3.out hc3).mono ?_
    rintro e w' ⟨rfl, rfl⟩
    unfold parseOut
    by_cases hbig : 9223372036854775807 < a
    · rw [PY.out hbig]
      go_wp2
      go_ret
      exact ⟨rfl, HB5.out⟩
    · rw [PN.out (by omega), show (((u : Nat), t.size, 0) : Nat × Nat × Nat).1 = u from rfl, ← HA.out]
      go_wp2
      go_ret
      exact ⟨rfl, HB5.out⟩
end Go.Proofs.YtddgbekcoadolaaDoor.Num
