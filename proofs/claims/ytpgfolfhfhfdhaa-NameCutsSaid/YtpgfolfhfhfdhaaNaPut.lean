/-
  (*Table).put: a name that has none gets the next number; (*Table).Add: a name's number, a new one if it has none and there is room. Conditions: the pointer leads to a table; the text's length is one that the form allows.
-/
import Derived.Test.YtpgfolfhfhfdhaaNaOps
import Derived.Test.YtpgfolfhfhfdhaaNaWalk
import Derived.Test.YtpgfolfhfhfdhaaShelf
import Derived.Maps.OwnOps
import Derived.WalkSpells
import Derived.Deep.CutBlock
import Derived.Deep.DeepCutAuto
namespace Go.Proofs.Ytpgfolfhfhfdhaa.Name
open Go.RowKit Num Ident Fr
open Go.Maps (Keyed)

def PutPost (W : World) (tb : Nat) (T : Nat → Prop) (x : List (List UInt8)) (s : List UInt8) (e : Ending) (W' : World) : Prop :=
  e = .returned (.int .i64 (x.length : Int)) ∧ ∃ T' : Nat → Prop, TabAt W' tb T' (x ++ [s]) ∧ (∀ b, T' b → T b ∨ W.heap.size ≤ b) ∧ But T W W'
set_option maxRecDepth 100000 in
set_option maxHeartbeats 1600000 in
theorem put_any (tb : Nat) (T : Nat → Prop) (x : List (List UInt8)) (s : ByteArray) (w : World) (h : TabAt w tb T x) (hs : s.size ≤ maxLen) (hn : isName s.data.toList = true) (hnm : s.data.toList ∉ x) (hroom : x.length < 4096) :
    Calls Try.prog 21 #[.pointer (some ⟨tb, 0, none⟩), .string s] w (PutPost w tb T x s.data.toList) := by
  have HS := Lib.hid hs
  unfold maxLen at hs
  have HN := Lib.hid hn
  have HNM := Lib.hid hnm
  have H1 := Lib.hid h
  have HB : Hid (But T w w) := But.refl _ _
  clear h hn hnm
  obtain ⟨m, v, h2, hm, hv, ho, hne⟩ := H1.out.at_
  have H21 := Lib.hid h2
  obtain ⟨lt1, hfr, c0, c1⟩ := h2
  obtain ⟨A, c, rfl, hnc, hsr⟩ := SRow.of_own hv
  have HV := Lib.hid hv
  have HO1 := Lib.hid ho
  clear hv ho hnc hsr
  have hmm := @run_makeMap Try.prog
  have qT : ∀ (w : World) (r : Option Nat), (binOp .eql 33 (.map r) (.map none)).run Try.prog w = .ok (.bool r.isNone) w := fun w r => run_eql_map_nil w _ _ _ r Try.underlying33
  go_enter Try.func21, Try.ntmps21
  rcases hm with ⟨rfl, hx0⟩ | ⟨mb, D, rfl, hT, hown, hN⟩
  · have HX0 := Lib.hid hx0
    clear hx0 hne
    go_upto_region 3 with (fail)
    have hneq : w.heap.size ≠ tb := Nat.ne_of_gt lt1
    have hz : (w.setCell ⟨tb, 0, none⟩ (.map (some w.heap.size))).heap.size = w.heap.size := by simp [World.setCell]
    have HB2 : Hid (But T w ((w.setCell ⟨tb, 0, none⟩ (.map (some w.heap.size))).alloc (.map #[] 0))) := (HB.out.set _ _ _ (.inl H1.out.own)).alloc _
    have H22 : Hid (At2 ((w.setCell ⟨tb, 0, none⟩ (.map (some w.heap.size))).alloc (.map #[] 0)) tb (.map (some w.heap.size)) (.slice A x.length c)) := (H21.out.set0 _).but ((But.refl (fun _ => False) _).alloc _) (fun g => g)
    have HM : Hid (World.ownsMap ((w.setCell ⟨tb, 0, none⟩ (.map (some w.heap.size))).alloc (.map #[] 0)) Try.prog 9 (plainElem Try.prog 3) w.heap.size x.length (.map [] : DataW Unit)) := by
      have q := World.ownsMap_made (H := Unit) (w.setCell ⟨tb, 0, none⟩ (.map (some w.heap.size))) Try.prog 9 (plainElem Try.prog 3)
      rw [hz] at q
      exact q.mono (Nat.zero_le _)
    have HV2 : Hid (World.ownsRow ((w.setCell ⟨tb, 0, none⟩ (.map (some w.heap.size))).alloc (.map #[] 0)) 0 9 1 (.slice A x.length c) x.length (strs x)) :=
      own_but HV.out (((But.refl (fun k => k = tb) _).set _ _ _ (.inl rfl)).alloc _) (fun b e g => (HO1.out b e).2 g)
    clear hz
    have HT : Hid ((T w.heap.size ∨ w.heap.size ≤ w.heap.size) ∧ w.heap.size ≠ tb) := ⟨.inr HB.out.size, hneq⟩
    have HO : Hid ((T w.heap.size ∨ w.heap.size ≤ w.heap.size) ∧ ∀ b, (Value.slice A x.length c).ownBlock = some b → b ≠ w.heap.size) := ⟨HT.out.1, fun b e => Nat.ne_of_lt (own_lt HV.out e)⟩
    have HNU : Hid (Numbers (.map [] : DataW Unit) x) := by unfold Hid; rw [HX0.out]; exact Numbers.empty
    obtain ⟨D, hD⟩ : ∃ D : DataW Unit, D = .map [] := ⟨_, rfl⟩
    rw [← hD] at HM HNU
    clear hD hmm qT hneq c0 c1 hfr HV
    obtain ⟨mb, hmb⟩ : ∃ mb, w.heap.size = mb := ⟨_, rfl⟩
    have HT : Hid ((T mb ∨ w.heap.size ≤ mb) ∧ mb ≠ tb) := by rw [← hmb]; exact HT
    have HO : Hid ((T mb ∨ w.heap.size ≤ mb) ∧ ∀ b, (Value.slice A x.length c).ownBlock = some b → b ≠ mb) := by rw [← hmb]; exact HO
    rw [hmb] at HB2 H22 HM HV2 ⊢
    generalize (w.setCell ⟨tb, 0, none⟩ (.map (some mb))).alloc (.map #[] 0) = W2 at HM HV2 HB2 H22 ⊢
    clear hmb lt1 H21
    go_wp2_with fail
    refine (len_at _ _ _ _ _ _ H22.out).mono ?_
    rintro e w' ⟨rfl, rfl⟩
    obtain ⟨lt1, hfr, c0, c1⟩ := H22.out
    have hkey := strKey HS.out
    go_wp2_with (first
      | (at_mapUpdate; refine wpList_mapUpdate_own _ rfl _ _ _ 33 rfl 9 3 strKeyed Try.underlying33 _ mb x.length D rfl HM.out (by unfold maxLen; omega) _ _ _ rfl rfl hkey _ [] (plainElem_int Try.underlying3 (WalkArith.wf_i64 (by omega))) ?_)
      | go_in)
    intro w3 hown3 hgrow3
    have HM3 := Lib.hid hown3
    have H23 := Lib.hid (H22.out.but (But.of_grown (T := fun k => k = mb) hgrow3 fun b e => by cases e; rfl) (fun e => HT.out.2 e.symm))
    have HV3 : Hid (World.ownsRow w3 0 9 1 (.slice A x.length c) x.length (strs x)) := own_but HV2.out (But.of_grown (T := fun k => k = mb) hgrow3 fun b e => by cases e; rfl) (fun b e g => HO.out.2 b e g)
    have HB3 := Lib.hid (HB2.out.trans (But.of_grown (T := fun k => k = mb) hgrow3 fun b e => by cases e; rfl) fun i e => by rw [e]; exact HT.out.1)
    clear hown3 hgrow3 hkey HM
    obtain ⟨lt3, fr3, d0, d1⟩ := H23.out
    go_wp2_with (first
      | (at_builtin; refine wpList_append_name _ rfl _ _ rfl (.slice A x.length c) x.length x rfl (own_but HV3.out ((But.refl (fun _ => False) _).alloc _) (fun _ _ g => g)) ⟨w3.heap.size, 0, none⟩ 1 s.data.toList rfl (SRow.one _ _) (by omega) ?_)
      | go_in)
    intro v4 w4 hown4 hgrow4 hloc4
    have HA3 : Hid (But (fun _ => False) w3 (w3.alloc (.cells #[.string (mk s.data.toList)] 9))) := (But.refl _ _).alloc _
    have HG4 : Hid (But (fun k => (Value.slice A x.length c).ownBlock = some k) (w3.alloc (.cells #[.string (mk s.data.toList)] 9)) w4) := But.of_grown hgrow4 fun b e => e
    have H24 := Lib.hid ((H23.out.but HA3.out (fun g => g)).but HG4.out (fun e => (HO1.out tb e).2 rfl))
    have HM4 := Lib.hid (map_but (map_but HM3.out HA3.out (fun g => g)) HG4.out (fun e => HO.out.2 mb e rfl))
    have HB4 := Lib.hid ((HB3.out.alloc (.cells #[.string (mk s.data.toList)] 9)).trans HG4.out fun i e => .inl (HO1.out i e).1)
    have HR4 := Lib.hid hown4
    have HL4 : Hid (∀ b, v4.ownBlock = some b → (T b ∨ w.heap.size ≤ b) ∧ b ≠ tb) := fun b e => by
      rcases hloc4 with h | h
      · rw [h] at e; exact ⟨.inl (HO1.out b e).1, (HO1.out b e).2⟩
      · rw [h] at e
        injection e with e
        try rw [size_alloc] at e
        have := HB3.out.size; have := lt3
        exact ⟨.inr (by omega), by omega⟩
    clear hown4 hgrow4 hloc4
    obtain ⟨A4, c4, hv4, hx1, hx2⟩ := SRow.of_own HR4.out
    subst hv4
    clear hx1 hx2
    obtain ⟨lt4, fr4, e0, e1⟩ := H24.out
    go_wp2
    go_ret
    have HB5 := HB4.out.set tb 1 (.slice A4 (x.length + 1) c4) (.inl H1.out.own)
    have hs5 : But (fun k => k = tb) w4 (w4.setCell ⟨tb, 1, none⟩ (.slice A4 (x.length + 1) c4)) := (But.refl _ _).set _ _ _ (.inl rfl)
    refine ⟨rfl, fun b => (T b ∨ w.heap.size ≤ b) ∧ b < w4.heap.size, ?_, fun b g => g.1, HB5⟩
    refine ⟨List.nodup_append.2 ⟨H1.out.nodup, by simp, fun a ha b hb e => HNM.out (by rw [List.mem_singleton] at hb; rw [← hb, ← e]; exact ha)⟩, fun y hy => ?_, by rw [List.length_append, List.length_singleton]; omega, ⟨.inl H1.out.own, H24.out.lt⟩, (fun b g => Nat.lt_of_lt_of_le g.2 hs5.size), _, _, H24.out.set1 _, .inr ⟨mb, _, rfl, ⟨HT.out.1, HM4.out.lt⟩, ?_, HNU.out.add HNM.out⟩, ?_, (fun b e => ⟨⟨(HL4.out b e).1, own_lt HR4.out e⟩, (HL4.out b e).2⟩), fun b e => by injection e with e; injection e with e; rw [← e]; exact HT.out.2⟩
    · rcases List.mem_append.1 hy with h | h
      · exact H1.out.name y h
      · rw [List.mem_singleton] at h; rw [h]; exact HN.out
    · rw [List.length_append, List.length_singleton]
      exact map_but HM4.out hs5 HT.out.2
    · rw [List.length_append, List.length_singleton]
      exact own_but HR4.out hs5 (fun b e => (HL4.out b e).2)
  · have HM := Lib.hid hown
    have HT : Hid ((T mb ∨ w.heap.size ≤ mb) ∧ mb ≠ tb) := ⟨.inl hT, hne mb rfl⟩
    have HNU := Lib.hid hN
    have HMO := Lib.hid (map_not_row hown HV.out)
    clear hown hT hne hN hmm
    have HV2 := HV
    have HB2 := HB
    have H22 := H21
    have HO : Hid ((T mb ∨ w.heap.size ≤ mb) ∧ ∀ b, (Value.slice A x.length c).ownBlock = some b → b ≠ mb) := ⟨HT.out.1, HMO.out⟩
    go_wp2_with fail
    refine (len_at _ _ _ _ _ _ H22.out).mono ?_
    rintro e w' ⟨rfl, rfl⟩
    have hkey := strKey HS.out
    go_wp2_with (first
      | (at_mapUpdate; refine wpList_mapUpdate_own _ rfl _ _ _ 33 rfl 9 3 strKeyed Try.underlying33 _ mb x.length D rfl HM.out (by unfold maxLen; omega) _ _ _ rfl rfl hkey _ [] (plainElem_int Try.underlying3 (WalkArith.wf_i64 (by omega))) ?_)
      | go_in)
    intro w3 hown3 hgrow3
    have HM3 := Lib.hid hown3
    have H23 := Lib.hid (H22.out.but (But.of_grown (T := fun k => k = mb) hgrow3 fun b e => by cases e; rfl) (fun e => HT.out.2 e.symm))
    have HV3 : Hid (World.ownsRow w3 0 9 1 (.slice A x.length c) x.length (strs x)) := own_but HV2.out (But.of_grown (T := fun k => k = mb) hgrow3 fun b e => by cases e; rfl) (fun b e g => HO.out.2 b e g)
    have HB3 := Lib.hid (HB2.out.trans (But.of_grown (T := fun k => k = mb) hgrow3 fun b e => by cases e; rfl) fun i e => by rw [e]; exact HT.out.1)
    clear hown3 hgrow3 hkey HM
    obtain ⟨lt3, fr3, d0, d1⟩ := H23.out
    go_wp2_with (first
      | (at_builtin; refine wpList_append_name _ rfl _ _ rfl (.slice A x.length c) x.length x rfl (own_but HV3.out ((But.refl (fun _ => False) _).alloc _) (fun _ _ g => g)) ⟨w3.heap.size, 0, none⟩ 1 s.data.toList rfl (SRow.one _ _) (by omega) ?_)
      | go_in)
    intro v4 w4 hown4 hgrow4 hloc4
    have HA3 : Hid (But (fun _ => False) w3 (w3.alloc (.cells #[.string (mk s.data.toList)] 9))) := (But.refl _ _).alloc _
    have HG4 : Hid (But (fun k => (Value.slice A x.length c).ownBlock = some k) (w3.alloc (.cells #[.string (mk s.data.toList)] 9)) w4) := But.of_grown hgrow4 fun b e => e
    have H24 := Lib.hid ((H23.out.but HA3.out (fun g => g)).but HG4.out (fun e => (HO1.out tb e).2 rfl))
    have HM4 := Lib.hid (map_but (map_but HM3.out HA3.out (fun g => g)) HG4.out (fun e => HO.out.2 mb e rfl))
    have HB4 := Lib.hid ((HB3.out.alloc (.cells #[.string (mk s.data.toList)] 9)).trans HG4.out fun i e => .inl (HO1.out i e).1)
    have HR4 := Lib.hid hown4
    have HL4 : Hid (∀ b, v4.ownBlock = some b → (T b ∨ w.heap.size ≤ b) ∧ b ≠ tb) := fun b e => by
      rcases hloc4 with h | h
      · rw [h] at e; exact ⟨.inl (HO1.out b e).1, (HO1.out b e).2⟩
      · rw [h] at e
        injection e with e
        try rw [size_alloc] at e
        have := HB3.out.size; have := lt3
        exact ⟨.inr (by omega), by omega⟩
    clear hown4 hgrow4 hloc4
    obtain ⟨A4, c4, hv4, hx1, hx2⟩ := SRow.of_own HR4.out
    subst hv4
    clear hx1 hx2
    obtain ⟨lt4, fr4, e0, e1⟩ := H24.out
    go_wp2
    go_ret
    have HB5 := HB4.out.set tb 1 (.slice A4 (x.length + 1) c4) (.inl H1.out.own)
    have hs5 : But (fun k => k = tb) w4 (w4.setCell ⟨tb, 1, none⟩ (.slice A4 (x.length + 1) c4)) := (But.refl _ _).set _ _ _ (.inl rfl)
    refine ⟨rfl, fun b => (T b ∨ w.heap.size ≤ b) ∧ b < w4.heap.size, ?_, fun b g => g.1, HB5⟩
    refine ⟨List.nodup_append.2 ⟨H1.out.nodup, by simp, fun a ha b hb e => HNM.out (by rw [List.mem_singleton] at hb; rw [← hb, ← e]; exact ha)⟩, fun y hy => ?_, by rw [List.length_append, List.length_singleton]; omega, ⟨.inl H1.out.own, H24.out.lt⟩, (fun b g => Nat.lt_of_lt_of_le g.2 hs5.size), _, _, H24.out.set1 _, .inr ⟨mb, _, rfl, ⟨HT.out.1, HM4.out.lt⟩, ?_, HNU.out.add HNM.out⟩, ?_, (fun b e => ⟨⟨(HL4.out b e).1, own_lt HR4.out e⟩, (HL4.out b e).2⟩), fun b e => by injection e with e; injection e with e; rw [← e]; exact HT.out.2⟩
    · rcases List.mem_append.1 hy with h | h
      · exact H1.out.name y h
      · rw [List.mem_singleton] at h; rw [h]; exact HN.out
    · rw [List.length_append, List.length_singleton]
      exact map_but HM4.out hs5 HT.out.2
    · rw [List.length_append, List.length_singleton]
      exact own_but HR4.out hs5 (fun b e => (HL4.out b e).2)
end Go.Proofs.Ytpgfolfhfhfdhaa.Name
