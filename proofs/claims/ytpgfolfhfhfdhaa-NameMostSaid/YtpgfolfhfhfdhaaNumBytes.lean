/-
  []byte(s) with its spare room, and one byte appended onto it. Conditions: as each states.
-/
import Derived.Test.YtpgfolfhfhfdhaaNumMem
import Derived.ArgAppend
import Derived.Lib.ConvBytes
import Derived.Lib.Bytealg
import Derived.WalkSpells
namespace Go.Proofs.Ytpgfolfhfhfdhaa.Num
open Go.RowKit

/-- []byte(s): a new row that reads as the text. -/
theorem run_bytesD (w : World) (s : ByteArray) (hs : s.size ≤ maxLen) : ∃ c W, s.size ≤ c ∧
    (convert 9 22 (.string s)).run Try.prog w = .ok (.slice (some ⟨w.heap.size, 0, none⟩) s.size c) W ∧ Row W (some ⟨w.heap.size, 0, none⟩) s.size s.data.toList ∧ BelowD w.heap.size w W := by
  refine ⟨_, _, grownCap_ge w s.size 0 5, Lib.run_convert_string_bytes (P := Try.prog) w 9 22 5 s Try.underlying9 Try.underlying22 Try.underlying5, ?_, ?_⟩
  · refine ⟨(Lib.size_eq s).symm, hs, fun h0 => ⟨w.heap.size, 0, rfl, by rw [Lib.bytesWorld_size]; omega, fun j hj => ?_⟩⟩
    rw [Nat.zero_add, Lib.bytesWorld_cell w 5 s j hj]; rfl
  · exact ⟨⟨by simp [Lib.bytesWorld, World.freeze]; rfl, by simp [Lib.bytesWorld, World.freeze], by simp [Lib.bytesWorld, World.freeze]; rfl, by rw [Lib.bytesWorld_size]; omega, fun k hk => Lib.bytesWorld_at_old w 5 s k hk⟩, by simp [Lib.bytesWorld, World.freeze]⟩

theorem run_bytes (w : World) (s : ByteArray) (hs : s.size ≤ maxLen) : ∃ c W, s.size ≤ c ∧
    (convert 9 22 (.string s)).run Try.prog w = .ok (.slice (some ⟨w.heap.size, 0, none⟩) s.size c) W ∧ Row W (some ⟨w.heap.size, 0, none⟩) s.size s.data.toList ∧ Below w.heap.size w W := by
  obtain ⟨c, W, h1, h2, h3, h4⟩ := run_bytesD w s hs
  exact ⟨c, W, h1, h2, h3, h4.toBelow⟩

/-- []byte(s), with its spare room. -/
theorem run_bytes_room (w : World) (s : ByteArray) (hs : s.size ≤ maxLen) : ∃ c W, s.size ≤ c ∧
    (convert 9 22 (.string s)).run Try.prog w = .ok (.slice (some ⟨w.heap.size, 0, none⟩) s.size c) W ∧ Row W (some ⟨w.heap.size, 0, none⟩) s.size s.data.toList ∧ Below w.heap.size w W ∧ w.heap.size < W.heap.size ∧
    ∀ j, s.size ≤ j → j < c → (W.cell? ⟨w.heap.size, j, none⟩).isSome = true ∧ W.frozen? ⟨w.heap.size, j, none⟩ = false := by
  refine ⟨_, _, grownCap_ge w s.size 0 5, Lib.run_convert_string_bytes (P := Try.prog) w 9 22 5 s Try.underlying9 Try.underlying22 Try.underlying5, ?_, ?_, by rw [Lib.bytesWorld_size]; omega, ?_⟩
  · refine ⟨(Lib.size_eq s).symm, hs, fun h0 => ⟨w.heap.size, 0, rfl, by rw [Lib.bytesWorld_size]; omega, fun j hj => ?_⟩⟩
    rw [Nat.zero_add, Lib.bytesWorld_cell w 5 s j hj]; rfl
  · exact ⟨by simp [Lib.bytesWorld, World.freeze]; rfl, by simp [Lib.bytesWorld, World.freeze], by simp [Lib.bytesWorld, World.freeze]; rfl, by rw [Lib.bytesWorld_size]; omega, fun k hk => Lib.bytesWorld_at_old w 5 s k hk⟩
  · intro j hj hjc
    have hge := grownCap_ge w s.size 0 5
    have hsz : (Lib.bytesCells w 5 s).size = grownCap w s.size 0 5 := by
      unfold Lib.bytesCells
      have : s.data.size = s.size := rfl
      simp [this]; omega
    have hn := Lib.bytesWorld_at_new w 5 s
    constructor
    · rw [cell_of_row _ _ _ _ _ _ hn, Array.getElem?_eq_getElem (by rw [hsz]; exact hjc)]; rfl
    · simp only [World.frozen?, hn]
      rw [hsz]
      simp; omega

theorem run_append_one (w : World) (ty : TypeId) (base g n c : Nat) (l : List UInt8) (hr : Row w (some ⟨g, 0, none⟩) n l) (hbg : base ≤ g) (hbw : base ≤ w.heap.size)
    (hspare : ∀ j, n ≤ j → j < c → (w.cell? ⟨g, j, none⟩).isSome = true ∧ w.frozen? ⟨g, j, none⟩ = false) (b : UInt8) (k : Nat)
    (hk : w.cell? ⟨k, 0, none⟩ = some (.int .u8 (b.toNat : Int))) (hlim : n + 1 ≤ 140737488355328) (hg : g < w.heap.size) :
    ∃ A' c' w', (Builtin.append_ #[22, 22] ty #[.slice (some ⟨g, 0, none⟩) n c, .slice (some ⟨k, 0, none⟩) 1 1]).run Try.prog w = .ok (.slice A' (n + 1) c') w' ∧ n + 1 ≤ c' ∧ Row w' A' (n + 1) (l ++ [b]) ∧ Below base w w' := by
  obtain ⟨i, hi, hz, hsi, hby⟩ := info_parts byteInfo
  have hnews : ∀ j u, (cells [b])[j]? = some u → w.cell? ((⟨k, 0, none⟩ : Addr).add j) = some u := by
    intro j u hu
    have hj : j = 0 := by
      have := (List.getElem?_eq_some_iff.1 hu).1
      rw [cells_length] at this; simp at this; omega
    subst hj
    rw [add_none, hk]
    exact hu
  have holds : ∀ j u, (cells l)[j]? = some u → w.cell? ((⟨g, 0, none⟩ : Addr).add j) = some u := hr.news
  by_cases hroom : n + 1 ≤ c
  · have hrun := run_append_room_cells (P := Try.prog) w 22 ty 5 i Try.underlying22 hi g 0 n c ⟨k, 0, none⟩ 1 1 (cells [b]) (by rw [hsi]; rfl) hnews (cells_one _) hroom
      (fun j hj => by have := (hspare (n + j) (by omega) (by rw [cells_length] at hj; simp at hj; omega)).1; rwa [hsi, Nat.mul_one, Nat.zero_add])
      (fun j hj => by have := (hspare (n + j) (by omega) (by rw [cells_length] at hj; simp at hj; omega)).2; rwa [hsi, Nat.mul_one, Nat.zero_add])
    rw [hsi, Nat.mul_one, Nat.zero_add] at hrun
    refine ⟨_, c, _, hrun, hroom, ⟨by rw [List.length_append, hr.1]; rfl, by unfold maxLen; omega, fun _ => ⟨g, 0, rfl, ?_, fun j hj => ?_⟩⟩, ?_⟩
    · show g < (w.setCell ⟨g, n, none⟩ _).heap.size
      simpa [World.setCell] using hg
    · rw [Nat.zero_add]
      rcases Nat.lt_or_ge j n with hlt | hge
      · rw [World.cell?_setCells_out g (cells [b]) n w ⟨g, j, none⟩ (fun _ _ => .inl hlt)]
        have := holds j _ (cells_at l j (by rw [hr.1]; exact hlt))
        rw [add_none, Nat.zero_add] at this
        rw [this]
        unfold byteAt
        rw [List.getD, List.getD, List.getElem?_append_left (by rw [hr.1]; exact hlt)]
      · obtain rfl : j = n := by omega
        have := World.cell?_setCells_in g (cells [b]) j w (fun i hi' => by
          have := (hspare (j + i) (by omega) (by rw [cells_length] at hi'; simp at hi'; omega)).1
          exact this) 0 (by rw [cells_length]; exact Nat.zero_lt_one)
        rw [Nat.add_zero] at this
        rw [this]
        unfold byteAt
        rw [List.getD, List.getElem?_append_right (by rw [hr.1]; exact Nat.le_refl _), hr.1]
        simp [cells]
    · exact (Below.refl base w).setCell hbg _
  · obtain ⟨v', w', hrun, h2, h3⟩ := run_append_arg_grows (P := Try.prog) w 22 ty 5 i (.int .u8 0) 1 1 Try.underlying22 hi hz hsi hby rfl (by omega) ⟨g, 0, none⟩ n c (cells l) (by rw [cells_length, hr.1]; omega) holds ⟨k, 0, none⟩ 1 1 (cells [b]) rfl hnews (by omega) (by unfold maxLen; omega) (by omega)
    rw [← cells_append] at h2
    obtain ⟨A', c', rfl, h4, h5⟩ := Row.of_own h2
    exact ⟨A', c', w', hrun, h4, h5, (Below.refl base w).grown h3 hbw (fun k hk => by cases hk)⟩

theorem wpList_append_one (w : World) {ops : Array Oper} {rest : List Oper} {o : Oper} {a : Act} {Q : Exit → Act → World → Prop} (hgd : o.guard = none) (s x : Operand)
    (ho : o.op = .call { callee := .builtin .append, args := #[s, x], argTypes := #[22, 22] })
    (base g n c : Nat) (l : List UInt8) (hs : a.eval s = .slice (some ⟨g, 0, none⟩) n c) (hr : Row w (some ⟨g, 0, none⟩) n l) (hbg : base ≤ g) (hbw : base ≤ w.heap.size)
    (hspare : ∀ j, n ≤ j → j < c → (w.cell? ⟨g, j, none⟩).isSome = true ∧ w.frozen? ⟨g, j, none⟩ = false) (b : UInt8) (k : Nat) (hx : a.eval x = .slice (some ⟨k, 0, none⟩) 1 1)
    (hk : w.cell? ⟨k, 0, none⟩ = some (.int .u8 (b.toNat : Int))) (hlim : n + 1 ≤ 140737488355328) (hg : g < w.heap.size)
    (h : ∀ A' c' w', n + 1 ≤ c' → Row w' A' (n + 1) (l ++ [b]) → Below base w w' → wpList Try.prog ops Q rest (a.put o.dst (.slice A' (n + 1) c')) w') : wpList Try.prog ops Q (o :: rest) a w := by
  refine wpList_plain hgd fun K hK => ?_
  obtain ⟨A', c', w', hrun, h2, h3, h4⟩ := run_append_one w o.type base g n c l hr hbg hbw hspare b k hk hlim hg
  unfold Oper.wp execOp
  simp only [ho, resolve, invoke, builtin, Sem.run_bind, Sem.run_pure, Result.andThen_ok, List.map_toArray, List.map_cons, List.map_nil, hs, hx, hrun]
  exact hK _ _ (h A' c' w' h2 h3 h4)
end Go.Proofs.Ytpgfolfhfhfdhaa.Num
