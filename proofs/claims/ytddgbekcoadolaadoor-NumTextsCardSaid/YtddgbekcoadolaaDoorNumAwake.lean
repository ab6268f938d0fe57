/-
  The statements' own look at two examples of the document (awake) answers true and writes nothing that was there. No condition.
-/
import Derived.Test.YtddgbekcoadolaaDoorNumWalks
import Derived.Lib.SlBytesConst
namespace Go.Proofs.YtddgbekcoadolaaDoor.Num
open Go.RowKit

theorem size_alloc (w : World) (o : Obj) : (w.alloc o).heap.size = w.heap.size + 1 := by simp

/-- A new block of bytes reads as its list. -/
theorem Row.new (w : World) (l : List UInt8) (C : Array Value) (t : TypeId) (fr : Nat × Nat) (hC : C.toList = l.map (fun b => Value.int .u8 (b.toNat : Int))) (hm : l.length ≤ maxLen) :
    Row (w.alloc (.cells C t fr)) (some ⟨w.heap.size, 0, none⟩) l.length l := by
  refine ⟨rfl, hm, fun _ => ⟨w.heap.size, 0, rfl, by simp, fun j hj => ?_⟩⟩
  have hh : (w.alloc (.cells C t fr)).heap[w.heap.size]? = some (.cells C t fr) := by
    show (w.heap.push _)[w.heap.size]? = _
    simp
  have e1 : (w.alloc (.cells C t fr)).cell? ⟨w.heap.size, 0 + j, none⟩ = C[0 + j]? := cell_of_row _ _ _ C t fr hh
  rw [e1, Nat.zero_add, ← Array.getElem?_toList, hC]
  unfold byteAt
  simp [List.getElem?_eq_getElem hj]

theorem ex_120 : parseOut [49, 50, 48, 46, 51] 0 = .tuple #[.int .u64 120, .int .i64 3, .int .i64 0] := by
  have e : parse [49, 50, 48, 46, 51] 0 = (120, 3, 0) := by decide +kernel
  unfold parseOut; rw [e]; rfl
theorem ex_007 : parseOut [48, 48, 55] 0 = .tuple #[.int .u64 0, .int .i64 0, .int .i64 3] := by
  have e : parse [48, 48, 55] 0 = (0, 0, 3) := by decide +kernel
  unfold parseOut; rw [e]; rfl

set_option maxHeartbeats 400000 in
theorem awake_any (w : World) :
    Calls Tryd.prog 5 #[] w fun e w' => e = .returned (.bool true) ∧ Below w.heap.size w w' := by
  have kc := fun (w : World) (C : Array Value) (n c : Nat) => Lib.run_convert_bytes_const (P := Tryd.prog) w 29 5 C n c Tryd.underlying29 Tryd.underlying5
  have kc2 : ∀ (X : Obj) (C : Array Value) (n c : Nat), (convert 29 29 (.slice (some ⟨w.heap.size + 1, 0, none⟩) n c)).run Tryd.prog ((w.alloc X).alloc (.cells C 5)) = .ok (.slice (some ⟨w.heap.size + 1, 0, none⟩) n c) ((w.alloc X).alloc (.cells C 5 (C.size, C.size + 1))) := by
    intro X C n c
    have := kc (w.alloc X) C n c
    rwa [size_alloc] at this
  have R1 := fun W : World => Row.new W [49, 50, 48, 46, 51] #[.int .u8 49, .int .u8 50, .int .u8 48, .int .u8 46, .int .u8 51] 5 (5, 6) rfl (by unfold maxLen; decide)
  have R2 := fun W : World => Row.new W [48, 48, 55] #[.int .u8 48, .int .u8 48, .int .u8 55] 5 (3, 4) rfl (by unfold maxLen; decide)
  have H1 := Lib.hid R1
  have H2 := Lib.hid R2
  clear R1 R2
  go_enter Tryd.func5, Tryd.ntmps5
  go_wp2_with fail
  refine (parse_any _ 5 5 [49, 50, 48, 46, 51] 0 _ (H1.out _) (by omega)).mono ?_
  rintro e w' ⟨rfl, rfl⟩
  rw [ex_120]
  go_wp2_with fail
  have R2 := H2.out (w.alloc (.cells #[.int .u8 49, .int .u8 50, .int .u8 48, .int .u8 46, .int .u8 51] 5 (5, 6)))
  rw [size_alloc] at R2
  refine (parse_any _ 3 3 [48, 48, 55] 0 _ R2 (by omega)).mono ?_
  rintro e w' ⟨rfl, rfl⟩
  rw [ex_007]
  go_wp2
  go_ret
  exact ⟨rfl, ((Below.refl _ _).alloc (Nat.le_refl _) _).alloc (by simp) _⟩
end Go.Proofs.YtddgbekcoadolaaDoor.Num
