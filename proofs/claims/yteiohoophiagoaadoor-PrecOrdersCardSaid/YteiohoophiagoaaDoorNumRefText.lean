/-
  The document's own numeral of a number (ferruleref01.Text): its decimal digits. No condition.
-/
import Derived.Test.YteiohoophiagoaaDoorNumIs
import Derived.Lib.ItoaMem
import Derived.Lib.ItoaLen
namespace Go.Proofs.YteiohoophiagoaaDoor.Num
open Go.RowKit

/-- What stands ahead of the digits that are there already. -/
def ahead (v : Nat) : List UInt8 := if v ≤ 9 then [] else Lib.decDigits (v / 10)
theorem ahead_all (v : Nat) : Lib.decDigits v = ahead v ++ [UInt8.ofNat (48 + v % 10)] := by
  unfold ahead
  by_cases h : v ≤ 9
  · rw [if_pos h, Lib.decDigits_one (by omega)]
    have : v % 10 = v := by omega
    rw [this]; rfl
  · rw [if_neg h, Lib.decDigits, dif_neg (by omega)]

/-- string of one new byte. -/
theorem run_one (W : World) (z : Nat) (hz : z ≤ 9) :
    (convert 51 9 (.slice (some ⟨W.heap.size, 0, none⟩) 1 1)).run Tryd.prog (W.alloc (.cells #[.int .u8 (48 + (z : Int))] 5)) = .ok (.string ⟨#[UInt8.ofNat (48 + z)]⟩) (W.alloc (.cells #[.int .u8 (48 + (z : Int))] 5)) := by
  exact run_convert_bytes_back (P := Tryd.prog) (W.alloc (.cells #[.int .u8 (48 + (z : Int))] 5)) 51 9 5 ⟨W.heap.size, 0, none⟩ 1 [UInt8.ofNat (48 + z)] Tryd.underlying51 Tryd.underlying5 Tryd.underlying9 (fun j hj => by
    have hj0 : j = 0 := by simpa using hj
    subst hj0
    rw [add_none, World.cell?_alloc_new]
    simp [UInt8.toNat_ofNat']
    omega)

theorem div_cast (u : Nat) : ((u / 10 : Nat) : Int) = (u : Int) / 10 := by omega
theorem rem_cast (u : Nat) : ((u % 10 : Nat) : Int) = (u : Int) % 10 := by omega

def TextJ (w : World) (u : Nat) (a s : Value) (wr : World) : Prop :=
  ∃ (b : Int) (v : Nat) (x : ByteArray), a = .int .u64 b ∧ s = .string x ∧ Hid (b = (v : Int) ∧ Lib.decDigits u = ahead v ++ x.data.toList) ∧ 0 ≤ b ∧ b ≤ 18446744073709551615 ∧ Below w.heap.size w wr

set_option maxHeartbeats 800000 in
theorem ref_text_any (u : Nat) (w : World) (h : u < 18446744073709551616) :
    Calls Tryd.prog 26 #[.int .u64 u] w fun e w' => e = .returned (.string ⟨(Lib.decDigits u).toArray⟩) ∧ Below w.heap.size w w' := by
  have HU := Lib.hid h; clear h
  have hcv := run_one w (u % 10) (by omega)
  rw [rem_cast] at hcv
  have HA : Hid (Lib.decDigits u = ahead u ++ (⟨#[UInt8.ofNat (48 + u % 10)]⟩ : ByteArray).data.toList) := ahead_all u
  generalize (⟨#[UInt8.ofNat (48 + u % 10)]⟩ : ByteArray) = x0 at hcv HA
  go_enter Tryd.func26, Tryd.ntmps26
  go_wp2
  go_loopw [0, 3] (fun a s wr => TextJ w u a s wr) (fun a _ _ => (intOf a).toNat)
  case atStart => exact ⟨u, u, x0, rfl, rfl, ⟨rfl, HA.out⟩, by omega, by have := HU.out; omega, (Below.refl _ _).alloc (Nat.le_refl _) _⟩
  case round =>
    rename_i wr
    obtain ⟨b, v, x, rfl, rfl, HX, h0, h1, hb⟩ := hrel
    have HB := Lib.hid hb; clear hb
    by_cases hgt : 9 < b
    · have hv : 9 < v := by have := HX.out.1; omega
      have hcv2 := run_one wr (v / 10 % 10) (by omega)
      rw [rem_cast, div_cast, ← HX.out.1] at hcv2
      have HN : Hid (Lib.decDigits u = ahead (v / 10) ++ ((⟨#[UInt8.ofNat (48 + v / 10 % 10)]⟩ : ByteArray) ++ x).data.toList) := by
        have e := HX.out.2
        have e2 : ahead v = Lib.decDigits (v / 10) := by unfold ahead; rw [if_neg (by omega)]
        rw [e2, ahead_all (v / 10)] at e
        unfold Hid
        rw [e, ByteArray.data_append, Array.toList_append, List.append_assoc]
      have hx : x.size ≤ 20 := by
        have e := congrArg List.length HX.out.2
        rw [List.length_append, ← Lib.size_eq, Lib.decDigits_length] at e
        have := Lib.nDigits_le20 u HU.out
        omega
      have hy : (⟨#[UInt8.ofNat (48 + v / 10 % 10)]⟩ : ByteArray).size ≤ 1 := Nat.le_refl 1
      generalize (⟨#[UInt8.ofNat (48 + v / 10 % 10)]⟩ : ByteArray) = y at hcv2 HN hy
      clear hv
      go_wp2
      go_roundw
      case rel => exact ⟨_, v / 10, _, rfl, rfl, ⟨by rw [HX.out.1, div_cast], HN.out⟩, by omega, by omega, HB.out.alloc HB.out.size _⟩
      case measure => simp [intOf]; omega
    · have HE : Hid (x = ⟨(Lib.decDigits u).toArray⟩) := by
        have e := HX.out.2
        unfold ahead at e
        rw [if_pos (by have := HX.out.1; omega), List.nil_append] at e
        unfold Hid
        rw [e, Lib.mk_data]
      go_wp2
      go_ret
      exact ⟨by rw [← HE.out]; rfl, HB.out⟩
end Go.Proofs.YteiohoophiagoaaDoor.Num
