/-
  The names of NameMost, as plain mathematics: each is a name, no two are like. Condition: the numbers are below 4101.
-/
import Derived.Test.YtpgfolfhfhfdhaaNaMath
namespace Go.Proofs.Ytpgfolfhfhfdhaa.Name
open Go.RowKit Num
/-- The i-th name that NameMost adds. -/
def nm (i : Nat) : List UInt8 := [UInt8.ofNat (97 + i % 16), UInt8.ofNat (97 + i / 16 % 16), UInt8.ofNat (97 + i / 256 % 16), UInt8.ofNat (97 + i / 4096)]
theorem byte_of {n : Nat} (h : n < 256) : (UInt8.ofNat n).toNat = n := by rw [UInt8.toNat_ofNat']; omega
theorem nm_inj {i j : Nat} (hi : i < 4101) (hj : j < 4101) (h : nm i = nm j) : i = j := by
  unfold nm at h
  injection h with h0 h
  injection h with h1 h
  injection h with h2 h
  injection h with h3 h
  have e0 := congrArg UInt8.toNat h0
  have e1 := congrArg UInt8.toNat h1
  have e2 := congrArg UInt8.toNat h2
  have e3 := congrArg UInt8.toNat h3
  rw [byte_of (by omega), byte_of (by omega)] at e0 e1 e2 e3
  omega
theorem ok_low {k n : Nat} (h : 97 ≤ n ∧ n ≤ 122) : okB k ((n : Nat) : Int) = true := (okB_iff _ _).2 (.inl ((fstB_iff _).2 (.inl (by omega))))
theorem nm_name {i : Nat} (hi : i < 4101) : isName (nm i) = true := by
  rw [isName_iff]
  refine ⟨?_, by simp [nm], by simp [nm]⟩
  unfold nlen nm
  simp only [nrun, byte_of (show 97 + i % 16 < 256 by omega), byte_of (show 97 + i / 16 % 16 < 256 by omega), byte_of (show 97 + i / 256 % 16 < 256 by omega), byte_of (show 97 + i / 4096 < 256 by omega)]
  rw [if_pos (ok_low (by omega)), if_pos (ok_low (by omega)), if_pos (ok_low (by omega)), if_pos (ok_low (by omega))]
  rfl
/-- The first k of them. -/
def nms (k : Nat) : List (List UInt8) := (List.range k).map nm
theorem nms_length (k : Nat) : (nms k).length = k := by simp [nms]
theorem nms_succ (k : Nat) : nms (k + 1) = nms k ++ [nm k] := by simp [nms, List.range_succ]
theorem nms_mem {k i : Nat} (hk : k ≤ 4101) (hi : i < 4101) : nm i ∈ nms k ↔ i < k := by
  unfold nms
  rw [List.mem_map]
  constructor
  · rintro ⟨j, hj, e⟩
    have hj := List.mem_range.1 hj
    rw [← nm_inj (by omega) hi e]; exact hj
  · intro h; exact ⟨i, List.mem_range.2 h, rfl⟩
theorem nms_at {k i : Nat} (hi : i < k) : (nms k).getD i [] = nm i := by
  unfold nms
  rw [List.getD_eq_getElem?_getD, List.getElem?_map, List.getElem?_range hi]; rfl
theorem nms_nodup {k : Nat} (hk : k ≤ 4101) : (nms k).Nodup := by
  unfold nms
  refine List.pairwise_map.2 ?_
  refine List.nodup_range.imp_of_mem fun {a b} ha hb h e => h (nm_inj ?_ ?_ e)
  · have := List.mem_range.1 ha; omega
  · have := List.mem_range.1 hb; omega
theorem nms_find {k i : Nat} (hk : k ≤ 4101) (hi : i < k) : find (nms k) (nm i) = i := by
  have := find_of (nms_nodup hk) i (by rw [nms_length]; exact hi)
  rwa [nms_at hi] at this
end Go.Proofs.Ytpgfolfhfhfdhaa.Name
