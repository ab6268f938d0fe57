/-
  Whether two arrays of three numbers are the same: what the operation answers. No condition.
-/
import Derived.Test.YtolkcblkciafiaaDoorChecked
import Derived.WalkKit
import Derived.ChangeKeysEq
import Derived.Laws.StructEq
namespace Go.Proofs.YtolkcblkciafiaaDoor.Semver
open Go.RowKit

theorem run_eq3 (n0 n1 n2 m0 m1 m2 : Int) (w : World) :
    (Op.equalIn 10000 66 (.agg #[.int .u64 n0, .int .u64 n1, .int .u64 n2]) (.agg #[.int .u64 m0, .int .u64 m1, .int .u64 m2])).run Tryd.prog w = .ok (n0 == m0 && (n1 == m1 && n2 == m2)) w := by
  obtain ⟨i, hi⟩ := Option.isSome_iff_exists.1 (show (Tryd.prog.info? 23).isSome = true by kernel_rfl)
  have hc : Tryd.prog.cellsOf 23 = 1 := by kernel_rfl
  have hp : Tryd.prog.plainKey 23 = true := by kernel_rfl
  have q0 := run_part_plain (P := Tryd.prog) w hp (xs := #[.int .u64 n0, .int .u64 n1, .int .u64 n2]) (off := 0) rfl
  have q1 := run_part_plain (P := Tryd.prog) w hp (xs := #[.int .u64 n0, .int .u64 n1, .int .u64 n2]) (off := 1) rfl
  have q2 := run_part_plain (P := Tryd.prog) w hp (xs := #[.int .u64 n0, .int .u64 n1, .int .u64 n2]) (off := 2) rfl
  have p0 := run_part_plain (P := Tryd.prog) w hp (xs := #[.int .u64 m0, .int .u64 m1, .int .u64 m2]) (off := 0) rfl
  have p1 := run_part_plain (P := Tryd.prog) w hp (xs := #[.int .u64 m0, .int .u64 m1, .int .u64 m2]) (off := 1) rfl
  have p2 := run_part_plain (P := Tryd.prog) w hp (xs := #[.int .u64 m0, .int .u64 m1, .int .u64 m2]) (off := 2) rfl
  have e := fun a b : Int => run_equalIn_int (P := Tryd.prog) w 9998 23 .u64 .u64 a b Tryd.underlying23
  rw [run_equalIn_array w 9999 _ _ Tryd.underlying66 hi, hc, show List.range 3 = [0, 1, 2] from rfl]
  simp only [Op.eqItems, Sem.run_bind, Nat.mul_one, q0, p0, Result.andThen_ok]
  cases h0 : n0 == m0 <;> cases h1 : n1 == m1 <;> cases h2 : n2 == m2 <;> simp [q1, q2, p1, p2, e, h0, h1, h2]
end Go.Proofs.YtolkcblkciafiaaDoor.Semver
