/-
  A version in a block of memory, its rows beside it: what stays of it. Plain facts of memory.
-/
import Derived.Test.YteiohoophiagoaaDoorSvMem
namespace Go.Proofs.YteiohoophiagoaaDoor.Prec
open Go.RowKit Num Ident Semver

/-- The block b holds this version, its rows lie at A and B. -/
def VAt (W : World) (b : Nat) (v : Ver) (A : Option Addr) (c : Nat) (B : Option Addr) (d : Nat) : Prop :=
  At5 W b (.int .u64 (v.a : Int)) (.int .u64 (v.b : Int)) (.int .u64 (v.c : Int)) (.slice A v.pre.length c) (.slice B v.build.length d) ∧ SRow W A v.pre.length v.pre ∧ SRow W B v.build.length v.build
theorem VAt.kept {W W' : World} {b : Nat} {v : Ver} {A : Option Addr} {c : Nat} {B : Option Addr} {d : Nat} (h : VAt W b v A c B d) (hb : Below W.heap.size W W') : VAt W' b v A c B d :=
  ⟨h.1.kept hb h.1.1, h.2.1.kept hb, h.2.2.kept hb⟩
theorem VAt.new (W : World) {v : Ver} {A : Option Addr} {c : Nat} {B : Option Addr} {d : Nat} (h1 : SRow W A v.pre.length v.pre) (h2 : SRow W B v.build.length v.build) (t : TypeId) :
    VAt (W.alloc (.cells #[.int .u64 (v.a : Int), .int .u64 (v.b : Int), .int .u64 (v.c : Int), .slice A v.pre.length c, .slice B v.build.length d] t)) W.heap.size v A c B d :=
  ⟨At5.new _ _ _ _ _ _ _, h1.kept ((Below.refl _ _).alloc (Nat.le_refl _) _), h2.kept ((Below.refl _ _).alloc (Nat.le_refl _) _)⟩
theorem VAt.alloc {W : World} {b : Nat} {v : Ver} {A : Option Addr} {c : Nat} {B : Option Addr} {d : Nat} (h : VAt W b v A c B d) (o : Obj) : VAt (W.alloc o) b v A c B d := h.kept ((Below.refl _ _).alloc (Nat.le_refl _) _)
theorem VAt.lt {W : World} {b : Nat} {v : Ver} {A : Option Addr} {c : Nat} {B : Option Addr} {d : Nat} (h : VAt W b v A c B d) : b < W.heap.size := h.1.1
/-- Its cells. -/
theorem VAt.cells {W : World} {b : Nat} {v : Ver} {A : Option Addr} {c : Nat} {B : Option Addr} {d : Nat} (h : VAt W b v A c B d) :
    W.cell? ⟨b, 0, none⟩ = some (.int .u64 (v.a : Int)) ∧ W.cell? ⟨b, 1, none⟩ = some (.int .u64 (v.b : Int)) ∧ W.cell? ⟨b, 2, none⟩ = some (.int .u64 (v.c : Int)) ∧ W.cell? ⟨b, 3, none⟩ = some (.slice A v.pre.length c) ∧ W.cell? ⟨b, 4, none⟩ = some (.slice B v.build.length d) := h.1.2.2
end Go.Proofs.YteiohoophiagoaaDoor.Prec
