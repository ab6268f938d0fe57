/-
  Blocks of memory as versions use them: seven cells, stores that leave rows of texts as they are, what the document's answers leave. Conditions: as each states.
-/
import Derived.Test.YtolkcblkciafiaaDoorIdMem
import Derived.Test.YtolkcblkciafiaaDoorSvMath
namespace Go.Proofs.YtolkcblkciafiaaDoor.Semver
open Go.RowKit Num Ident

/-- A block of 7 cells, none frozen. -/
def At7 (W : World) (b : Nat) (u0 u1 u2 u3 u4 u5 u6 : Value) : Prop := b < W.heap.size ∧ (∀ o, W.frozen? ⟨b, o, none⟩ = false) ∧ W.cell? ⟨b, 0, none⟩ = some u0 ∧ W.cell? ⟨b, 1, none⟩ = some u1 ∧ W.cell? ⟨b, 2, none⟩ = some u2 ∧ W.cell? ⟨b, 3, none⟩ = some u3 ∧ W.cell? ⟨b, 4, none⟩ = some u4 ∧ W.cell? ⟨b, 5, none⟩ = some u5 ∧ W.cell? ⟨b, 6, none⟩ = some u6
theorem At7.new (w : World) (t : TypeId) (u0 u1 u2 u3 u4 u5 u6 : Value) : At7 (w.alloc (.cells #[u0, u1, u2, u3, u4, u5, u6] t)) w.heap.size u0 u1 u2 u3 u4 u5 u6 := by
  unfold At7
  refine ⟨by simp, fun o => by simp [go_sem], ?_, ?_, ?_, ?_, ?_, ?_, ?_⟩ <;> simp [go_sem]
theorem At7.kept {W W' : World} {b B : Nat} {u0 u1 u2 u3 u4 u5 u6 : Value} (h : At7 W b u0 u1 u2 u3 u4 u5 u6) (hb : Below B W W') (hB : b < B) : At7 W' b u0 u1 u2 u3 u4 u5 u6 := by
  obtain ⟨h1, h2, c0, c1, c2, c3, c4, c5, c6⟩ := h
  exact ⟨Nat.lt_of_lt_of_le h1 hb.size, fun o => (hb.frozen (p := ⟨b, o, none⟩) hB).trans (h2 o), (hb.cell (p := ⟨b, 0, none⟩) hB).trans c0, (hb.cell (p := ⟨b, 1, none⟩) hB).trans c1, (hb.cell (p := ⟨b, 2, none⟩) hB).trans c2, (hb.cell (p := ⟨b, 3, none⟩) hB).trans c3, (hb.cell (p := ⟨b, 4, none⟩) hB).trans c4, (hb.cell (p := ⟨b, 5, none⟩) hB).trans c5, (hb.cell (p := ⟨b, 6, none⟩) hB).trans c6⟩
/-- Seven stores, one behind the other. -/
theorem set7 {w : World} {A : Option Addr} {n : Nat} {xs : List (List UInt8)} (h : SRow w A n xs) {b : Nat} {u0 u1 u2 u3 u4 u5 u6 : Value} (k : At7 w b u0 u1 u2 u3 u4 u5 u6)
    (s0 : ∀ s, u0 ≠ .string s) (s1 : ∀ s, u1 ≠ .string s) (s2 : ∀ s, u2 ≠ .string s) (s3 : ∀ s, u3 ≠ .string s) (s4 : ∀ s, u4 ≠ .string s) (s5 : ∀ s, u5 ≠ .string s) (s6 : ∀ s, u6 ≠ .string s) (v0 v1 v2 v3 v4 v5 v6 : Value) :
    SRow (((((((w.setCell ⟨b, 0, none⟩ v0).setCell ⟨b, 1, none⟩ v1).setCell ⟨b, 2, none⟩ v2).setCell ⟨b, 3, none⟩ v3).setCell ⟨b, 4, none⟩ v4).setCell ⟨b, 5, none⟩ v5).setCell ⟨b, 6, none⟩ v6) A n xs := by
  obtain ⟨_, _, c0, c1, c2, c3, c4, c5, c6⟩ := k
  refine SRow.set (SRow.set (SRow.set (SRow.set (SRow.set (SRow.set (SRow.set h c0 s0 v0) (u := u1) ?_ s1 v1) (u := u2) ?_ s2 v2) (u := u3) ?_ s3 v3) (u := u4) ?_ s4 v4) (u := u5) ?_ s5 v5) (u := u6) ?_ s6 v6
  · exact (cell_beside _ _ _ _ _ (by omega)).trans (c1)
  · exact (cell_beside _ _ _ _ _ (by omega)).trans ((cell_beside _ _ _ _ _ (by omega)).trans (c2))
  · exact (cell_beside _ _ _ _ _ (by omega)).trans ((cell_beside _ _ _ _ _ (by omega)).trans ((cell_beside _ _ _ _ _ (by omega)).trans (c3)))
  · exact (cell_beside _ _ _ _ _ (by omega)).trans ((cell_beside _ _ _ _ _ (by omega)).trans ((cell_beside _ _ _ _ _ (by omega)).trans ((cell_beside _ _ _ _ _ (by omega)).trans (c4))))
  · exact (cell_beside _ _ _ _ _ (by omega)).trans ((cell_beside _ _ _ _ _ (by omega)).trans ((cell_beside _ _ _ _ _ (by omega)).trans ((cell_beside _ _ _ _ _ (by omega)).trans ((cell_beside _ _ _ _ _ (by omega)).trans (c5)))))
  · exact (cell_beside _ _ _ _ _ (by omega)).trans ((cell_beside _ _ _ _ _ (by omega)).trans ((cell_beside _ _ _ _ _ (by omega)).trans ((cell_beside _ _ _ _ _ (by omega)).trans ((cell_beside _ _ _ _ _ (by omega)).trans ((cell_beside _ _ _ _ _ (by omega)).trans (c6))))))

theorem At3.set0 {W : World} {b : Nat} {x y z : Value} (h : At3 W b x y z) (v : Value) : At3 (W.setCell ⟨b, 0, none⟩ v) b v y z := by
  obtain ⟨h1, h2, c0, c1, c2⟩ := h
  refine ⟨by simpa using h1, fun o => by simp [go_sem, h2], ?_, ?_, ?_⟩ <;> simp [go_sem, c0, c1, c2]
theorem At3.set1 {W : World} {b : Nat} {x y z : Value} (h : At3 W b x y z) (v : Value) : At3 (W.setCell ⟨b, 1, none⟩ v) b x v z := by
  obtain ⟨h1, h2, c0, c1, c2⟩ := h
  refine ⟨by simpa using h1, fun o => by simp [go_sem, h2], ?_, ?_, ?_⟩ <;> simp [go_sem, c0, c1, c2]
theorem At3.set2 {W : World} {b : Nat} {x y z : Value} (h : At3 W b x y z) (v : Value) : At3 (W.setCell ⟨b, 2, none⟩ v) b x y v := by
  obtain ⟨h1, h2, c0, c1, c2⟩ := h
  refine ⟨by simpa using h1, fun o => by simp [go_sem, h2], ?_, ?_, ?_⟩ <;> simp [go_sem, c0, c1, c2]
/-- A store into another block. -/
theorem At7.beside {W : World} {b b' o : Nat} {u0 u1 u2 u3 u4 u5 u6 : Value} (h : At7 W b u0 u1 u2 u3 u4 u5 u6) (hb : b ≠ b') (v : Value) : At7 (W.setCell ⟨b', o, none⟩ v) b u0 u1 u2 u3 u4 u5 u6 := by
  obtain ⟨h1, h2, c0, c1, c2, c3, c4, c5, c6⟩ := h
  have k : ∀ j, (W.setCell ⟨b', o, none⟩ v).cell? ⟨b, j, none⟩ = W.cell? ⟨b, j, none⟩ := fun j => World.cell?_setCell_other _ _ _ _ (by intro e; injection e with e; exact hb e.symm)
  exact ⟨by simpa using h1, fun o => by simp [go_sem, h2], (k 0).trans c0, (k 1).trans c1, (k 2).trans c2, (k 3).trans c3, (k 4).trans c4, (k 5).trans c5, (k 6).trans c6⟩

theorem At5.set3 {W : World} {b : Nat} {u0 u1 u2 u3 u4 : Value} (h : At5 W b u0 u1 u2 u3 u4) (v : Value) : At5 (W.setCell ⟨b, 3, none⟩ v) b u0 u1 u2 v u4 := by
  obtain ⟨h1, h2, c0, c1, c2, c3, c4⟩ := h
  refine ⟨by simpa using h1, fun o => by simp [go_sem, h2], ?_, ?_, ?_, ?_, ?_⟩ <;> simp [go_sem, c0, c1, c2, c3, c4]
theorem At5.set4 {W : World} {b : Nat} {u0 u1 u2 u3 u4 : Value} (h : At5 W b u0 u1 u2 u3 u4) (v : Value) : At5 (W.setCell ⟨b, 4, none⟩ v) b u0 u1 u2 u3 v := by
  obtain ⟨h1, h2, c0, c1, c2, c3, c4⟩ := h
  refine ⟨by simpa using h1, fun o => by simp [go_sem, h2], ?_, ?_, ?_, ?_, ?_⟩ <;> simp [go_sem, c0, c1, c2, c3, c4]

/-- What the document's Parse leaves. -/
def GotPost (w : World) (r : Out) (e : Ending) (w' : World) : Prop :=
  ∃ A c B d, e = .returned (.agg #[.int .u64 (r.2.2.a : Int), .int .u64 (r.2.2.b : Int), .int .u64 (r.2.2.c : Int), .slice A r.2.2.pre.length c, .slice B r.2.2.build.length d, .int .i64 (r.2.1 : Int), .int .i64 (r.1 : Int)]) ∧
    r.2.2.pre.length ≤ c ∧ r.2.2.build.length ≤ d ∧ SRow w' A r.2.2.pre.length r.2.2.pre ∧ SRow w' B r.2.2.build.length r.2.2.build ∧ Below w.heap.size w w'
theorem GotPost.bad {w w' : World} {q f : Nat} (hb : Below w.heap.size w w') : GotPost w (f, q, noVer) (.returned (.agg #[.int .u64 0, .int .u64 0, .int .u64 0, .slice none 0 0, .slice none 0 0, .int .i64 (q : Int), .int .i64 (f : Int)])) w' :=
  ⟨none, 0, none, 0, rfl, Nat.le_refl _, Nat.le_refl _, SRow.none_ _ _, SRow.none_ _ _, hb⟩
end Go.Proofs.YtolkcblkciafiaaDoor.Semver
