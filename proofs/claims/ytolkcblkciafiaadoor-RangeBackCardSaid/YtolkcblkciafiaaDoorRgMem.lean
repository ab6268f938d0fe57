/-
  Ranges as memory holds them: where their versions' rows and their ranges lie; a reader's block, in which the place alone turns. Conditions: as each states.
-/
import Derived.Test.YtolkcblkciafiaaDoorRgProg
import Derived.Test.YtolkcblkciafiaaDoorSvMem
import Derived.Test.YtolkcblkciafiaaDoorMemFlat
import Derived.Deep.Draws
namespace Go.Proofs.YtolkcblkciafiaaDoor.Range
open Go.RowKit Num Ident Semver

/-- What a world keeps of another one: each cell that isn't the last number of its block. -/
structure Keep (w w' : World) : Prop where
  size : w.heap.size ≤ w'.heap.size
  cell : ∀ g o v, w.cell? ⟨g, o, none⟩ = some v → ((∀ x, v ≠ .int .i64 x) ∨ (w.cell? ⟨g, o + 1, none⟩).isSome = true) → w'.cell? ⟨g, o, none⟩ = some v
theorem block_lt {w : World} {g o : Nat} {v : Value} (h : w.cell? ⟨g, o, none⟩ = some v) : g < w.heap.size := World.block_lt_of_cell? w _ h
theorem Keep.of_below {w w' : World} (h : Below w.heap.size w w') : Keep w w' :=
  ⟨h.size, fun g o _ hc _ => (h.cell (p := ⟨g, o, none⟩) (block_lt hc)).trans hc⟩
theorem Keep.refl (w : World) : Keep w w := ⟨Nat.le_refl _, fun _ _ _ h _ => h⟩

/-- A reader at block b: bytes at A, the place p. -/
structure Rd (w : World) (b : Nat) (A : Option Addr) (n c p : Nat) : Prop where
  lt : b < w.heap.size
  open_ : ∀ o, w.frozen? ⟨b, o, none⟩ = false
  row : w.cell? ⟨b, 0, none⟩ = some (.slice A n c)
  at_ : w.cell? ⟨b, 1, none⟩ = some (.int .i64 (p : Int))
  end_ : w.cell? ⟨b, 2, none⟩ = none
/-- What reading turns: the place in the reader's block. -/
structure Moved (b : Nat) (w w' : World) : Prop where
  os : w'.os = w.os
  tape : w'.tape = w.tape
  output : w'.output = w.output
  size : w.heap.size ≤ w'.heap.size
  block : ∀ k, k < w.heap.size → k ≠ b → w'.heap[k]? = w.heap[k]?
  cell : ∀ o, o ≠ 1 → w'.cell? ⟨b, o, none⟩ = w.cell? ⟨b, o, none⟩
  frozen : ∀ o, w'.frozen? ⟨b, o, none⟩ = w.frozen? ⟨b, o, none⟩
theorem Moved.refl (b : Nat) (w : World) : Moved b w w := ⟨rfl, rfl, rfl, Nat.le_refl _, fun _ _ _ => rfl, fun _ _ => rfl, fun _ => rfl⟩
theorem Moved.trans {b : Nat} {u v w : World} (h : Moved b u v) (k : Moved b v w) : Moved b u w :=
  ⟨k.os.trans h.os, k.tape.trans h.tape, k.output.trans h.output, Nat.le_trans h.size k.size, fun i hi hb => (k.block i (Nat.lt_of_lt_of_le hi h.size) hb).trans (h.block i hi hb), fun o ho => (k.cell o ho).trans (h.cell o ho), fun o => (k.frozen o).trans (h.frozen o)⟩
/-- From the world of the beginning on: what lies below B is left as it was. -/
theorem Moved.below {b B : Nat} {u v w : World} (h : Moved b u v) (k : Below B v w) (hB : u.heap.size ≤ B) (hb : b < u.heap.size) : Moved b u w :=
  ⟨k.os.trans h.os, k.tape.trans h.tape, k.output.trans h.output, Nat.le_trans h.size k.size, fun i hi hne => (k.block i (Nat.lt_of_lt_of_le hi hB)).trans (h.block i hi hne),
    fun o ho => (k.cell (p := ⟨b, o, none⟩) (Nat.lt_of_lt_of_le hb hB)).trans (h.cell o ho), fun o => (k.frozen (p := ⟨b, o, none⟩) (Nat.lt_of_lt_of_le hb hB)).trans (h.frozen o)⟩
theorem Moved.alloc {b : Nat} {u v : World} (h : Moved b u v) (hb : b < u.heap.size) (o : Obj) : Moved b u (v.alloc o) := h.below ((Below.refl _ _).alloc h.size o) (Nat.le_refl _) hb
theorem Moved.set {b : Nat} {u v : World} (h : Moved b u v) (hb : b < u.heap.size) {p : Addr} (hp : u.heap.size ≤ p.block) (x : Value) : Moved b u (v.setCell p x) := h.below ((Below.refl _ _).setCell hp x) (Nat.le_refl _) hb
theorem Moved.below_of {b : Nat} {u v : World} (h : Moved b u v) (hb : b ≤ u.heap.size) : Below b u v := ⟨h.os, h.tape, h.output, h.size, fun k hk => h.block k (by omega) (by omega)⟩
theorem Rd.kept {w w' : World} {b : Nat} {A : Option Addr} {n c p : Nat} (h : Rd w b A n c p) {B : Nat} (k : Below B w w') (hB : b < B) : Rd w' b A n c p :=
  ⟨Nat.lt_of_lt_of_le h.lt k.size, fun o => (k.frozen (p := ⟨b, o, none⟩) hB).trans (h.open_ o), (k.cell (p := ⟨b, 0, none⟩) hB).trans h.row, (k.cell (p := ⟨b, 1, none⟩) hB).trans h.at_, (k.cell (p := ⟨b, 2, none⟩) hB).trans h.end_⟩
theorem Rd.alloc {w : World} {b : Nat} {A : Option Addr} {n c p : Nat} (h : Rd w b A n c p) (o : Obj) : Rd (w.alloc o) b A n c p := h.kept ((Below.refl w.heap.size w).alloc (Nat.le_refl _) o) h.lt
theorem Rd.set {w : World} {b : Nat} {A : Option Addr} {n c p : Nat} (h : Rd w b A n c p) {q : Addr} (hq : b < q.block) (x : Value) : Rd (w.setCell q x) b A n c p := h.kept ((Below.refl (b + 1) w).setCell hq x) (Nat.lt_succ_self _)
/-- The place is set. -/
theorem Rd.move {w : World} {b : Nat} {A : Option Addr} {n c p : Nat} (h : Rd w b A n c p) (q : Nat) : Rd (w.setCell ⟨b, 1, none⟩ (.int .i64 (q : Int))) b A n c q := by
  refine ⟨by simpa using h.lt, fun o => by simp [go_sem, h.open_], ?_, ?_, ?_⟩
  · rw [cell_beside _ _ _ _ _ (by omega)]; exact h.row
  · exact World.cell?_setCell_same _ _ _ h.at_
  · rw [cell_beside _ _ _ _ _ (by omega)]; exact h.end_
theorem Moved.at_ {w : World} {b : Nat} (x : Value) : Moved b w (w.setCell ⟨b, 1, none⟩ x) :=
  ⟨rfl, rfl, rfl, by simp, fun k _ hk => Below.heap_setCell _ _ _ _ hk, fun o ho => cell_beside _ _ _ _ _ (fun e => ho e.symm), fun o => by simp [go_sem]⟩
theorem Moved.move {u w : World} {b : Nat} (h : Moved b u w) (x : Value) : Moved b u (w.setCell ⟨b, 1, none⟩ x) := h.trans (Moved.at_ x)
theorem Rd.keep {w w' : World} {b : Nat} {A : Option Addr} {n c p : Nat} (h : Rd w b A n c p) (k : Moved b w w') : Keep w w' := by
  refine ⟨k.size, fun g o v hc hv => ?_⟩
  by_cases hg : g = b
  · subst hg
    by_cases ho : o = 1
    · subst ho
      rcases hv with hv | hv
      · rw [h.at_] at hc
        injection hc with hc
        exact absurd hc.symm (hv _)
      · rw [h.end_] at hv; cases hv
    · rw [k.cell o ho]; exact hc
  · exact (World.cell?_of_block (w := w) (a := ⟨g, o, none⟩) (k.block g (block_lt hc) hg)).trans hc
theorem Rd.drewN {w : World} {b : Nat} {A : Option Addr} {n c p : Nat} (h : Rd w b A n c p) (k : Nat) : Rd (w.drewN k) b A n c p := ⟨h.lt, h.open_, h.row, h.at_, h.end_⟩
theorem Rd.drew {w : World} {b : Nat} {A : Option Addr} {n c p : Nat} (h : Rd w b A n c p) : Rd w.drew b A n c p := ⟨h.lt, h.open_, h.row, h.at_, h.end_⟩
theorem Moved.drewN {b : Nat} {u w : World} (h : Moved b u w) (k : Nat) : Moved b u (w.drewN k) := ⟨h.os, h.tape, h.output, h.size, h.block, h.cell, h.frozen⟩
theorem Moved.drew {b : Nat} {u w : World} (h : Moved b u w) : Moved b u w.drew := ⟨h.os, h.tape, h.output, h.size, h.block, h.cell, h.frozen⟩
theorem Keep.drewN (w : World) (k : Nat) : Keep w (w.drewN k) := ⟨Nat.le_refl _, fun _ _ _ h _ => h⟩
theorem Keep.drew (w : World) : Keep w w.drew := ⟨Nat.le_refl _, fun _ _ _ h _ => h⟩
theorem row_keep {w w' : World} {A : Option Addr} {n : Nat} {l : List UInt8} (h : Row w A n l) (k : Keep w w') : Row w' A n l := by
  refine ⟨h.1, h.2.1, fun h0 => ?_⟩
  obtain ⟨b, o, e, hlt, hc⟩ := h.2.2 h0
  exact ⟨b, o, e, Nat.lt_of_lt_of_le hlt k.size, fun j hj => k.cell _ _ _ (hc j hj) (.inl fun x e => by injection e with e _; cases e)⟩
theorem srow_keep {w w' : World} {A : Option Addr} {n : Nat} {xs : List (List UInt8)} (h : SRow w A n xs) (k : Keep w w') : SRow w' A n xs := by
  refine ⟨h.1, fun h0 => ?_⟩
  obtain ⟨b, o, e, hlt, hc⟩ := h.2 h0
  exact ⟨b, o, e, Nat.lt_of_lt_of_le hlt k.size, fun j hj => k.cell _ _ _ (hc j hj) (.inl fun x e => by cases e)⟩

/-- What a world keeps of another one: all cells of the blocks S. -/
structure KeepS (S : Nat → Prop) (w w' : World) : Prop where
  size : w.heap.size ≤ w'.heap.size
  cell : ∀ g o v, S g → w.cell? ⟨g, o, none⟩ = some v → w'.cell? ⟨g, o, none⟩ = some v
theorem KeepS.of_below {w w' : World} {S : Nat → Prop} (h : Below w.heap.size w w') : KeepS S w w' := ⟨h.size, fun g o _ _ hc => (h.cell (p := ⟨g, o, none⟩) (block_lt hc)).trans hc⟩
theorem KeepS.refl (S : Nat → Prop) (w : World) : KeepS S w w := ⟨Nat.le_refl _, fun _ _ _ _ h => h⟩
theorem KeepS.trans {S : Nat → Prop} {u v w : World} (h : KeepS S u v) (k : KeepS S v w) : KeepS S u w := ⟨Nat.le_trans h.size k.size, fun g o x hg hc => k.cell g o x hg (h.cell g o x hg hc)⟩
theorem KeepS.alloc {S : Nat → Prop} (w : World) (o : Obj) : KeepS S w (w.alloc o) := KeepS.of_below ((Below.refl _ _).alloc (Nat.le_refl _) o)
/-- A store into a block that is none of S. -/
theorem KeepS.set {S : Nat → Prop} {w : World} {g o : Nat} (hg : ¬ S g) (v : Value) : KeepS S w (w.setCell ⟨g, o, none⟩ v) := by
  refine ⟨by simp, fun g' o' x hg' hc => ?_⟩
  rw [World.cell?_setCell_other _ _ _ _ (by intro e; injection e with e _; rw [← e] at hg'; exact hg hg')]; exact hc
theorem KeepS.moved {S : Nat → Prop} {w w' : World} {b : Nat} (k : Moved b w w') (hb : ¬ S b) : KeepS S w w' :=
  ⟨k.size, fun g o _ hg hc => (World.cell?_of_block (w := w) (a := ⟨g, o, none⟩) (k.block g (block_lt hc) (fun e => hb (e ▸ hg)))).trans hc⟩
theorem KeepS.grown {S : Nat → Prop} {w w' : World} {row : Option Nat} (k : w.grownBy w' row) (hb : ∀ g, S g → some g ≠ row) : KeepS S w w' :=
  ⟨k.size, fun g o _ hg hc => (World.cell?_of_block (w := w) (a := ⟨g, o, none⟩) (k.block g (block_lt hc) (hb g hg))).trans hc⟩
/-- The slice lies in a block of S, if there is something in it. -/
def InS (S : Nat → Prop) (A : Option Addr) (n : Nat) : Prop := 0 < n → ∃ b o, A = some ⟨b, o, none⟩ ∧ S b
theorem InS.none_ (S : Nat → Prop) (A : Option Addr) : InS S A 0 := fun h => absurd h (Nat.lt_irrefl _)
theorem srow_keepS {w w' : World} {S : Nat → Prop} {A : Option Addr} {n : Nat} {xs : List (List UInt8)} (h : SRow w A n xs) (k : KeepS S w w') (hs : InS S A n) : SRow w' A n xs := by
  refine ⟨h.1, fun h0 => ?_⟩
  obtain ⟨b, o, e, hlt, hc⟩ := h.2 h0
  obtain ⟨b', o', e', hb⟩ := hs h0
  rw [e] at e'
  injection e' with e'
  injection e' with e1 e2
  subst e1
  exact ⟨b, o, e, Nat.lt_of_lt_of_le hlt k.size, fun j hj => k.cell _ _ _ hb (hc j hj)⟩
theorem InS.mono {S S' : Nat → Prop} {w : World} {A : Option Addr} {n : Nat} {xs : List (List UInt8)} (h : InS S A n) (hr : SRow w A n xs) (hS : ∀ b, S b → b < w.heap.size → S' b) : InS S' A n := fun h0 => by
  obtain ⟨b, o, e, hb⟩ := h h0
  obtain ⟨b', o', e', hlt, _⟩ := hr.2 h0
  rw [e] at e'
  injection e' with e'
  injection e' with e1 e2
  subst e1
  exact ⟨b, o, e, hS b hb hlt⟩
/-- A version's numbers, rows and identifiers are of sizes that the form allows. -/
structure FitV (v : Ver) : Prop where
  a : v.a < 18446744073709551616
  b : v.b < 18446744073709551616
  c : v.c < 18446744073709551616
  pre : v.pre.length ≤ maxLen
  build : v.build.length ≤ maxLen
  pres : ∀ x ∈ v.pre, x.length ≤ maxLen
  builds : ∀ x ∈ v.build, x.length ≤ maxLen
theorem FitV.none : FitV noVer := ⟨by decide, by decide, by decide, Nat.zero_le _, Nat.zero_le _, (fun x h => by cases h), (fun x h => by cases h)⟩
/-- A range in memory: its kind and version, where the rows lie, how many ranges there are, and where they lie. -/
structure RV where
  kind : Int
  v : Ver
  A : Option Addr
  c : Nat
  B : Option Addr
  d : Nat
  L : Option Addr
  n : Nat
  e : Nat
instance : Inhabited RV := ⟨⟨0, noVer, none, 0, none, 0, none, 0, 0⟩⟩
def RV.vals (x : RV) : List Value := [.int .i64 x.kind, .int .u64 (x.v.a : Int), .int .u64 (x.v.b : Int), .int .u64 (x.v.c : Int), .slice x.A x.v.pre.length x.c, .slice x.B x.v.build.length x.d, .slice x.L x.n x.e]
theorem rv_len (x : RV) : x.vals.length = 7 := rfl
theorem rv_one (x : RV) : ∀ u ∈ x.vals, u.oneCell' = true := by
  intro u hu; simp only [RV.vals, List.mem_cons, List.mem_nil_iff, or_false] at hu
  rcases hu with rfl | rfl | rfl | rfl | rfl | rfl | rfl <;> rfl
/-- Seven cells of a block. -/
def CellsAt (w : World) (b o : Nat) (x : RV) : Prop := ∀ i u, x.vals[i]? = some u → w.cell? ⟨b, o + i, none⟩ = some u
theorem CellsAt.keep {w w' : World} {S : Nat → Prop} {b o : Nat} {x : RV} (h : CellsAt w b o x) (k : KeepS S w w') (hb : S b) : CellsAt w' b o x := fun i u hu => k.cell _ _ _ hb (h i u hu)
theorem CellsAt.lt {w : World} {b o : Nat} {x : RV} (h : CellsAt w b o x) : b < w.heap.size := block_lt (h 0 _ rfl)
/-- What a range in memory reads as; all that it has lies in the blocks S. -/
inductive Lies (w : World) (S : Nat → Prop) : Rng → RV → Prop
  | mk (x : RV) (l : List Rng) (f : Nat → RV) (hn : x.n = l.length) (he : x.n ≤ x.e) (pre : SRow w x.A x.v.pre.length x.v.pre) (build : SRow w x.B x.v.build.length x.v.build) (ip : InS S x.A x.v.pre.length) (ib : InS S x.B x.v.build.length) (cp : x.v.pre.length ≤ x.c) (cb : x.v.build.length ≤ x.d)
      (fit : FitV x.v) (nil : x.L = none → x.e = 0)
      (cells : 0 < x.n → ∃ b o, x.L = some ⟨b, o, none⟩ ∧ S b ∧ ∀ j, j < x.n → CellsAt w b (o + j * 7) (f j)) (subs : ∀ j, j < x.n → Lies w S (l.getD j noRng) (f j)) : Lies w S (.mk x.kind x.v l) x
theorem Lies.keep {w w' : World} {S : Nat → Prop} {r : Rng} {x : RV} (h : Lies w S r x) (k : KeepS S w w') : Lies w' S r x := by
  induction h with
  | mk x l f hn he pre build ip ib cp cb fit nil cells _ ih =>
    refine Lies.mk x l f hn he (srow_keepS pre k ip) (srow_keepS build k ib) ip ib cp cb fit nil (fun h0 => ?_) ih
    obtain ⟨b, o, e, hb, hc⟩ := cells h0
    exact ⟨b, o, e, hb, fun j hj => (hc j hj).keep k hb⟩
theorem Lies.mono {w : World} {S S' : Nat → Prop} {r : Rng} {x : RV} (h : Lies w S r x) (hS : ∀ b, S b → b < w.heap.size → S' b) : Lies w S' r x := by
  induction h with
  | mk x l f hn he pre build ip ib cp cb fit nil cells _ ih =>
    refine Lies.mk x l f hn he pre build (ip.mono pre hS) (ib.mono build hS) cp cb fit nil (fun h0 => ?_) ih
    obtain ⟨b, o, e, hb, hc⟩ := cells h0
    exact ⟨b, o, e, hS b hb (hc 0 h0).lt, hc⟩
/-- A slice of ranges reads as a list of them. -/
def RgRow (w : World) (S : Nat → Prop) (L : Option Addr) (n : Nat) (l : List Rng) : Prop :=
  ∃ f : Nat → RV, l.length = n ∧ (0 < n → ∃ b o, L = some ⟨b, o, none⟩ ∧ S b ∧ ∀ j, j < n → CellsAt w b (o + j * 7) (f j)) ∧ ∀ j, j < n → Lies w S (l.getD j noRng) (f j)
theorem RgRow.keep {w w' : World} {S : Nat → Prop} {L : Option Addr} {n : Nat} {l : List Rng} (h : RgRow w S L n l) (k : KeepS S w w') : RgRow w' S L n l := by
  obtain ⟨f, h1, h2, h3⟩ := h
  refine ⟨f, h1, fun h0 => ?_, fun j hj => (h3 j hj).keep k⟩
  obtain ⟨b, o, e, hb, hc⟩ := h2 h0
  exact ⟨b, o, e, hb, fun j hj => (hc j hj).keep k hb⟩
/-- What Lies says. -/
structure Says (w : World) (S : Nat → Prop) (r : Rng) (x : RV) : Prop where
  kind : r.kind = x.kind
  ver : r.ver = x.v
  pre : SRow w x.A x.v.pre.length x.v.pre
  build : SRow w x.B x.v.build.length x.v.build
  ip : InS S x.A x.v.pre.length
  ib : InS S x.B x.v.build.length
  cp : x.v.pre.length ≤ x.c
  cb : x.v.build.length ≤ x.d
  fit : FitV x.v
  nil : x.L = none → x.e = 0
  cap : x.n ≤ x.e
  subs : RgRow w S x.L x.n r.subs
theorem Lies.says {w : World} {S : Nat → Prop} {r : Rng} {x : RV} (h : Lies w S r x) : Says w S r x := by
  cases h with
  | mk x l f hn he pre build ip ib cp cb fit nil cells subs => exact ⟨rfl, rfl, pre, build, ip, ib, cp, cb, fit, nil, he, ⟨f, hn.symm, cells, subs⟩⟩
/-- A version's range. -/
theorem Lies.version {w : World} {S : Nat → Prop} (kind : Int) (v : Ver) (A : Option Addr) (c : Nat) (B : Option Addr) (d : Nat) (pre : SRow w A v.pre.length v.pre) (build : SRow w B v.build.length v.build) (ip : InS S A v.pre.length) (ib : InS S B v.build.length) (cp : v.pre.length ≤ c) (cb : v.build.length ≤ d) (fit : FitV v) :
    Lies w S (.mk kind v []) ⟨kind, v, A, c, B, d, none, 0, 0⟩ :=
  Lies.mk ⟨kind, v, A, c, B, d, none, 0, 0⟩ [] (fun _ => default) rfl (Nat.le_refl _) pre build ip ib cp cb fit (fun _ => rfl) (fun h => absurd h (Nat.lt_irrefl _)) (fun _ hj => absurd hj (Nat.not_lt_zero _))
def zeroRV (kind : Int) : RV := ⟨kind, noVer, none, 0, none, 0, none, 0, 0⟩
theorem Lies.zero (w : World) (S : Nat → Prop) (kind : Int) : Lies w S (.mk kind noVer []) (zeroRV kind) :=
  Lies.version kind noVer none 0 none 0 (SRow.none_ _ _) (SRow.none_ _ _) (InS.none_ _ _) (InS.none_ _ _) (Nat.le_refl _) (Nat.le_refl _) FitV.none
/-- A range of ranges. -/
theorem Lies.many {w : World} {S : Nat → Prop} (kind : Int) {L : Option Addr} {n e : Nat} {l : List Rng} (h : RgRow w S L n l) (he : n ≤ e) (nil : L = none → e = 0) : Lies w S (.mk kind noVer l) ⟨kind, noVer, none, 0, none, 0, L, n, e⟩ := by
  obtain ⟨f, h1, h2, h3⟩ := h
  exact Lies.mk ⟨kind, noVer, none, 0, none, 0, L, n, e⟩ l f h1.symm he (SRow.none_ _ _) (SRow.none_ _ _) (InS.none_ _ _) (InS.none_ _ _) (Nat.le_refl _) (Nat.le_refl _) FitV.none nil h2 h3
/-- A range as a value. -/
def RV.agg (x : RV) : Value := .agg #[.int .i64 x.kind, .int .u64 (x.v.a : Int), .int .u64 (x.v.b : Int), .int .u64 (x.v.c : Int), .slice x.A x.v.pre.length x.c, .slice x.B x.v.build.length x.d, .slice x.L x.n x.e]
theorem CellsAt.cells {w : World} {b o : Nat} {x : RV} (h : CellsAt w b o x) : w.cell? ⟨b, o, none⟩ = some (.int .i64 x.kind) ∧ w.cell? ⟨b, o + 1, none⟩ = some (.int .u64 (x.v.a : Int)) ∧ w.cell? ⟨b, o + 2, none⟩ = some (.int .u64 (x.v.b : Int)) ∧ w.cell? ⟨b, o + 3, none⟩ = some (.int .u64 (x.v.c : Int)) ∧ w.cell? ⟨b, o + 4, none⟩ = some (.slice x.A x.v.pre.length x.c) ∧ w.cell? ⟨b, o + 5, none⟩ = some (.slice x.B x.v.build.length x.d) ∧ w.cell? ⟨b, o + 6, none⟩ = some (.slice x.L x.n x.e) :=
  ⟨h 0 _ rfl, h 1 _ rfl, h 2 _ rfl, h 3 _ rfl, h 4 _ rfl, h 5 _ rfl, h 6 _ rfl⟩
theorem CellsAt.of {w : World} {b o : Nat} {x : RV} (c0 : w.cell? ⟨b, o, none⟩ = some (.int .i64 x.kind)) (c1 : w.cell? ⟨b, o + 1, none⟩ = some (.int .u64 (x.v.a : Int))) (c2 : w.cell? ⟨b, o + 2, none⟩ = some (.int .u64 (x.v.b : Int))) (c3 : w.cell? ⟨b, o + 3, none⟩ = some (.int .u64 (x.v.c : Int))) (c4 : w.cell? ⟨b, o + 4, none⟩ = some (.slice x.A x.v.pre.length x.c)) (c5 : w.cell? ⟨b, o + 5, none⟩ = some (.slice x.B x.v.build.length x.d)) (c6 : w.cell? ⟨b, o + 6, none⟩ = some (.slice x.L x.n x.e)) : CellsAt w b o x := by
  intro i u hu
  have hi : i < 7 := (List.getElem?_eq_some_iff.1 hu).1
  have e : ∀ v, x.vals[i]? = some v → v = u := fun v hv => by rw [hv] at hu; injection hu
  match i, hi with
  | 0, _ => rw [← e _ rfl]; exact c0
  | 1, _ => rw [← e _ rfl]; exact c1
  | 2, _ => rw [← e _ rfl]; exact c2
  | 3, _ => rw [← e _ rfl]; exact c3
  | 4, _ => rw [← e _ rfl]; exact c4
  | 5, _ => rw [← e _ rfl]; exact c5
  | 6, _ => rw [← e _ rfl]; exact c6
/-- A slice of ranges that the call itself made. -/
theorem RgRow.of_own {w : World} {S : Nat → Prop} {base : Nat} {v : Value} {n : Nat} {xs : List RV} {l : List Rng} (h : w.ownsRow base 29 7 v n (xs.flatMap RV.vals)) (hB : ∀ g, base ≤ g → S g) (hx : xs.length = n) (hl : l.length = n) (hs : ∀ j, j < n → Lies w S (l.getD j noRng) (xs.getD j default)) :
    ∃ L e, v = .slice L n e ∧ n ≤ e ∧ (L = none → e = 0) ∧ RgRow w S L n l := by
  obtain ⟨L, e, h1, h2, h3, h4⟩ := own_cells rv_len h hx
  refine ⟨L, e, h1, h2, h3, fun j => xs.getD j default, hl, fun h0 => ?_, hs⟩
  obtain ⟨g, e1, hg, _, _, hc⟩ := h4 h0
  exact ⟨g, 0, e1, hB g hg, fun j hj i u hu => hc j hj i u hu⟩
/-- The length of a text whose place is p. -/
structure Pl (l : List UInt8) (p : Nat) (s : List UInt8) : Prop where
  le : p ≤ l.length
  eq : s = l.drop p
theorem Pl.len {l s : List UInt8} {p : Nat} (h : Pl l p s) : s.length = l.length - p := by rw [h.eq, List.length_drop]
theorem Pl.piece {l s s' : List UInt8} {p : Nat} (h : Pl l p s) (k : Piece s' s) : Pl l (l.length - s'.length) s' := by
  obtain ⟨i, rfl⟩ := k
  rw [h.eq, List.drop_drop]
  have h1 := h.le
  refine ⟨Nat.sub_le _ _, ?_⟩
  rw [List.length_drop]
  by_cases h2 : p + i ≤ l.length
  · congr 1; omega
  · rw [List.drop_eq_nil_of_le (by omega)]
    rw [List.drop_eq_nil_of_le (by omega)]
theorem Pl.drop {l s : List UInt8} {p k : Nat} (h : Pl l p s) (hk : p + k ≤ l.length) : Pl l (p + k) (s.drop k) := ⟨hk, by rw [h.eq, List.drop_drop]⟩
/-- A block of a range, none of its cells frozen. -/
def RAt (W : World) (g : Nat) (x : RV) : Prop := At7 W g (.int .i64 x.kind) (.int .u64 (x.v.a : Int)) (.int .u64 (x.v.b : Int)) (.int .u64 (x.v.c : Int)) (.slice x.A x.v.pre.length x.c) (.slice x.B x.v.build.length x.d) (.slice x.L x.n x.e)
theorem RAt.new (w : World) (t : TypeId) (x : RV) : RAt (w.alloc (.cells #[.int .i64 x.kind, .int .u64 (x.v.a : Int), .int .u64 (x.v.b : Int), .int .u64 (x.v.c : Int), .slice x.A x.v.pre.length x.c, .slice x.B x.v.build.length x.d, .slice x.L x.n x.e] t)) w.heap.size x := At7.new w t _ _ _ _ _ _ _
theorem RAt.kept {W W' : World} {g B : Nat} {x : RV} (h : RAt W g x) (hb : Below B W W') (hB : g < B) : RAt W' g x := At7.kept h hb hB
theorem At7.moved {W W' : World} {b B : Nat} {u0 u1 u2 u3 u4 u5 u6 : Value} (h : At7 W B u0 u1 u2 u3 u4 u5 u6) (hm : Moved b W W') (hne : B ≠ b) : At7 W' B u0 u1 u2 u3 u4 u5 u6 := by
  obtain ⟨h1, h2, c0, c1, c2, c3, c4, c5, c6⟩ := h
  have k := hm.block B h1 hne
  have kc : ∀ o, W'.cell? ⟨B, o, none⟩ = W.cell? ⟨B, o, none⟩ := fun o => World.cell?_of_block (w := W) (a := ⟨B, o, none⟩) k
  exact ⟨Nat.lt_of_lt_of_le h1 hm.size, fun o => (World.frozen?_of_block (w := W) (a := ⟨B, o, none⟩) k).trans (h2 o), (kc 0).trans c0, (kc 1).trans c1, (kc 2).trans c2, (kc 3).trans c3, (kc 4).trans c4, (kc 5).trans c5, (kc 6).trans c6⟩
theorem RAt.moved {W W' : World} {b g : Nat} {x : RV} (h : RAt W g x) (hm : Moved b W W') (hne : g ≠ b) : RAt W' g x := At7.moved h hm hne
theorem At7.grown {w w' : World} {row : Option Nat} {g : Nat} {u0 u1 u2 u3 u4 u5 u6 : Value} (h : At7 w g u0 u1 u2 u3 u4 u5 u6) (hg : w.grownBy w' row) (hne : some g ≠ row) : At7 w' g u0 u1 u2 u3 u4 u5 u6 := by
  obtain ⟨h1, h2, c0, c1, c2, c3, c4, c5, c6⟩ := h
  have k := hg.block g h1 hne
  have kc : ∀ o, w'.cell? ⟨g, o, none⟩ = w.cell? ⟨g, o, none⟩ := fun o => World.cell?_of_block (w := w) (a := ⟨g, o, none⟩) k
  exact ⟨Nat.lt_of_lt_of_le h1 hg.size, fun o => (World.frozen?_of_block (w := w) (a := ⟨g, o, none⟩) k).trans (h2 o), (kc 0).trans c0, (kc 1).trans c1, (kc 2).trans c2, (kc 3).trans c3, (kc 4).trans c4, (kc 5).trans c5, (kc 6).trans c6⟩
theorem RAt.grown {w w' : World} {row : Option Nat} {g : Nat} {x : RV} (h : RAt w g x) (hg : w.grownBy w' row) (hne : some g ≠ row) : RAt w' g x := At7.grown h hg hne
theorem Rd.grown {w w' : World} {row : Option Nat} {b : Nat} {A : Option Addr} {n c p : Nat} (h : Rd w b A n c p) (hg : w.grownBy w' row) (hne : some b ≠ row) : Rd w' b A n c p := by
  have k := hg.block b h.lt hne
  have kc : ∀ o, w'.cell? ⟨b, o, none⟩ = w.cell? ⟨b, o, none⟩ := fun o => World.cell?_of_block (w := w) (a := ⟨b, o, none⟩) k
  exact ⟨Nat.lt_of_lt_of_le h.lt hg.size, fun o => (World.frozen?_of_block (w := w) (a := ⟨b, o, none⟩) k).trans (h.open_ o), (kc 0).trans h.row, (kc 1).trans h.at_, (kc 2).trans h.end_⟩
theorem Moved.grown {u w w' : World} {row : Option Nat} {b : Nat} (h : Moved b u w) (hg : w.grownBy w' row) (hb : b < u.heap.size) (hr : ∀ g, row = some g → u.heap.size ≤ g) : Moved b u w' :=
  h.below ((Below.refl _ _).grown hg h.size hr) (Nat.le_refl _) hb
/-- A range is stored into a block. -/
def setR (W : World) (g : Nat) (x : RV) : World := (((((((W.setCell ⟨g, 0, none⟩ (.int .i64 x.kind)).setCell ⟨g, 1, none⟩ (.int .u64 (x.v.a : Int))).setCell ⟨g, 2, none⟩ (.int .u64 (x.v.b : Int))).setCell ⟨g, 3, none⟩ (.int .u64 (x.v.c : Int))).setCell ⟨g, 4, none⟩ (.slice x.A x.v.pre.length x.c)).setCell ⟨g, 5, none⟩ (.slice x.B x.v.build.length x.d)).setCell ⟨g, 6, none⟩ (.slice x.L x.n x.e))
theorem setR_at {W : World} {g : Nat} {x y : RV} (h : RAt W g y) : RAt (setR W g x) g x := by
  obtain ⟨h1, h2, c0, c1, c2, c3, c4, c5, c6⟩ := h
  unfold setR
  refine ⟨by simpa using h1, fun o => by simp [go_sem, h2], ?_, ?_, ?_, ?_, ?_, ?_, ?_⟩ <;> simp [go_sem, c0, c1, c2, c3, c4, c5, c6]
theorem setR_below {W : World} {g : Nat} (B : Nat) (hB : B ≤ g) (x : RV) : Below B W (setR W g x) := by
  unfold setR
  exact ((((((((Below.refl B W).setCell (p := ⟨g, 0, none⟩) hB _).setCell (p := ⟨g, 1, none⟩) hB _).setCell (p := ⟨g, 2, none⟩) hB _).setCell (p := ⟨g, 3, none⟩) hB _).setCell (p := ⟨g, 4, none⟩) hB _).setCell (p := ⟨g, 5, none⟩) hB _).setCell (p := ⟨g, 6, none⟩) hB _)
theorem setR_rd {W : World} {g b : Nat} {A : Option Addr} {n c p : Nat} (h : Rd W b A n c p) (hb : b < g) (x : RV) : Rd (setR W g x) b A n c p := h.kept (setR_below g (Nat.le_refl _) x) hb
theorem setR_moved {W u : World} {g b : Nat} (h : Moved b u W) (hb : b < u.heap.size) (hg : u.heap.size ≤ g) (x : RV) : Moved b u (setR W g x) := h.below (setR_below g (Nat.le_refl _) x) hg hb
theorem setR_keep {W : World} {g : Nat} {S : Nat → Prop} (hg : ¬ S g) (x : RV) : KeepS S W (setR W g x) := by
  unfold setR
  exact (KeepS.set hg _).trans ((KeepS.set hg _).trans ((KeepS.set hg _).trans ((KeepS.set hg _).trans ((KeepS.set hg _).trans ((KeepS.set hg _).trans (KeepS.set hg _))))))
/-- The blocks from B on. -/
def From (B : Nat) (g : Nat) : Prop := B ≤ g
/-- What a part's reader leaves. -/
def RgPost (b : Nat) (A : Option Addr) (n c : Nat) (l : List UInt8) (w : World) (t : Out) (e : Ending) (w' : World) : Prop :=
  ∃ (x : RV) (q : Nat), e = .returned (.tuple #[x.agg, .int .i64 (t.1 : Int)]) ∧ Lies w' (From w.heap.size) t.2.2 x ∧ Pl l q t.2.1 ∧ Rd w' b A n c q ∧ Moved b w w'
theorem Lies.from_ {w : World} {B B' : Nat} {r : Rng} {x : RV} (h : Lies w (From B) r x) (hB : B' ≤ B) : Lies w (From B') r x := h.mono fun _ hb _ => Nat.le_trans hB hb
/-- A reader's end: the result is stored into the block that it made first. -/
theorem rg_end {b : Nat} {A : Option Addr} {n c : Nat} {l : List UInt8} {w W : World} {f : Nat} {s : List UInt8} {r : Rng} {x : RV} {q : Nat} (hb : b < w.heap.size) (hL : Lies W (From (w.heap.size + 1)) r x) (hP : Pl l q s) (hR : Rd W b A n c q) (hM : Moved b w W) :
    RgPost b A n c l w (f, s, r) (.returned (.tuple #[x.agg, .int .i64 (f : Int)])) (setR W w.heap.size x) :=
  ⟨x, q, rfl, (hL.keep (setR_keep (Nat.not_succ_le_self _) x)).from_ (Nat.le_succ _), hP, setR_rd hR hb x, setR_moved hM hb (Nat.le_refl _) x⟩
end Go.Proofs.YtolkcblkciafiaaDoor.Range
