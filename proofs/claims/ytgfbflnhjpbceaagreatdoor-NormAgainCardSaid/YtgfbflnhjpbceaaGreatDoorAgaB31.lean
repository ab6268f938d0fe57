/-
  What the theorem of the last text needs of these: RgTextMem, NmPcsMem, NmPieces. Conditions: as each theorem states.
-/
import Derived.Test.YtgfbflnhjpbceaaGreatDoorAgaB1
import Derived.Test.YtgfbflnhjpbceaaGreatDoorAgaB8
import Derived.Test.YtgfbflnhjpbceaaGreatDoorAgaB10
import Derived.Test.YtgfbflnhjpbceaaGreatDoorAgaB11
import Derived.Test.YtgfbflnhjpbceaaGreatDoorAgaB17
import Derived.Test.YtgfbflnhjpbceaaGreatDoorAgaB30
import Derived.Laws.OwnMore
import Derived.OneCell
import Derived.Deep.CutBlock
import Derived.Deep.DeepCutAuto
import Derived.Deep.RegionHeld3
set_option maxRecDepth 100000
set_option maxHeartbeats 25600000
namespace Go.Proofs.YtgfbflnhjpbceaaGreatDoor.Range
open Go.RowKit Num Ident Semver

structure Lv where
 b : Nat
 o : Nat
 r : Rng
 x : RV
 d : Nat
 told : Nat
 e : List UInt8
instance : Inhabited Lv := ⟨⟨0, 0, noRng, default, 0, 0, []⟩⟩
def Lv.vals (y : Lv) : List Value := [.pointer (some ⟨y.b, y.o, none⟩), .int .i64 (y.told : Int), .string (Ident.mk y.e)]
theorem lv_len (y : Lv) : y.vals.length = 3 := rfl
theorem lv_one (y : Lv) : ∀ u ∈ y.vals, u.oneCell' = true := by
 intro u hu; simp only [Lv.vals, List.mem_cons, List.mem_nil_iff, or_false] at hu
 rcases hu with rfl | rfl | rfl <;> rfl
structure LvOk (W : World) (B : Nat) (y : Lv) : Prop where
 cells : CellsAt W y.b y.o y.x
 lt : y.b < B
 lies : Lies W (LtB B) y.r y.x
 good : goodR y.r y.d = true
 told : y.told ≤ y.r.subs.length
 few : wt y.r ≤ 4000000
theorem LvOk.kept {W W' : World} {B : Nat} {y : Lv} (h : LvOk W B y) (k : KeepS (LtB B) W W') : LvOk W' B y := ⟨h.cells.keep k h.lt, h.lt, h.lies.keep k, h.good, h.told, h.few⟩
def lvRest (y : Lv) : List UInt8 := textL y.r.kind y.r.subs.length (y.r.subs.drop y.told) y.told ++ y.e
def restT : List Lv → List UInt8
 | [] => []
 | y :: T => restT T ++ lvRest y
theorem restT_more : ∀ (T : List Lv) (y : Lv), restT (T ++ [y]) = lvRest y ++ restT T
 | [], y => by simp [restT]
 | z :: T, y => by rw [List.cons_append, restT, restT_more T y, restT, List.append_assoc]
def lvW (y : Lv) : Nat := 2 * wtL (y.r.subs.drop y.told) + 1
def lsum : List Lv → Nat
 | [] => 0
 | y :: T => lvW y + lsum T
theorem lsum_more : ∀ (T : List Lv) (y : Lv), lsum (T ++ [y]) = lsum T + lvW y
 | [], y => by simp [lsum]
 | z :: T, y => by rw [List.cons_append, lsum, lsum_more T y, lsum]; omega
theorem lsum_len : ∀ T : List Lv, T.length ≤ lsum T
 | [] => Nat.le_refl _
 | y :: T => by rw [List.length_cons, lsum]; have := lsum_len T; unfold lvW; omega
theorem most_good {r : Rng} {d : Nat} (h : goodR r d = true) : most r.kind r.subs.length = r.subs.length := by
 obtain ⟨kind, v, l⟩ := r
 obtain ⟨_, _, h⟩ := good_cases h
 simp only [Rng.kind, Rng.subs]
 unfold most
 rcases h with ⟨h1, h2, _, rfl⟩ | ⟨_, ⟨rfl, rfl⟩ | ⟨h1, _⟩ | ⟨rfl, y, rfl⟩⟩
 ·simp
 ·simp
 ·rw [if_pos h1]
 ·simp
theorem text_good {r : Rng} {d : Nat} (h : goodR r d = true) : textR r = markR r.kind r.ver ++ textL r.kind r.subs.length r.subs 0 := by
 have := most_good h
 obtain ⟨kind, v, l⟩ := r
 rw [textR_eq]
 simp only [Rng.kind, Rng.ver, Rng.subs] at this ⊢
 rw [this]
theorem lvRest_next (y : Lv) (h : y.told < y.r.subs.length) (b o d : Nat) (x : RV) (hg : goodR (y.r.subs.getD y.told noRng) d = true) :
  lvRest y = aheadR y.r.kind (y.r.subs.getD y.told noRng).kind y.told ++ (openR y.r.kind (y.r.subs.getD y.told noRng).kind ++ (markR (y.r.subs.getD y.told noRng).kind (y.r.subs.getD y.told noRng).ver ++ (lvRest ⟨b, o, y.r.subs.getD y.told noRng, x, d, 0, shutR y.r.kind (y.r.subs.getD y.told noRng).kind⟩ ++ lvRest { y with told := y.told + 1 }))) := by
 have e : y.r.subs.drop y.told = y.r.subs.getD y.told noRng :: y.r.subs.drop (y.told + 1) := by
  rw [List.drop_eq_getElem_cons h]
  simp [List.getD, List.getElem?_eq_getElem h]
 unfold lvRest
 rw [e, textL_cons, if_pos h, text_good hg, List.drop_zero]
 simp only [List.append_assoc]
theorem lvW_next (y : Lv) (h : y.told < y.r.subs.length) (b o d : Nat) (x : RV) (e : List UInt8) :
  lvW ⟨b, o, y.r.subs.getD y.told noRng, x, d, 0, e⟩ + lvW { y with told := y.told + 1 } < lvW y := by
 have hw := wtL_drop y.r.subs y.told h
 unfold lvW
 simp only [List.drop_zero]
 omega
theorem bld_block {W : World} {B b : Nat} {l : List UInt8} (h : Bld W B b l) : ∃ c, W.heap[b]? = some (.cells c 71 (0, 0)) := by
 rcases h with ⟨_, v, h, _⟩ | ⟨_, v, h, _⟩ <;> exact ⟨_, h⟩
theorem own_kind {w : World} {B : Nat} {e : TypeId} {size : Nat} {v : Value} {n : Nat} {xs : List Value} (h : w.ownsRow B e size v n xs) : ∀ g, v.ownBlock = some g → ∃ c, w.heap[g]? = some (.cells c e (0, 0)) := by
 intro g hg
 rcases h.2 with ⟨rfl, _⟩ | ⟨g', cap, cur, rfl, _, hgg, _⟩
 ·simp [Value.ownBlock] at hg
 ·simp [Value.ownBlock] at hg
  subst hg
  exact ⟨cur, hgg⟩
theorem own_wrote {W W' : World} {B C b k n : Nat} {v : Value} {xs : List Value} {l l' : List UInt8} (h : W.ownsRow C 78 k v n xs) (hb : Bld W B b l) (hw : Wrote W B b l' W') : W'.ownsRow C 78 k v n xs := by
 obtain ⟨_, _, hk⟩ := hw
 obtain ⟨c0, hc0⟩ := bld_block hb
 refine ⟨h.1, ?_⟩
 rcases h.2 with h2 | ⟨g, cap, cur, hv, hg, hh, r⟩
 ·exact .inl h2
 ·refine .inr ⟨g, cap, cur, hv, hg, hk g _ hh (fun e => ?_) (fun c fz e => ?_), r⟩
  ·injection e with e
   subst e
   rw [hh] at hc0
   injection hc0 with hc0
   injection hc0 with _ e _
   exact absurd e (by decide)
  ·injection e with _ e
   exact absurd e (by decide)
theorem atF_grown {W W' : World} {B C b k n : Nat} {p v : Value} {xs bs : List Value} (h : Lib.BuilderAtF 71 5 B b p bs W) (ho : W.ownsRow C 78 k v n xs) (hg : W.grownBy W' v.ownBlock) : Lib.BuilderAtF 71 5 B b p bs W' := by
 obtain ⟨h1, u, h2, h3, h4⟩ := h
 have lt : ∀ k o, W.heap[k]? = some o → k < W.heap.size := fun k o hk => (Array.getElem?_eq_some_iff.1 hk).1
 refine ⟨h1, u, (hg.block b (lt b _ h2) fun e => ?_).trans h2, ⟨h3.1, ?_⟩, h4⟩
 ·obtain ⟨c, hc⟩ := own_kind ho b e.symm
  rw [h2] at hc
  injection hc with hc
  injection hc with _ e _
  exact absurd e (by decide)
 ·rcases h3.2 with h5 | ⟨g, cap, cur, fz, e1, e2, e3, e4⟩
  ·exact .inl h5
  ·refine .inr ⟨g, cap, cur, fz, e1, e2, (hg.block g (lt g _ e3) fun e => ?_).trans e3, e4⟩
   obtain ⟨c, hc⟩ := own_kind ho g e.symm
   rw [e3] at hc
   injection hc with hc
   injection hc with _ e _
   exact absurd e (by decide)
theorem bld_grown {W W' : World} {B C b k n : Nat} {v : Value} {xs : List Value} {l : List UInt8} (h : Bld W B b l) (ho : W.ownsRow C 78 k v n xs) (hg : W.grownBy W' v.ownBlock) : Bld W' B b l :=
 h.elim (fun x => .inl (atF_grown x ho hg)) (fun x => .inr (atF_grown x ho hg))
structure TxW (base : Nat) (W : World) (v : Value) (T : List Lv) (bs : List UInt8) : Prop where
 own : W.ownsRow (base + 2) 78 3 v T.length (T.flatMap Lv.vals)
 bld : Bld W (base + 1) (base + 1) bs
 ok : ∀ y ∈ T, LvOk W (base + 1) y
 sz : base + 2 ≤ W.heap.size
theorem TxW.below {base : Nat} {W W' : World} {v : Value} {T : List Lv} {bs : List UInt8} (h : TxW base W v T bs) (hb : Below W.heap.size W W') : TxW base W' v T bs :=
 ⟨own_below h.own hb, h.bld.kept hb, fun y hy => (h.ok y hy).kept (KeepS.of_below hb), Nat.le_trans h.sz hb.size⟩
theorem TxW.wrote {base : Nat} {W W' : World} {v : Value} {T : List Lv} {bs bs' : List UInt8} (h : TxW base W v T bs) (hw : Wrote W (base + 1) (base + 1) bs' W') : TxW base W' v T bs' :=
 ⟨own_wrote h.own h.bld hw, hw.1, fun y hy => (h.ok y hy).kept (KeepS.lt hw.2.1), Nat.le_trans h.sz hw.2.1.size⟩
theorem lv_more (R : List Lv) (y : Lv) : (R ++ [y]).flatMap Lv.vals = R.flatMap Lv.vals ++ y.vals := by rw [List.flatMap_append]; simp
theorem lv_length (R : List Lv) (y : Lv) : (R ++ [y]).length = R.length + 1 := by rw [List.length_append]; rfl
theorem TxW.last {base : Nat} {W : World} {v : Value} {R : List Lv} {y : Lv} {bs : List UInt8} (h : TxW base W v (R ++ [y]) bs) : ∃ g cp, v = .slice (some ⟨g, 0, none⟩) (R.length + 1) cp ∧ base + 2 ≤ g ∧ g < W.heap.size ∧ R.length + 1 ≤ cp ∧
  W.cell? ⟨g, R.length * 3, none⟩ = some (.pointer (some ⟨y.b, y.o, none⟩)) ∧ W.cell? ⟨g, R.length * 3 + 1, none⟩ = some (.int .i64 (y.told : Int)) ∧ W.cell? ⟨g, R.length * 3 + 2, none⟩ = some (.string (Ident.mk y.e)) ∧ ∀ o, W.frozen? ⟨g, o, none⟩ = false := by
 have ho := h.own
 have hlen := lv_length R y
 rw [lv_length] at ho
 rcases ho.2 with ⟨_, h0⟩ | ⟨g, cp, cur, rfl, hg, hh, hn, _⟩
 ·exact absurd h0 (Nat.succ_ne_zero _)
 ·have hgt : ∀ i, i < 3 → W.cell? ⟨g, R.length * 3 + i, none⟩ = y.vals[i]? := fun i hi => by
   rw [ho.cellAt (R.length * 3 + i) (by omega), flat_get Lv.vals 3 lv_len _ _ _ (by omega) hi]
   simp [List.getD]
  exact ⟨g, cp, rfl, hg, (Array.getElem?_eq_some_iff.1 hh).1, hn, hgt 0 (by omega), hgt 1 (by omega), hgt 2 (by omega), fun o => ho.frozenAt o⟩
theorem TxW.pop {base : Nat} {W : World} {g cp : Nat} {R : List Lv} {y : Lv} {bs : List UInt8} (h : TxW base W (.slice (some ⟨g, 0, none⟩) (R.length + 1) cp) (R ++ [y]) bs) : TxW base W (.slice (some ⟨g, 0, none⟩) R.length cp) R bs := by
 refine ⟨?_, h.bld, fun z hz => h.ok z (by simp [hz]), h.sz⟩
 have ho := h.own
 rw [lv_length, lv_more] at ho
 exact ownsRow_pop (by rw [flat_len Lv.vals 3 lv_len]) ho
theorem TxW.next {base : Nat} {W : World} {g cp : Nat} {R : List Lv} {y : Lv} {bs : List UInt8} (h : TxW base W (.slice (some ⟨g, 0, none⟩) (R.length + 1) cp) (R ++ [y]) bs) (ht : y.told < y.r.subs.length) (hg : base + 2 ≤ g) :
  TxW base (W.setCell ⟨g, R.length * 3 + 1, none⟩ (.int .i64 ((y.told + 1 : Nat) : Int))) (.slice (some ⟨g, 0, none⟩) (R.length + 1) cp) (R ++ [{ y with told := y.told + 1 }]) bs := by
 have ho := h.own
 rw [lv_length, lv_more] at ho
 obtain ⟨h1, h2⟩ := ho.stored (R.length * 3 + 1) (.int .i64 ((y.told + 1 : Nat) : Int))
 have hK : KeepS (LtB (base + 1)) W (W.setCell ⟨g, R.length * 3 + 1, none⟩ (.int .i64 ((y.told + 1 : Nat) : Int))) := KeepS.set (by unfold LtB; omega) _
 refine ⟨?_, bld_grown h.bld ho h2, fun z hz => ?_, by simpa using h.sz⟩
 ·rw [lv_length, lv_more]
  rw [List.set_append_right _ _ (by rw [flat_len Lv.vals 3 lv_len]; omega), flat_len Lv.vals 3 lv_len, show R.length * 3 + 1 - R.length * 3 = 1 by omega] at h1
  exact h1
 ·rcases List.mem_append.1 hz with hz | hz
  ·exact (h.ok z (by simp [hz])).kept hK
  ·rw [List.mem_singleton] at hz
   subst hz
   have := (h.ok y (by simp)).kept hK
   exact ⟨this.cells, this.lt, this.lies, this.good, ht, this.few⟩
theorem TxW.lastAt {base : Nat} {W : World} {g cp : Nat} {R : List Lv} {y : Lv} {bs : List UInt8} (h : TxW base W (.slice (some ⟨g, 0, none⟩) (R.length + 1) cp) (R ++ [y]) bs) : base + 2 ≤ g ∧ g < W.heap.size ∧
  W.cell? ⟨g, R.length * 3, none⟩ = some (.pointer (some ⟨y.b, y.o, none⟩)) ∧ W.cell? ⟨g, R.length * 3 + 1, none⟩ = some (.int .i64 (y.told : Int)) ∧ W.cell? ⟨g, R.length * 3 + 2, none⟩ = some (.string (Ident.mk y.e)) ∧ ∀ o, W.frozen? ⟨g, o, none⟩ = false := by
 obtain ⟨g', cp', e, h1, h2, _, h3⟩ := h.last
 injection e with e
 injection e with e
 injection e with e
 subst e
 exact ⟨h1, h2, h3⟩
def Inn (base : Nat) (W : World) (nb b o : Nat) (e : List UInt8) : Prop := W.ownsRow (base + 2) 78 3 (.slice (some ⟨nb, 0, none⟩) 1 1) 1 [.pointer (some ⟨b, o, none⟩), .int .i64 0, .string (Ident.mk e)]
theorem Inn.new {base : Nat} {W : World} (b o : Nat) (h : base + 2 ≤ W.heap.size) : Inn base (W.alloc (.cells #[.pointer (some ⟨b, o, none⟩), .int .i64 0, .string ⟨#[]⟩] 78)) W.heap.size b o [] :=
 World.ownsRow_lit (base := base + 2) (e := 78) (size := 3) W #[.pointer (some ⟨b, o, none⟩), .int .i64 0, .string ⟨#[]⟩] 1 h (by decide) rfl
theorem Inn.below {base : Nat} {W W' : World} {nb b o : Nat} {e : List UInt8} (h : Inn base W nb b o e) (hb : Below W.heap.size W W') : Inn base W' nb b o e := own_below h hb
theorem Inn.wrote {base : Nat} {W W' : World} {nb b o : Nat} {e : List UInt8} (h : Inn base W nb b o e) {v : Value} {T : List Lv} {bs bs' : List UInt8} (hT : TxW base W v T bs) (hw : Wrote W (base + 1) (base + 1) bs' W') : Inn base W' nb b o e := own_wrote h hT.bld hw
theorem Inn.cells {base : Nat} {W : World} {nb b o : Nat} {e : List UInt8} (h : Inn base W nb b o e) : W.cell? ⟨nb, 0, none⟩ = some (.pointer (some ⟨b, o, none⟩)) ∧ W.cell? ⟨nb, 1, none⟩ = some (.int .i64 0) ∧ W.cell? ⟨nb, 2, none⟩ = some (.string (Ident.mk e)) ∧ (∀ i, W.frozen? ⟨nb, i, none⟩ = false) ∧ base + 2 ≤ nb := by
 have h1 := h
 unfold Inn at h1
 exact ⟨h1.cellAt 0 (by omega), h1.cellAt 1 (by omega), h1.cellAt 2 (by omega), fun i => h1.frozenAt i, (h1.lt nb rfl).1⟩
theorem Inn.shut {base : Nat} {W : World} {nb b o : Nat} {e : List UInt8} (h : Inn base W nb b o e) (e' : List UInt8) {v : Value} {T : List Lv} {bs : List UInt8} (hT : TxW base W v T bs) (hne : v.ownBlock ≠ some nb) :
  Inn base (W.setCell ⟨nb, 2, none⟩ (.string (Ident.mk e'))) nb b o e' ∧ TxW base (W.setCell ⟨nb, 2, none⟩ (.string (Ident.mk e'))) v T bs ∧ Below (base + 2) W (W.setCell ⟨nb, 2, none⟩ (.string (Ident.mk e'))) := by
 have hb := h.cells.2.2.2.2
 have h1 := h
 unfold Inn at h1
 obtain ⟨h2, h3⟩ := h1.stored 2 (.string (Ident.mk e'))
 have hK : KeepS (LtB (base + 1)) W (W.setCell ⟨nb, 2, none⟩ (.string (Ident.mk e'))) := KeepS.set (by unfold LtB; omega) _
 exact ⟨h2, ⟨ownsRow_setCell_other hT.own hne _, bld_grown hT.bld h1 h3, fun y hy => (hT.ok y hy).kept hK, by simpa using hT.sz⟩, (Below.refl _ _).setCell hb _⟩
theorem lvInfo : (Tryz.prog.info? 78).map (fun i => (i.zero, i.size, i.bytes)) = some (some (.agg #[.pointer none, .int .i64 0, .string ⟨#[]⟩]), 3, 32) := by kernel_rfl
theorem wpList_append_lv (w : World) {ops : Array Oper} {rest : List Oper} {o : Oper} {a : Act} {Q : Exit → Act → World → Prop} (hgd : o.guard = none) (s x : Operand)
  (ho : o.op = .call { callee := .builtin .append, args := #[s, x], argTypes := #[79, 79] })
  (base : Nat) (v : Value) (T : List Lv) (bs : List UInt8) (hs : a.eval s = v) (hT : TxW base w v T bs)
  (ad : Addr) (y : Lv) (hx : a.eval x = .slice (some ad) 1 1) (hnews : ∀ j u, y.vals[j]? = some u → w.cell? (ad.add j) = some u) (hok : LvOk w (base + 1) y) (hb : T.length ≤ 5000000)
  (h : ∀ v' w', TxW base w' v' (T ++ [y]) bs → Below (base + 2) w w' → wpList Tryz.prog ops Q rest (a.put o.dst v') w') : wpList Tryz.prog ops Q (o :: rest) a w := by
 obtain ⟨i, hi, hz, hsz, hby⟩ := info_parts lvInfo
 refine wpList_append_own_at w hgd s x 79 ho (base + 2) 78 i _ 3 32 Tryz.underlying79 hi hz hsz hby rfl (by omega) v T.length _ hs hT.own ad 1 1 y.vals hx rfl hnews (lv_one y) (by unfold maxLen; omega) (by omega) hT.sz (fun v' w' h2 h3 _ h5 => ?_)
 have hB : Below (base + 2) w w' := ⟨h3.os, h3.tape, h3.output, h3.size, fun k hk => h3.block k (by have := hT.sz; omega) (fun e2 => by have := (hT.own.lt k e2.symm).1; omega)⟩
 have hK : KeepS (LtB (base + 1)) w w' := KeepS.lt (hB.mono (by omega))
 refine h v' w' ⟨by rw [lv_length, lv_more]; exact h2, bld_grown hT.bld hT.own h3, fun z hz => ?_, Nat.le_trans hT.sz h3.size⟩ hB
 rcases List.mem_append.1 hz with hz | hz
 ·exact (hT.ok z hz).kept hK
 ·rw [List.mem_singleton] at hz
  subst hz
  exact hok.kept hK
end Go.Proofs.YtgfbflnhjpbceaaGreatDoor.Range
namespace Go.Proofs.YtgfbflnhjpbceaaGreatDoor.Nrm
open Go.RowKit Num Ident Semver Prec Span
open Range (Rng noRng goodR goodL fits RV RAt RgRow LtB Elems wt wtL wtL_len wt_mem KeepS zeroRV rgInfo rv_one rv_len own_kind)
theorem op_append_rg (w : World) {o : Oper} {a : Act} {K : Act → World → Prop} {Q : Exit → Act → World → Prop} (s x : Operand)
  (ho : o.op = .call { callee := .builtin .append, args := #[s, x], argTypes := #[26, 26] })
  (base : Nat) (v : Value) (n : Nat) (xs : List RV) (hs : a.eval s = v) (hown : w.ownsRow base 28 7 v n (xs.flatMap RV.vals))
  (ad : Addr) (y : RV) (hx : a.eval x = .slice (some ad) 1 1) (hnews : ∀ j u, y.vals[j]? = some u → w.cell? (ad.add j) = some u) (hb : n ≤ 5000000) (hbase : base ≤ w.heap.size)
  (h : ∀ v' w', w'.ownsRow base 28 7 v' (n + 1) ((xs ++ [y]).flatMap RV.vals) → w.grownBy w' v.ownBlock → (v'.ownBlock = v.ownBlock ∨ v'.ownBlock = some w.heap.size) → K (a.put o.dst v') w') : Oper.wp Tryz.prog o a w K Q := by
 obtain ⟨i, hi, hz, hsz, hby⟩ := info_parts rgInfo
 obtain ⟨v', w', hr, h2, h3, h4, h5⟩ := run_append_own_at (P := Tryz.prog) w base 26 o.type 28 i _ 7 104 Tryz.underlying26 hi hz hsz hby rfl (by omega) v n _ hown ad 1 1 y.vals rfl hnews (rv_one y) (by unfold maxLen; omega) (by omega) hbase
 unfold Oper.wp execOp
 simp only [ho, resolve, invoke, builtin, Sem.run_bind, Sem.run_pure, Result.andThen_ok, List.map_toArray, List.map_cons, List.map_nil, hs, hx, hr]
 exact h v' w' (by rw [List.flatMap_append]; simpa using h2) h3 h5
structure PsAt (w : World) (B n : Nat) (L : List Sp) (v : Value) (done : List Rng) (xs : List RV) (W : World) : Prop where
 cx : CxAt W w.heap.size n (ends L n)
 own : W.ownsRow (w.heap.size + 1) 28 7 v done.length (xs.flatMap RV.vals)
 len : xs.length = done.length
 lies : ∀ j, j < done.length → Range.Lies W (Elems B v) (done.getD j noRng) (xs.getD j default)
 bel : Below w.heap.size w W
theorem PsAt.kept {w : World} {B n : Nat} {L : List Sp} {v : Value} {done : List Rng} {xs : List RV} {W W' : World} (h : PsAt w B n L v done xs W) (hb : Below W.heap.size W W') : PsAt w B n L v done xs W' :=
 ⟨h.cx.kept hb, own_below h.own hb, h.len, fun j hj => (h.lies j hj).keep (KeepS.of_below hb), h.bel.trans (hb.mono h.bel.size)⟩
theorem strs_elems {W : World} {b0 B k : Nat} {v : Value} {ys : List Value} (h : W.ownsRow b0 28 7 v k ys) {g : Nat} (hs : Strs W B g) : Elems B v g := by
 refine ⟨hs.1, fun e => ?_⟩
 obtain ⟨c, hc⟩ := own_kind h g e.symm
 have hlt := (h.lt g e.symm).2
 rcases hs.2 with h1 | ⟨c2, h1⟩
 ·omega
 ·rw [hc] at h1
  injection h1 with h1
  injection h1 with _ h2 _
  exact absurd h2 (by decide)
theorem CxAt.grown {w w' : World} {row : Option Nat} {g n : Nat} {E : Nat → Value} (h : CxAt w g n E) (hg : w.grownBy w' row) (hne : some g ≠ row) : CxAt w' g n E := by
 have k := hg.block g h.1 hne
 exact ⟨Nat.lt_of_lt_of_le h.1 hg.size, fun o => (World.frozen?_of_block (w := w) (a := ⟨g, o, none⟩) k).trans (h.2.1 o), fun j hj => (World.cell?_of_block (w := w) (a := ⟨g, j, none⟩) k).trans (h.2.2 j hj)⟩
theorem PsAt.more {w : World} {B n : Nat} {L : List Sp} {v v' : Value} {done : List Rng} {xs : List RV} {W W' : World} {r : Rng} {x : RV} (h : PsAt w B n L v done xs W) (ho : W'.ownsRow (w.heap.size + 1) 28 7 v' (done.length + 1) ((xs ++ [x]).flatMap RV.vals)) (hg : W.grownBy W' v.ownBlock)
  (hat : v'.ownBlock = v.ownBlock ∨ v'.ownBlock = some W.heap.size) (hx : Range.Lies W (Elems B v) r x) : PsAt w B n L v' (done ++ [r]) (xs ++ [x]) W' := by
 have hel : ∀ (q : Rng) (y : RV), Range.Lies W (Elems B v) q y → Range.Lies W' (Elems B v') q y := fun q y hq => by
  have h1 : Range.Lies W (fun g => Elems B v g ∧ Elems B v' g) q y := hq.mono fun g hS hlt => ⟨hS, hS.1, by
   rcases hat with e | e
   ·rw [e]; exact hS.2
   ·rw [e]; intro h; injection h with h; omega⟩
  exact (h1.keep (KeepS.grown hg fun g hS => hS.1.2)).mono fun g hS _ => hS.2
 refine ⟨h.cx.grown hg (fun e => by have := (h.own.lt _ e.symm).1; omega), by rw [List.length_append]; exact ho, by rw [List.length_append, List.length_append, h.len]; rfl, fun k hk => ?_, h.bel.trans ((Below.refl _ _).grown hg h.bel.size fun g e => by have := (h.own.lt _ e).1; omega)⟩
 rw [List.length_append, List.length_singleton] at hk
 by_cases hlt : k < done.length
 ·have e1 : (done ++ [r]).getD k noRng = done.getD k noRng := by simp [List.getD, List.getElem?_append_left hlt]
  have e2 : (xs ++ [x]).getD k default = xs.getD k default := by simp [List.getD, List.getElem?_append_left (show k < xs.length by rw [h.len]; exact hlt)]
  rw [e1, e2]; exact hel _ _ (h.lies k hlt)
 ·have ek : k = done.length := by omega
  have e1 : (done ++ [r]).getD k noRng = r := by rw [ek]; simp [List.getD]
  have e2 : (xs ++ [x]).getD k default = x := by rw [ek, ← h.len]; simp [List.getD]
  rw [e1, e2]; exact hel _ _ hx
theorem PsAt.row {w : World} {B n : Nat} {L : List Sp} {v : Value} {done : List Rng} {xs : List RV} {W : World} (h : PsAt w B n L v done xs W) (hB : B ≤ w.heap.size) : ∃ A e, v = .slice A done.length e ∧ done.length ≤ e ∧ (A = none → e = 0) ∧ RgRow W (fun g => B ≤ g) A done.length done :=
 Range.RgRow.of_own h.own (fun g hg => by omega) h.len rfl fun j hj => (h.lies j hj).mono fun _ hS _ => hS.1
theorem ends_at {W : World} {g n : Nat} {L : List Sp} (h : CxAt W g n (ends L n)) {j : Nat} (hj : j < n) : W.cell? ⟨g, j, none⟩ = some (.complex .f64 (fb (lk L j)) (fb (pk L (j + 1)))) := by
 rw [h.2.2 j hj]; unfold ends; rw [if_pos hj]
/-! Rows, and what is left of them. -/
theorem PsAt.bel_le {w : World} {B n : Nat} {L : List Sp} {v : Value} {done : List Rng} {xs : List RV} {W : World} (h : PsAt w B n L v done xs W) : w.heap.size + 1 ≤ W.heap.size := h.cx.1
def rowOf (L : List Sp) (f p : Nat) : List Sp := (L.drop f).take (p + 1)
theorem rowOf_len {L : List Sp} {f p : Nat} (h : f + p < L.length) : (rowOf L f p).length = p + 1 := by unfold rowOf; rw [List.length_take, List.length_drop]; omega
theorem rowOf_at {L : List Sp} {f p j : Nat} (hj : j ≤ p) : (rowOf L f p).getD j default = L.getD (f + j) default := by
 unfold rowOf
 simp only [List.getD_eq_getElem?_getD]
 rw [List.getElem?_take, if_pos (by omega), List.getElem?_drop]
theorem rowOf_last {L : List Sp} {f p : Nat} (h : f + p < L.length) : lastOf (rowOf L f p) = L.getD (f + p) default := by
 unfold lastOf; rw [rowOf_len h, Nat.add_sub_cancel, rowOf_at (Nat.le_refl p)]
theorem rowOf_next {L : List Sp} {f p : Nat} (h : f + p + 1 < L.length) : rowOf L f (p + 1) = rowOf L f p ++ [L.getD (f + p + 1) default] := by
 unfold rowOf
 rw [take_next (L.drop f) default (p + 1) (by rw [List.length_drop]; omega)]
 congr 2
 simp only [List.getD_eq_getElem?_getD]
 rw [List.getElem?_drop, Nat.add_assoc]
theorem drop_next {L : List Sp} {t : Nat} (h : t < L.length) : L.drop t = L.getD t default :: L.drop (t + 1) := by
 rw [List.drop_eq_getElem_cons h]; simp [List.getD, List.getElem?_eq_getElem h]
theorem rowOf_one {L : List Sp} {f : Nat} (h : f < L.length) : rowOf L f 0 = [L.getD f default] := by
 unfold rowOf
 rw [drop_next h]; rfl
theorem rowOf_norm {L : List Sp} (h : Span.Norm L) (f p : Nat) : Span.Norm (rowOf L f p) := by
 have h1 : Span.Norm (L.drop f) := by
  have := h
  rw [← List.take_append_drop f L] at this
  exact (norm_append this).2
 have h2 := h1
 rw [← List.take_append_drop (p + 1) (L.drop f)] at h2
 exact (norm_append h2).1
def Half (L : List Sp) (f p : Nat) (done : List Rng) : Prop := Chain (rowOf L f p) ∧ done ++ (grp (rowOf L f p) (L.drop (f + p + 1))).map pieceR = piecesR L
theorem half_start {L : List Sp} {t : Nat} {done : List Rng} (h : done ++ piecesR (L.drop t) = piecesR L) (ht : t < L.length) : Half L t 0 done := by
 unfold Half
 rw [rowOf_one ht]
 refine ⟨Chain.one _, ?_⟩
 rw [drop_next ht] at h
 exact h
theorem half_more {L : List Sp} {f p : Nat} {done : List Rng} (h : Half L f p done) (ht : f + p + 1 < L.length) (hl : isPoint (L.getD (f + p) default).hi (L.getD (f + p + 1) default).lo = true) : Half L f (p + 1) done := by
 have hlast := rowOf_last (L := L) (f := f) (p := p) (by omega)
 have hlink : isPoint (lastOf (rowOf L f p)).hi (L.getD (f + p + 1) default).lo = true := by rw [hlast]; exact hl
 have hne : rowOf L f p ≠ [] := by intro e; have := rowOf_len (L := L) (f := f) (p := p) (by omega); rw [e] at this; simp at this
 refine ⟨by rw [rowOf_next ht]; exact h.1.snoc hne hlink, ?_⟩
 have h2 := h.2
 rw [drop_next ht, grp, if_pos hlink, ← rowOf_next ht] at h2
 exact h2
theorem half_shut {L : List Sp} {f p : Nat} {done : List Rng} (h : Half L f p done) (ht : f + p < L.length) (hl : f + p + 1 < L.length → isPoint (L.getD (f + p) default).hi (L.getD (f + p + 1) default).lo = false) : (done ++ [pieceR (rowOf L f p)]) ++ piecesR (L.drop (f + p + 1)) = piecesR L := by
 have h2 := h.2
 by_cases hlt : f + p + 1 < L.length
 ·have hlast := rowOf_last (L := L) (f := f) (p := p) (by omega)
  rw [drop_next hlt, grp, if_neg (by rw [hlast, hl hlt]; simp), List.map_cons] at h2
  rw [drop_next hlt, List.append_assoc]
  exact h2
 ·rw [List.drop_eq_nil_of_le (by omega), grp] at h2
  rw [List.drop_eq_nil_of_le (by omega)]
  show (done ++ [pieceR (rowOf L f p)]) ++ [] = _
  rw [List.append_nil]; exact h2
theorem SpRow.sub {w : World} {A : Option Addr} {n : Nat} {l : List RSp} (h : SpRow w A n l) {b o f p : Nat} (hA : A = some ⟨b, o, none⟩) (hf : f + p < n) : SpRow w (some ⟨b, o + f * 12, none⟩) (p + 1) ((l.drop f).take (p + 1)) := by
 have hl := h.1
 refine ⟨by rw [List.length_take, List.length_drop]; omega, fun s hs => h.2.1 s (List.mem_of_mem_drop (List.mem_of_mem_take hs)), fun _ => ?_⟩
 obtain ⟨b', o', e, hb, hc⟩ := h.2.2 (by omega)
 rw [hA] at e
 injection e with e
 injection e with e1 e2
 subst e1; subst e2
 refine ⟨b, o + f * 12, rfl, hb, fun j hj i v hv => ?_⟩
 have e3 : ((l.drop f).take (p + 1)).getD j default = l.getD (f + j) default := by
  simp only [List.getD_eq_getElem?_getD]
  rw [List.getElem?_take, if_pos hj, List.getElem?_drop]
 rw [e3] at hv
 have := hc (f + j) (by omega) i v hv
 rw [Nat.add_assoc o, ← Nat.add_mul]; exact this
end Go.Proofs.YtgfbflnhjpbceaaGreatDoor.Nrm
namespace Go.Proofs.YtgfbflnhjpbceaaGreatDoor.Nrm
open Go.RowKit Num Ident Semver Prec Span
open Range (Rng noRng goodR goodL fits RV RAt RgRow LtB Elems wt wtL wtL_len wt_mem KeepS zeroRV)
def PsJ0 (w : World) (A : Option Addr) (B n c : Nat) (l : List RSp) (a' : Act) (W : World) : Prop :=
 ∃ (t : Nat) (v : Value) (done : List Rng) (xs : List RV) (u1 u6 : Value) (u7 u8 u9 u10 u11 u12 u13 u14 u15 u16 u17 u18 u19 u20 u21 u22 u23 u24 u25 u26 u27 u28 u29 u30 u31 u32 u33 u34 u35 u36 u37 u38 u39 u40 u41 u42 u43 u44 u45 u46 : Value), t ≤ n ∧ done.length ≤ t ∧ Hid (PsAt w B n (l.map RSp.sp) v done xs W) ∧ Hid (done ++ piecesR ((l.map RSp.sp).drop t) = piecesR (l.map RSp.sp)) ∧
  a' = { tmps := #[.slice A n c, u1, .slice none 0 0, .slice (some ⟨w.heap.size, 0, none⟩) n n, v, .int .i64 (t : Int), u6, u7, u8, u9, u10, u11, u12, u13, u14, u15, u16, u17, u18, u19, u20, u21, u22, u23, u24, u25, u26, u27, u28, u29, u30, u31, u32, u33, u34, u35, u36, u37, u38, u39, u40, u41, u42, u43, u44, u45, u46], defers := [] }
def PsJ1 (w : World) (A : Option Addr) (B n c : Nat) (l : List RSp) (a' : Act) (W : World) : Prop :=
 ∃ (f t : Nat) (v : Value) (done : List Rng) (xs : List RV) (u1 : Value) (u7 u8 u9 u10 u11 u12 u13 u14 u15 u16 u17 u18 u19 u20 u21 u22 u23 u24 u25 u26 u27 u28 u29 u30 u31 u32 u33 u34 u35 u36 u37 u38 u39 u40 u41 u42 u43 u44 u45 u46 : Value), f ≤ t ∧ t < n ∧ done.length ≤ f ∧ Hid (PsAt w B n (l.map RSp.sp) v done xs W) ∧ Hid (Half (l.map RSp.sp) f (t - f) done) ∧
  a' = { tmps := #[.slice A n c, u1, .slice none 0 0, .slice (some ⟨w.heap.size, 0, none⟩) n n, v, .int .i64 (t : Int), .int .i64 (f : Int), u7, u8, u9, u10, u11, u12, u13, u14, u15, u16, u17, u18, u19, u20, u21, u22, u23, u24, u25, u26, u27, u28, u29, u30, u31, u32, u33, u34, u35, u36, u37, u38, u39, u40, u41, u42, u43, u44, u45, u46], defers := [] }
def PsM (n : Nat) (a' : Act) (_ : World) : Nat := n - (intOf (a'.tmps.getD 5 undef)).toNat
theorem pieces_any (A : Option Addr) (n c : Nat) (l : List RSp) (B : Nat) (w : World) (hr : SpRow w A n l) (hn : n ≤ 74) (hcn : n ≤ c) (ho : ∀ s ∈ l, OwnsS w B s) (hB : B ≤ w.heap.size) (hN : Span.Norm (l.map RSp.sp)) :
  Calls Tryz.prog 41 #[.slice A n c] w fun e w' => ∃ L m e', e = .returned (.slice L m e') ∧ m ≤ e' ∧ m ≤ n ∧ (L = none → e' = 0) ∧ RgRow w' (fun g => B ≤ g) L m (piecesR (l.map RSp.sp)) ∧ Below w.heap.size w w' := by
 have HR := Lib.hid hr
 have HO := Lib.hid ho
 have HN := Lib.hid hN
 clear hr ho hN
 go_enter Tryz.func41, Tryz.ntmps41
 go_wp2
 refine wp_two (PsJ0 w A B n c l) (PsJ1 w A B n c l) (PsM n) (PsM n) rfl rfl ?_ ?_ ?_
 ·intro mm
  rintro a' W ⟨f, t, v, done, xs, u1, u7, u8, u9, u10, u11, u12, u13, u14, u15, u16, u17, u18, u19, u20, u21, u22, u23, u24, u25, u26, u27, u28, u29, u30, u31, u32, u33, u34, u35, u36, u37, u38, u39, u40, u41, u42, u43, u44, u45, u46, hft, htn, hdn, HA, HH, rfl⟩ hmm
  have hmm2 : mm = n - t := by rw [← hmm]; simp [PsM, intOf]
  clear hmm
  have hbn : n ≤ 74 := hn
  have hlen : (l.map RSp.sp).length = n := by rw [List.length_map]; exact HR.out.1
  obtain ⟨b, o, hAe, hbw, hcell⟩ := HR.out.2.2 (by omega)
  clear hcell
  subst hAe
  obtain ⟨s, hs⟩ : ∃ s, s = t + 1 := ⟨_, rfl⟩
  obtain ⟨p, hp⟩ : ∃ p, p = t - f := ⟨_, rfl⟩
  have htp : t = f + p := by omega
  rw [← hp] at HH
  have hw1 : IntKind.i64.wrap ((s : Int) - 1) = (t : Int) := by rw [IntKind.wrap_i64] <;> omega
  have hsub : s - f = p + 1 := by omega
  have hfs : f ≤ s := by omega
  have hsc : s ≤ c := by omega
  have hsn : s ≤ n := by omega
  have hcf : ¬ c = f := by omega
  have htn2 : ¬ n ≤ t := by omega
  have hfn : ¬ n ≤ f := by omega
  have hfn2 : f < n := by omega
  have hp74 : p ≤ 100000 := by omega
  have hpc : p + 1 ≤ c - f := by omega
  have hs1 : ((t : Int) + 1) = (s : Int) := by omega
  have HCt : Hid (∀ W' : World, CxAt W' w.heap.size n (ends (l.map RSp.sp) n) → W'.cell? ⟨w.heap.size, t, none⟩ = some (.complex .f64 (fb (lk (l.map RSp.sp) t)) (fb (pk (l.map RSp.sp) s)))) := fun W' h => by rw [hs]; exact ends_at h htn
  have HTe : Hid (t = f + p) := htp
  have HSe : Hid (s = t + 1) := hs
  have hrow : (((l.drop f).take (p + 1)).map RSp.sp) = rowOf (l.map RSp.sp) f p := by unfold rowOf; rw [List.map_take, List.map_drop]
  have HPC : Hid (∀ W1 : World, Below w.heap.size w W1 → Calls Tryz.prog 76 #[.slice (some ⟨b, o + f * 12, none⟩) (p + 1) (c - f), .complex .f64 (fb (lk (l.map RSp.sp) f)) (fb (pk (l.map RSp.sp) (f + 1)))] W1 (RngPost W1 (Strs W1 B) (pieceR (rowOf (l.map RSp.sp) f p)))) := fun W1 hb1 => by
   have h := piece_any (some ⟨b, o + f * 12, none⟩) p (c - f) ((l.drop f).take (p + 1)) (fb (lk (l.map RSp.sp) f)) (fb (pk (l.map RSp.sp) (f + 1))) B W1 (SpRow.sub (HR.out.kept hb1) rfl (by omega)) hp74 hpc
    (fun s hs => (HO.out s (List.mem_of_mem_drop (List.mem_of_mem_take hs))).kept hb1) (Nat.le_trans hB hb1.size) (by rw [hrow]; exact rowOf_norm HN.out f p) (by rw [hrow]; exact HH.out.1) (by
     have e0 : ((l.drop f).take (p + 1)).getD 0 default = l.getD f default := by
      simp only [List.getD_eq_getElem?_getD]
      rw [List.getElem?_take, if_pos (by omega), List.getElem?_drop, Nat.add_zero]
     rw [e0, pk_lk, fb_eq (by have := lk_le (l.map RSp.sp) f; omega), sp_at]; rfl)
   rw [hrow] at h
   exact h
  clear hs hp htp hrow
  by_cases hlt : s < n
  ·obtain ⟨lnk, hlnk⟩ : ∃ lnk, isPoint ((l.map RSp.sp).getD t default).hi ((l.map RSp.sp).getD s default).lo = lnk := ⟨_, rfl⟩
   have HLq : Hid ((FloatKind.f64.format.order (fb (pk (l.map RSp.sp) s)) (fb (lk (l.map RSp.sp) s)) == some .eq) = lnk) := by
    unfold Hid
    rw [HSe.out] at hlnk ⊢
    rw [lk_next, fb_eq (by have := pk_le (l.map RSp.sp) (t + 1); omega), hlnk]
   have HLk : Hid (isPoint ((l.map RSp.sp).getD (f + p) default).hi ((l.map RSp.sp).getD (f + p + 1) default).lo = lnk) := by
    unfold Hid
    rw [HSe.out, HTe.out] at hlnk
    exact hlnk
   have hlt1 : (s : Int) < (n : Int) := by omega
   have hlt2 : ¬ n ≤ s := by omega
   clear hlnk
   go_upto_region 8 with (fail)
   replace HA : Hid (PsAt w B n (l.map RSp.sp) v done xs W.drew) := HA.out.kept (Below.refl _ _).drew
   refine wp_region_held_drew (S := fun w' => CxAt w' w.heap.size n (ends (l.map RSp.sp) n)) (by kernel_rfl) HA.out.cx (fun hHeld => ?_)
   refine tk 0 rfl (.int .i64 (s : Int)) ?_
   refine tk 1 rfl (.slice (some ⟨b, o, none⟩) n c) ?_
   refine tk 2 rfl (.int .i64 (n : Int)) ?_
   refine tk 3 rfl (.bool true) ?_
   refine tk 4 rfl (.bool true) ?_
   refine tk 5 rfl (.slice (some ⟨w.heap.size, 0, none⟩) n n) ?_
   refine tk 6 rfl (.int .i64 (s : Int)) ?_
   refine tk 7 rfl (.int .i64 (t : Int)) ?_
   refine tk 8 rfl (.pointer (some ⟨w.heap.size, t, none⟩)) ?_
   refine tk 9 rfl (.complex .f64 (fb (lk (l.map RSp.sp) t)) (fb (pk (l.map RSp.sp) s))) ?_ fun w' hS' => by have hc := HCt.out _ hS'; go_simp
   refine tk 10 rfl (.float .f64 (fb (pk (l.map RSp.sp) s))) ?_
   refine tk 11 rfl (.slice (some ⟨w.heap.size, 0, none⟩) n n) ?_
   refine tk 12 rfl (.int .i64 (s : Int)) ?_
   refine tk 13 rfl (.pointer (some ⟨w.heap.size, s, none⟩)) ?_
   refine tk 14 rfl (.complex .f64 (fb (lk (l.map RSp.sp) s)) (fb (pk (l.map RSp.sp) (s + 1)))) ?_ fun w' hS' => by have hc := ends_at hS' hlt; go_simp
   refine tk 15 rfl (.float .f64 (fb (lk (l.map RSp.sp) s))) ?_
   refine tk 16 rfl (.bool lnk) ?_ fun w' hS' => by have hq := HLq.out; go_simp
   refine tk 17 rfl (.bool lnk) ?_
   refine wpAnyH_done (by kernel_rfl) ?_ _
   cases lnk
   ·have HSh : Hid ((done ++ [pieceR (rowOf (l.map RSp.sp) f p)]) ++ piecesR ((l.map RSp.sp).drop s) = piecesR (l.map RSp.sp)) := by
     unfold Hid
     have h1 := HSe.out
     have h2 := HTe.out
     rw [h1, h2]
     exact half_shut HH.out (by omega) (fun _ => HLk.out)
    go_upto_region 9 with (fail)
    clear hHeld
    replace HA : Hid (PsAt w B n (l.map RSp.sp) v done xs W.drew.drew) := HA.out.kept (Below.refl _ _).drew
    refine wp_region_held_drew (S := fun w' => CxAt w' w.heap.size n (ends (l.map RSp.sp) n)) (by kernel_rfl) HA.out.cx (fun hHeld => ?_)
    generalize W.drew.drew = W1 at HA hHeld ⊢
    refine tk 0 rfl v ?_
    refine tk 1 rfl (.slice (some ⟨b, o, none⟩) n c) ?_
    refine tk 2 rfl (.int .i64 (f : Int)) ?_
    refine tk 3 rfl (.int .i64 (s : Int)) ?_
    refine tk 4 rfl (.slice (some ⟨b, o + f * 12, none⟩) (p + 1) (c - f)) ?_
    refine tk 5 rfl (.slice (some ⟨w.heap.size, 0, none⟩) n n) ?_
    refine tk 6 rfl (.int .i64 (f : Int)) ?_
    refine tk 7 rfl (.pointer (some ⟨w.heap.size, f, none⟩)) ?_
    refine tk 8 rfl (.complex .f64 (fb (lk (l.map RSp.sp) f)) (fb (pk (l.map RSp.sp) (f + 1)))) ?_ fun w' hS' => by have hc := ends_at hS' hfn2; go_simp
    refine cl 9 rfl fun K hK => ?_
    go_simp
    refine (HPC.out _ HA.out.bel).mono ?_
    rintro e wg1 ⟨x, he, hx, hb⟩
    unfold RV.agg at he
    subst he
    have HX : Hid (Range.Lies wg1 (Elems B v) (pieceR (rowOf (l.map RSp.sp) f p)) x) := hx.mono fun g hS _ => strs_elems HA.out.own hS
    replace HA : Hid (PsAt w B n (l.map RSp.sp) v done xs wg1) := HA.out.kept hb
    clear hx
    clear hb hHeld
    refine hK.out _ _ HA.out.cx (fun hHeld => ?_)
    clear hK K
    try simp only [Act.put, p1, p2, p3]
    refine cl 10 rfl fun K hK => ?_
    go_simp
    have hb : Below wg1.heap.size wg1 (wg1.alloc (.cells x.vals.toArray 28)) := (Below.refl _ _).alloc (Nat.le_refl _) _
    replace HA : Hid (PsAt w B n (l.map RSp.sp) v done xs (wg1.alloc (.cells x.vals.toArray 28))) := HA.out.kept hb
    replace HX : Hid (Range.Lies (wg1.alloc (.cells x.vals.toArray 28)) (Elems B v) (pieceR (rowOf (l.map RSp.sp) f p)) x) := HX.out.keep (KeepS.of_below hb)
    clear hb hHeld
    refine hK.out _ _ HA.out.cx (fun hHeld => ?_)
    clear hK K
    try simp only [Act.put, p1, p2, p3]
    refine cl 11 rfl fun K hK => ?_
    rw [if_pos (by rfl)]
    refine op_append_rg _ _ _ rfl (w.heap.size + 1) v done.length xs rfl HA.out.own ⟨wg1.heap.size, 0, none⟩ x rfl (news_new wg1 x.vals 28) (by omega) HA.out.bel_le ?_
    intro v3 w3 ho hg hat
    have HA3 := Lib.hid (HA.out.more ho hg hat HX.out)
    clear ho hg hat hHeld
    refine hK.out _ _ HA3.out.cx (fun hHeld => ?_)
    clear hK K
    try simp only [Act.put, p1, p2, p3]
    refine tk 12 rfl v3 ?_
    refine wpAnyH_done (by kernel_rfl) ?_ _
    go_wp2
    go_step3
    exact .inl ⟨rfl, ⟨s, v3, done ++ [pieceR (rowOf (l.map RSp.sp) f p)], xs ++ [x], u1, .int .i64 (f : Int), _, _, _, _, _, _, _, _, _, _, _, _, _, _, _, _, _, _, _, _, _, _, _, _, _, _, _, _, _, _, _, _, _, _, _, _, _, _, _, _, hsn, by rw [List.length_append, List.length_singleton]; omega, HA3, HSh, rfl⟩, by (try rw [hmm2]); simp [PsM, intOf]; omega⟩
   ·have HH2 : Hid (Half (l.map RSp.sp) f (s - f) done) := by
     unfold Hid
     have h := half_more HH.out (by have h1 := HSe.out; have h2 := HTe.out; omega) HLk.out
     rw [hsub]; exact h
    go_wp2
    go_step3
    exact .inr ⟨rfl, ⟨f, s, v, done, xs, u1, _, _, _, _, _, _, _, _, _, _, _, _, _, _, _, _, _, _, _, _, _, _, _, _, _, _, _, _, _, _, _, _, _, _, _, _, _, _, _, _, hfs, hlt, hdn, HA, HH2, rfl⟩, by (try rw [hmm2]); simp [PsM, intOf]; omega⟩
  ·have hlt1 : ¬ (s : Int) < (n : Int) := by omega
   have HSh : Hid ((done ++ [pieceR (rowOf (l.map RSp.sp) f p)]) ++ piecesR ((l.map RSp.sp).drop s) = piecesR (l.map RSp.sp)) := by
    unfold Hid
    have h1 := HSe.out
    have h2 := HTe.out
    rw [h1, h2]
    exact half_shut HH.out (by omega) (fun h => absurd h (by omega))
   go_upto_region 8 with (fail)
   replace HA : Hid (PsAt w B n (l.map RSp.sp) v done xs W.drew) := HA.out.kept (Below.refl _ _).drew
   refine wp_region_held_drew (S := fun w' => CxAt w' w.heap.size n (ends (l.map RSp.sp) n)) (by kernel_rfl) HA.out.cx (fun hHeld => ?_)
   refine tk 0 rfl (.int .i64 (s : Int)) ?_
   refine tk 1 rfl (.slice (some ⟨b, o, none⟩) n c) ?_
   refine tk 2 rfl (.int .i64 (n : Int)) ?_
   refine tk 3 rfl (.bool false) ?_
   refine tk 4 rfl (.bool false) ?_
   refine sk 5 rfl ?_
   refine sk 6 rfl ?_
   refine sk 7 rfl ?_
   refine sk 8 rfl ?_
   refine sk 9 rfl ?_
   refine sk 10 rfl ?_
   refine sk 11 rfl ?_
   refine sk 12 rfl ?_
   refine sk 13 rfl ?_
   refine sk 14 rfl ?_
   refine sk 15 rfl ?_
   refine sk 16 rfl ?_
   refine tk 17 rfl (.bool false) ?_
   refine wpAnyH_done (by kernel_rfl) ?_ _
   go_upto_region 9 with (fail)
   clear hHeld
   replace HA : Hid (PsAt w B n (l.map RSp.sp) v done xs W.drew.drew) := HA.out.kept (Below.refl _ _).drew
   refine wp_region_held_drew (S := fun w' => CxAt w' w.heap.size n (ends (l.map RSp.sp) n)) (by kernel_rfl) HA.out.cx (fun hHeld => ?_)
   generalize W.drew.drew = W1 at HA hHeld ⊢
   refine tk 0 rfl v ?_
   refine tk 1 rfl (.slice (some ⟨b, o, none⟩) n c) ?_
   refine tk 2 rfl (.int .i64 (f : Int)) ?_
   refine tk 3 rfl (.int .i64 (s : Int)) ?_
   refine tk 4 rfl (.slice (some ⟨b, o + f * 12, none⟩) (p + 1) (c - f)) ?_
   refine tk 5 rfl (.slice (some ⟨w.heap.size, 0, none⟩) n n) ?_
   refine tk 6 rfl (.int .i64 (f : Int)) ?_
   refine tk 7 rfl (.pointer (some ⟨w.heap.size, f, none⟩)) ?_
   refine tk 8 rfl (.complex .f64 (fb (lk (l.map RSp.sp) f)) (fb (pk (l.map RSp.sp) (f + 1)))) ?_ fun w' hS' => by have hc := ends_at hS' hfn2; go_simp
   refine cl 9 rfl fun K hK => ?_
   go_simp
   refine (HPC.out _ HA.out.bel).mono ?_
   rintro e wg1 ⟨x, he, hx, hb⟩
   unfold RV.agg at he
   subst he
   have HX : Hid (Range.Lies wg1 (Elems B v) (pieceR (rowOf (l.map RSp.sp) f p)) x) := hx.mono fun g hS _ => strs_elems HA.out.own hS
   replace HA : Hid (PsAt w B n (l.map RSp.sp) v done xs wg1) := HA.out.kept hb
   clear hx
   clear hb hHeld
   refine hK.out _ _ HA.out.cx (fun hHeld => ?_)
   clear hK K
   try simp only [Act.put, p1, p2, p3]
   refine cl 10 rfl fun K hK => ?_
   go_simp
   have hb : Below wg1.heap.size wg1 (wg1.alloc (.cells x.vals.toArray 28)) := (Below.refl _ _).alloc (Nat.le_refl _) _
   replace HA : Hid (PsAt w B n (l.map RSp.sp) v done xs (wg1.alloc (.cells x.vals.toArray 28))) := HA.out.kept hb
   replace HX : Hid (Range.Lies (wg1.alloc (.cells x.vals.toArray 28)) (Elems B v) (pieceR (rowOf (l.map RSp.sp) f p)) x) := HX.out.keep (KeepS.of_below hb)
   clear hb hHeld
   refine hK.out _ _ HA.out.cx (fun hHeld => ?_)
   clear hK K
   try simp only [Act.put, p1, p2, p3]
   refine cl 11 rfl fun K hK => ?_
   rw [if_pos (by rfl)]
   refine op_append_rg _ _ _ rfl (w.heap.size + 1) v done.length xs rfl HA.out.own ⟨wg1.heap.size, 0, none⟩ x rfl (news_new wg1 x.vals 28) (by omega) HA.out.bel_le ?_
   intro v3 w3 ho hg hat
   have HA3 := Lib.hid (HA.out.more ho hg hat HX.out)
   clear ho hg hat hHeld
   refine hK.out _ _ HA3.out.cx (fun hHeld => ?_)
   clear hK K
   try simp only [Act.put, p1, p2, p3]
   refine tk 12 rfl v3 ?_
   refine wpAnyH_done (by kernel_rfl) ?_ _
   go_wp2
   go_step3
   exact .inl ⟨rfl, ⟨s, v3, done ++ [pieceR (rowOf (l.map RSp.sp) f p)], xs ++ [x], u1, .int .i64 (f : Int), _, _, _, _, _, _, _, _, _, _, _, _, _, _, _, _, _, _, _, _, _, _, _, _, _, _, _, _, _, _, _, _, _, _, _, _, _, _, _, _, hsn, by rw [List.length_append, List.length_singleton]; omega, HA3, HSh, rfl⟩, by (try rw [hmm2]); simp [PsM, intOf]; omega⟩
 ·intro HP mm
  rintro a' W ⟨t, v, done, xs, u1, u6, u7, u8, u9, u10, u11, u12, u13, u14, u15, u16, u17, u18, u19, u20, u21, u22, u23, u24, u25, u26, u27, u28, u29, u30, u31, u32, u33, u34, u35, u36, u37, u38, u39, u40, u41, u42, u43, u44, u45, u46, htn, hdn, HA, HD, rfl⟩ hmm
  have hmm2 : mm = n - t := by rw [← hmm]; simp [PsM, intOf]
  have hlen : (l.map RSp.sp).length = n := by rw [List.length_map]; exact HR.out.1
  clear hmm
  by_cases hlt : t < n
  ·have hne : ¬ t = n := by omega
   have HH : Hid (Half (l.map RSp.sp) t (t - t) done) := by
    unfold Hid
    rw [Nat.sub_self]
    exact half_start HD.out (by omega)
   go_wp2
   go_step3
   rename_i hK
   exact hK _ _ (HP.out _ _ _ ⟨t, t, v, done, xs, u1, _, _, _, _, _, _, _, _, _, _, _, _, _, _, _, _, _, _, _, _, _, _, _, _, _, _, _, _, _, _, _, _, _, _, _, _, _, _, _, _, Nat.le_refl t, hlt, hdn, HA, HH, rfl⟩ (by (try rw [hmm2]); simp [PsM, intOf]))
  ·obtain rfl : t = n := by omega
   have hdone : done = piecesR (l.map RSp.sp) := by
    have h := HD.out
    rw [List.drop_eq_nil_of_le (by omega)] at h
    exact (List.append_nil _).symm.trans h
   obtain ⟨L, e, rfl, he, hnil, hrow⟩ := HA.out.row hB
   rw [hdone] at hrow he hdn
   have HRow := Lib.hid hrow
   have HNil := Lib.hid hnil
   have HBl := Lib.hid HA.out.bel
   have hl2 : done.length = (piecesR (l.map RSp.sp)).length := by rw [hdone]
   clear hrow hnil HA HD hdone
   rw [hl2]
   generalize hq : (piecesR (l.map RSp.sp)).length = q at HRow he hdn ⊢
   clear hl2
   go_wp2
   simp only [jumps]
   go_ret
   exact ⟨L, q, e, rfl, he, hdn, HNil.out, HRow.out, HBl.out⟩
 ·intro HP
  go_wp2_with fail
  refine (ranked_any A n c l w HR.out hn).mono ?_
  rintro e W2 ⟨rfl, hcx, hb⟩
  have HA0 : Hid (PsAt w B n (l.map RSp.sp) (.slice none 0 0) [] [] W2) := ⟨hcx, World.ownsRow_nil _ _ _ _, rfl, (fun j hj => absurd hj (Nat.not_lt_zero _)), hb⟩
  have HD0 : Hid (([] : List Rng) ++ piecesR ((l.map RSp.sp).drop 0) = piecesR (l.map RSp.sp)) := rfl
  clear hcx hb
  go_wp2
  go_step3
  rename_i hK
  exact hK _ _ (HP.out _ _ ⟨0, .slice none 0 0, [], [], _, _, _, _, _, _, _, _, _, _, _, _, _, _, _, _, _, _, _, _, _, _, _, _, _, _, _, _, _, _, _, _, _, _, _, _, _, _, _, _, _, _, Nat.zero_le _, Nat.zero_le _, HA0, HD0, rfl⟩)
end Go.Proofs.YtgfbflnhjpbceaaGreatDoor.Nrm
