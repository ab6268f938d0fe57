/-
  What the theorem of the last text needs of these: RgMark, RgSev, RgSameMem, RgSame, RgGood, NmGood. Conditions: as each theorem states.
-/
import Derived.Test.YtgfbflnhjpbceaaGreatDoorHasB1
import Derived.Test.YtgfbflnhjpbceaaGreatDoorHasB3
import Derived.Test.YtgfbflnhjpbceaaGreatDoorHasB5
import Derived.Test.YtgfbflnhjpbceaaGreatDoorHasB6
import Derived.Test.YtgfbflnhjpbceaaGreatDoorHasB16
import Derived.Test.YtgfbflnhjpbceaaGreatDoorHasB17
import Derived.Deep.CutBlock
import Derived.Deep.RegionHeld3
import Derived.WalkSmall
import Derived.Laws.OwnMore
import Derived.StillTailTactics
import Derived.Deep.DeepCutAuto
set_option maxRecDepth 100000
set_option maxHeartbeats 25600000
namespace Go.Proofs.YtgfbflnhjpbceaaGreatDoor.Range
open Go.RowKit Num Ident Semver
theorem good_short {v : Ver} (h : goodV v = true) : shortB v.pre = true ∧ shortB v.build = true := by
 unfold goodV at h
 rw [Bool.and_eq_true, Bool.and_eq_true] at h
 obtain ⟨_, h2, h3⟩ := h
 have b1 := goodFrom_bound _ _ h2
 have b2 := goodFrom_bound _ _ h3
 refine ⟨(shortB_iff _).2 ⟨?_, fun x hx => Nat.le_trans (b1.2 x hx) (by omega)⟩, (shortB_iff _).2 ⟨?_, fun x hx => Nat.le_trans (b2.2 x hx) (by omega)⟩⟩
 ·by_cases e : v.pre = []
  ·rw [e]; simp
  ·have := b1.1 e; omega
 ·by_cases e : v.build = []
  ·rw [e]; simp
  ·have := b2.1 e; omega
theorem mark_of {k : Int} (v : Ver) (h1 : 1 ≤ k) (h2 : k ≤ 8) : markR k v = ops.getD (k - 1).toNat [] ++ vtext v := by
 unfold markR ofVersion
 rw [if_neg (by omega), if_neg (by omega), if_neg (by omega), if_pos (by simp; omega)]
theorem mark_any (x : RV) (w : World) (hr1 : SRow w x.A x.v.pre.length x.v.pre) (hr2 : SRow w x.B x.v.build.length x.v.build) (hc1 : x.v.pre.length ≤ x.c) (hc2 : x.v.build.length ≤ x.d)
  (hk : x.kind = 0 ∨ (x.kind = 9 ∨ x.kind = 10) ∨ x.kind = 11 ∨ (1 ≤ x.kind ∧ x.kind ≤ 8 ∧ goodV x.v = true)) (hlen : (markR x.kind x.v).length ≤ 100000000) (ht : OpsTab w) (htab : Tab w) :
  Calls Tryz.prog 51 #[x.agg] w fun e w' => e = .returned (.string (mk (markR x.kind x.v))) ∧ Below w.heap.size w w' := by
 have HB : Hid (Below w.heap.size w (w.alloc (.cells #[.int .i64 x.kind, .int .u64 (x.v.a : Int), .int .u64 (x.v.b : Int), .int .u64 (x.v.c : Int), .slice x.A x.v.pre.length x.c, .slice x.B x.v.build.length x.d, .slice x.L x.n x.e] 28))) := (Below.refl _ _).alloc (Nat.le_refl _) _
 have HRA : Hid (RAt (w.alloc (.cells #[.int .i64 x.kind, .int .u64 (x.v.a : Int), .int .u64 (x.v.b : Int), .int .u64 (x.v.c : Int), .slice x.A x.v.pre.length x.c, .slice x.B x.v.build.length x.d, .slice x.L x.n x.e] 28)) w.heap.size x) := RAt.new w _ x
 have HT : Hid (OpsTab (w.alloc (.cells #[.int .i64 x.kind, .int .u64 (x.v.a : Int), .int .u64 (x.v.b : Int), .int .u64 (x.v.c : Int), .slice x.A x.v.pre.length x.c, .slice x.B x.v.build.length x.d, .slice x.L x.n x.e] 28))) := ht.keep (Keep.of_below HB.out)
 have HTX : Hid (goodV x.v = true → ∀ W, Below w.heap.size w W → Calls Tryz.prog 91 #[.agg #[.int .u64 (x.v.a : Int), .int .u64 (x.v.b : Int), .int .u64 (x.v.c : Int), .slice x.A x.v.pre.length x.c, .slice x.B x.v.build.length x.d]] W fun e w' => e = .returned (.string (mk (vtext x.v))) ∧ Below W.heap.size W w') := fun hg W hb => by
  have f := fit_good hg
  have s := good_short hg
  exact vtext_any x.v x.A x.c x.B x.d W f.a f.b f.c (hr1.kept hb) (hr2.kept hb) hc1 hc2 s.1 s.2 (htab.kept hb)
 clear hr1 hr2 hc1 hc2 ht htab
 unfold RV.agg
 go_enter Tryz.func51, Tryz.ntmps51
 go_upto_region 1 with (fail)
 generalize w.alloc (.cells #[.int .i64 x.kind, .int .u64 (x.v.a : Int), .int .u64 (x.v.b : Int), .int .u64 (x.v.c : Int), .slice x.A x.v.pre.length x.c, .slice x.B x.v.build.length x.d, .slice x.L x.n x.e] 28) = W at HB HRA HT ⊢
 obtain ⟨y1, y2, c0, c1, c2, c3, c4, c5, c6⟩ := HRA.out
 rcases hk with hk | (hk | hk) | hk | ⟨h1, h2, h3⟩
 ·rw [hk] at c0
  have HM : Hid (markR x.kind x.v = [42]) := by rw [hk]; rfl
  clear hk
  go_wp2; go_ret
  exact ⟨by rw [HM.out]; rfl, HB.out⟩
 ·rw [hk] at c0
  have HM : Hid (markR x.kind x.v = []) := by rw [hk]; rfl
  clear hk
  go_wp2; go_ret
  exact ⟨by rw [HM.out]; rfl, HB.out⟩
 ·rw [hk] at c0
  have HM : Hid (markR x.kind x.v = []) := by rw [hk]; rfl
  clear hk
  go_wp2; go_ret
  exact ⟨by rw [HM.out]; rfl, HB.out⟩
 ·rw [hk] at c0
  have HM : Hid (markR x.kind x.v = [33]) := by rw [hk]; rfl
  clear hk
  go_wp2; go_ret
  exact ⟨by rw [HM.out]; rfl, HB.out⟩
 ·have HM := Lib.hid (mark_of x.v h1 h2)
  obtain ⟨k, hk⟩ : ∃ k : Nat, (x.kind - 1).toNat = k := ⟨_, rfl⟩
  have hk8 : k < 8 := by omega
  have hk1 : x.kind = (k : Int) + 1 := by omega
  have hw1 : IntKind.i64.wrap (x.kind - 1) = (k : Int) := by rw [IntKind.wrap_i64] <;> omega
  have n0 : ¬ x.kind = 0 := by omega
  have n9 : ¬ x.kind = 9 := by omega
  have n10 : ¬ x.kind = 10 := by omega
  have n11 : ¬ x.kind = 11 := by omega
  have HOV : Hid (ofVersion x.kind = true) := by unfold Hid ofVersion; simp; omega
  have HTX := Lib.hid (HTX.out h3)
  rw [hk] at HM
  have hk8i : (k : Int) < 8 := by omega
  have hsz : (mk (ops.getD k [])).size + (mk (vtext x.v)).size ≤ 9223372036854775807 := by
   rw [HM.out, List.length_append] at hlen
   rw [mk_size, mk_size]; omega
  clear hlen
  have q9 : (x.kind == 9) = false := by simp [n9]
  have q10 : (x.kind == 10) = false := by simp [n10]
  clear hk h1 h2 h3 hk1
  go_wp2_with fail
  refine (ofVersion_any x.kind W).mono ?_
  rintro e w' ⟨rfl, rfl⟩
  rw [HOV.out]
  go_upto_region 8 with (fail)
  have HBd : Hid (Below w.heap.size w w'.drew) := HB.out.drew
  have HRAd : Hid (RAt w'.drew w.heap.size x) := HRA.out
  have HTd : Hid (OpsTab w'.drew) := HT.out
  clear HB HRA HT
  refine wp_region_held_drew (S := fun w' => RAt w' w.heap.size x ∧ OpsTab w') (by kernel_rfl) ⟨HRAd.out, HTd.out⟩ (fun hHeld => ?_)
  refine tk 0 rfl (.pointer (some ⟨w.heap.size, 0, none⟩)) ?_
  refine tk 1 rfl (.int .i64 x.kind) ?_ fun w' hS' => by obtain ⟨y1, y2, c0, c1, c2, c3, c4, c5, c6⟩ := hS'.1; go_simp
  refine tk 2 rfl (.int .i64 (k : Int)) ?_
  refine tk 3 rfl (.pointer (some ⟨0, k, none⟩)) ?_
  refine tk 4 rfl (.string (mk (ops.getD k []))) ?_ fun w' hS' => by have x4 := hS'.2 k hk8; go_simp
  refine tk 5 rfl (.pointer (some ⟨w.heap.size, 1, none⟩)) ?_
  refine tk 6 rfl (.agg #[.int .u64 (x.v.a : Int), .int .u64 (x.v.b : Int), .int .u64 (x.v.c : Int), .slice x.A x.v.pre.length x.c, .slice x.B x.v.build.length x.d]) ?_ fun w' hS' => by obtain ⟨y1, y2, c0, c1, c2, c3, c4, c5, c6⟩ := hS'.1; go_simp
  refine cl 7 rfl fun K hK => ?_
  go_simp
  refine (HTX.out _ HBd.out).mono ?_
  rintro e wm1 ⟨rfl, hb⟩
  have HB2 := Lib.hid (HBd.out.trans (hb.mono HBd.out.size))
  have HRA1 : Hid (RAt wm1 w.heap.size x) := HRAd.out.kept hb HRAd.out.1
  have HT1 : Hid (OpsTab wm1) := HTd.out.keep (Keep.of_below hb)
  clear hb hHeld
  refine hK.out _ _ ⟨HRA1.out, HT1.out⟩ (fun hHeld => ?_)
  clear hK K
  try simp only [Act.put, p1, p2, p3]
  refine tk 8 rfl (.string (mk (ops.getD k []) ++ mk (vtext x.v))) ?_ fun w' hS' => by go_simp; exact hsz
  refine tk 9 rfl (.string (mk (ops.getD k []) ++ mk (vtext x.v))) ?_
  refine wpAnyH_done (by kernel_rfl) ?_ _
  go_wp2
  go_ret
  exact ⟨by rw [HM.out, ← mk_cat]; rfl, HB2.out⟩
end Go.Proofs.YtgfbflnhjpbceaaGreatDoor.Range
namespace Go.Proofs.YtgfbflnhjpbceaaGreatDoor.Range
open Go.RowKit Num Ident Semver

theorem rgInfo : (Tryz.prog.info? 28).map (fun i => (i.zero, i.size, i.bytes)) = some (some (.agg #[.int .i64 0, .int .u64 0, .int .u64 0, .int .u64 0, .slice none 0 0, .slice none 0 0, .slice none 0 0]), 7, 104) := by kernel_rfl
theorem wpList_append_rg (w : World) {ops : Array Oper} {rest : List Oper} {o : Oper} {a : Act} {Q : Exit → Act → World → Prop} (hgd : o.guard = none) (s x : Operand)
  (ho : o.op = .call { callee := .builtin .append, args := #[s, x], argTypes := #[26, 26] })
  (base : Nat) (v : Value) (n : Nat) (xs : List RV) (hs : a.eval s = v) (hown : w.ownsRow base 28 7 v n (xs.flatMap RV.vals))
  (ad : Addr) (y : RV) (hx : a.eval x = .slice (some ad) 1 1) (hnews : ∀ j u, y.vals[j]? = some u → w.cell? (ad.add j) = some u) (hb : (n + 1) * 104 ≤ 140737488355328) (hbase : base ≤ w.heap.size)
  (h : ∀ v' w', w'.ownsRow base 28 7 v' (n + 1) ((xs ++ [y]).flatMap RV.vals) → w.grownBy w' v.ownBlock → (v'.ownBlock = v.ownBlock ∨ v'.ownBlock = some w.heap.size) → wpList Tryz.prog ops Q rest (a.put o.dst v') w') : wpList Tryz.prog ops Q (o :: rest) a w := by
 obtain ⟨i, hi, hz, hsz, hby⟩ := info_parts rgInfo
 refine wpList_append_own_at w hgd s x 26 ho base 28 i _ 7 104 Tryz.underlying26 hi hz hsz hby rfl (by omega) v n _ hs hown ad 1 1 y.vals hx rfl hnews (rv_one y) (by unfold maxLen; omega) hb hbase (fun v' w' h2 h3 _ h5 => ?_)
 exact h v' w' (by rw [List.flatMap_append]; simpa using h2) h3 h5
def Elems (B : Nat) (v : Value) (g : Nat) : Prop := B ≤ g ∧ some g ≠ v.ownBlock
structure OwnRg (w : World) (B : Nat) (v : Value) (l : List Rng) (xs : List RV) : Prop where
 own : w.ownsRow B 28 7 v l.length (xs.flatMap RV.vals)
 len : xs.length = l.length
 lies : ∀ j, j < l.length → Lies w (Elems B v) (l.getD j noRng) (xs.getD j default)
theorem OwnRg.nil (w : World) (B : Nat) : OwnRg w B (.slice none 0 0) [] [] := ⟨World.ownsRow_nil _ _ _ _, rfl, fun _ hj => absurd hj (Nat.not_lt_zero _)⟩
theorem OwnRg.kept {w w' : World} {B : Nat} {v : Value} {l : List Rng} {xs : List RV} (h : OwnRg w B v l xs) (k : Below w.heap.size w w') : OwnRg w' B v l xs := ⟨own_below h.own k, h.len, fun j hj => (h.lies j hj).keep (KeepS.of_below k)⟩
theorem OwnRg.moved {w w' : World} {B b : Nat} {v : Value} {l : List Rng} {xs : List RV} (h : OwnRg w B v l xs) (k : Moved b w w') (hb : b < B) : OwnRg w' B v l xs := by
 refine ⟨h.own.kept (row := some b) ⟨k.os, k.tape, k.output, k.size, fun i hi hne => k.block i hi (fun e => hne (by rw [e]))⟩ ?_, h.len, fun j hj => (h.lies j hj).keep (KeepS.moved k (fun e => by have := e.1; omega))⟩
 cases hv : v.ownBlock with
 | none => exact .inl rfl
 | some g => right; intro e; injection e with e; have := (h.own.lt g hv).1; omega
theorem OwnRg.more {w w' : World} {B : Nat} {v v' : Value} {l : List Rng} {xs : List RV} {r : Rng} {x : RV} {W0 : Nat} (h : OwnRg w B v l xs) (ho : w'.ownsRow B 28 7 v' (l.length + 1) ((xs ++ [x]).flatMap RV.vals)) (hg : w.grownBy w' v.ownBlock) (hat : v'.ownBlock = v.ownBlock ∨ v'.ownBlock = some w.heap.size) (hx : Lies w (From W0) r x) (hW : B ≤ W0) (hv : ∀ g, v.ownBlock = some g → g < W0) : OwnRg w' B v' (l ++ [r]) (xs ++ [x]) := by
 have hel : ∀ (q : Rng) (y : RV), Lies w (Elems B v) q y → Lies w' (Elems B v') q y := fun q y hq => by
  have h1 : Lies w (fun g => Elems B v g ∧ Elems B v' g) q y := hq.mono fun g hS hlt => ⟨hS, hS.1, by
   rcases hat with e | e
   ·rw [e]; exact hS.2
   ·rw [e]; intro h; injection h with h; omega⟩
  exact (h1.keep (KeepS.grown hg fun g hS => hS.1.2)).mono fun g hS _ => hS.2
 have hnew : Lies w (Elems B v) r x := hx.mono fun g hS _ => ⟨Nat.le_trans hW hS, fun e => by have := hv g e.symm; unfold From at hS; omega⟩
 refine ⟨by rw [List.length_append]; exact ho, by rw [List.length_append, List.length_append, h.len]; rfl, fun k hk => ?_⟩
 rw [List.length_append, List.length_singleton] at hk
 by_cases hlt : k < l.length
 ·have e1 : (l ++ [r]).getD k noRng = l.getD k noRng := by simp [List.getD, List.getElem?_append_left hlt]
  have e2 : (xs ++ [x]).getD k default = xs.getD k default := by simp [List.getD, List.getElem?_append_left (show k < xs.length by rw [h.len]; exact hlt)]
  rw [e1, e2]; exact hel _ _ (h.lies k hlt)
 ·have ek : k = l.length := by omega
  have e1 : (l ++ [r]).getD k noRng = r := by rw [ek]; simp [List.getD]
  have e2 : (xs ++ [x]).getD k default = x := by rw [ek, ← h.len]; simp [List.getD]
  rw [e1, e2]; exact hel _ _ hnew
theorem OwnRg.row {w : World} {B : Nat} {v : Value} {l : List Rng} {xs : List RV} (h : OwnRg w B v l xs) : ∃ L e, v = .slice L l.length e ∧ l.length ≤ e ∧ (L = none → e = 0) ∧ RgRow w (From B) L l.length l :=
 RgRow.of_own h.own (fun _ hg => hg) h.len rfl fun j hj => (h.lies j hj).mono fun _ hS _ => hS.1
theorem RgPost.alloc {b : Nat} {A : Option Addr} {n c : Nat} {l : List UInt8} {w W : World} {t : Out} {e : Ending} (h : RgPost b A n c l w t e W) (hb : b < w.heap.size) (o : Obj) : RgPost b A n c l w t e (W.alloc o) := by
 obtain ⟨x, q, h1, h2, h3, h4, h5⟩ := h
 exact ⟨x, q, h1, h2.keep (KeepS.alloc _ _), h3, h4.alloc _, h5.alloc hb _⟩
end Go.Proofs.YtgfbflnhjpbceaaGreatDoor.Range
namespace Go.Proofs.YtgfbflnhjpbceaaGreatDoor.Range
open Go.RowKit Num Ident Semver
structure Ent where
 l : List Rng
 A : Option Addr
 e : Nat
 B : Option Addr
 f : Nat
def Ent.vals (x : Ent) : List Value := [.slice x.A x.l.length x.e, .slice x.B x.l.length x.f]
def LtB (B g : Nat) : Prop := g < B
theorem KeepS.lt {w w' : World} {B : Nat} (h : Below B w w') : KeepS (LtB B) w w' := ⟨h.size, fun g o _ hg hc => (h.cell (p := ⟨g, o, none⟩) hg).trans hc⟩
structure EntOk (W : World) (B : Nat) (x : Ent) : Prop where
 a : RgRow W (LtB B) x.A x.l.length x.l
 b : RgRow W (LtB B) x.B x.l.length x.l
 pos : 0 < x.l.length
theorem RgRow.one {w : World} {S : Nat → Prop} {L : Option Addr} {n : Nat} {l : List Rng} (h : RgRow w S L n l) {j : Nat} (hj : j < n) : ∃ b o x, L = some ⟨b, o, none⟩ ∧ S b ∧ CellsAt w b (o + j * 7) x ∧ Lies w S (l.getD j noRng) x := by
 obtain ⟨f, _, h2, h3⟩ := h
 obtain ⟨b, o, e, hb, hc⟩ := h2 (by omega)
 exact ⟨b, o, f j, e, hb, hc j hj, h3 j hj⟩
structure Two (W : World) (B j : Nat) (x : Ent) (r : Rng) (b o b' o' : Nat) (s t : RV) : Prop where
 lt : b < B
 lt' : b' < B
 cs : CellsAt W b (o + j * 7) s
 ct : CellsAt W b' (o' + j * 7) t
 p1 : SRow W s.A s.v.pre.length s.v.pre
 p2 : SRow W s.B s.v.build.length s.v.build
 q1 : SRow W t.A s.v.pre.length s.v.pre
 q2 : SRow W t.B s.v.build.length s.v.build
 fit : FitV s.v
 ra : RgRow W (LtB B) s.L s.n r.subs
 rb : RgRow W (LtB B) t.L s.n r.subs
 kind : t.kind = s.kind
 ver : t.v = s.v
 n : t.n = s.n
 len : s.n = r.subs.length
end Go.Proofs.YtgfbflnhjpbceaaGreatDoor.Range
namespace Go.Proofs.YtgfbflnhjpbceaaGreatDoor.Range
open Go.RowKit Num Ident Semver
theorem arr_lit (t : Array Value) (n : Nat) (h : t.size = n) : t = ((List.range n).map fun i => t.getD i undef).toArray := by
 apply Array.ext
 ·simp [h]
 ·intro i h1 h2
  simp [Array.getD, h1]
end Go.Proofs.YtgfbflnhjpbceaaGreatDoor.Range
namespace Go.Proofs.YtgfbflnhjpbceaaGreatDoor.Range
open Go.RowKit Num Ident Semver
theorem srow_none (w : World) (A : Option Addr) : SRow w A 0 [] := ⟨rfl, fun h => absurd h (Nat.lt_irrefl _)⟩
theorem wtL_len : ∀ l : List Rng, l.length ≤ wtL l
 | [] => Nat.le_refl _
 | r :: l => by rw [wtL_cons, wt_eq, List.length_cons]; have := wtL_len l; omega
theorem wt_mem {x : Rng} : ∀ {l : List Rng}, x ∈ l → wt x ≤ wtL l
 | [], h => by cases h
 | y :: l, h => by
  rw [wtL_cons]
  rcases List.mem_cons.1 h with rfl | h
  ·omega
  ·have := wt_mem h; omega
theorem right_at {w : World} {S : Nat → Prop} {r : Rng} {x : RV} {d : Nat} (hx : Lies w S r x) (hg : goodR r d = true) : d ≤ 64 ∧ goodL r.kind r.subs d = true ∧ r.subs.length = x.n ∧ r.kind = x.kind ∧
  ((1 ≤ x.kind ∧ x.kind ≤ 8 ∧ goodV x.v = true ∧ x.n = 0) ∨ (x.v = noVer ∧ ((x.kind = 0 ∧ x.n = 0) ∨ ((x.kind = 9 ∨ x.kind = 10) ∧ 2 ≤ x.n) ∨ (x.kind = 11 ∧ x.n = 1)))) := by
 have hs := hx.says
 obtain ⟨f, hl, _, _⟩ := hs.subs
 have hk := hs.kind
 have hv := hs.ver
 obtain ⟨kind, v, l⟩ := r
 obtain ⟨h1, h2, h3⟩ := good_cases hg
 simp only [Rng.kind, Rng.ver, Rng.subs] at hl hk hv ⊢
 subst hk; subst hv
 refine ⟨h1, h2, hl, rfl, ?_⟩
 rcases h3 with ⟨a, b, c, rfl⟩ | ⟨a, ⟨b, rfl⟩ | ⟨b, c⟩ | ⟨b, y, rfl⟩⟩
 ·exact .inl ⟨a, b, c, hl.symm⟩
 ·exact .inr ⟨a, .inl ⟨b, hl.symm⟩⟩
 ·exact .inr ⟨a, .inr (.inl ⟨b, hl ▸ c⟩)⟩
 ·exact .inr ⟨a, .inr (.inr ⟨b, hl.symm⟩)⟩
end Go.Proofs.YtgfbflnhjpbceaaGreatDoor.Range
namespace Go.Proofs.YtgfbflnhjpbceaaGreatDoor.Range
open Go.RowKit Num Ident Semver
theorem fits_ver {k : Int} {v : Ver} {n : Nat} (h : ofVersion k = true) : fits k v n = (goodV v && decide (n = 0)) := by unfold fits; rw [if_pos h]
theorem fits_un {k : Int} {v : Ver} {n : Nat} (h : ofVersion k = false) (h2 : sameV v noVer = false) : fits k v n = false := by unfold fits; rw [if_neg (by simp [h]), if_pos h2]
theorem fits_zero {k : Int} {v : Ver} {n : Nat} (h : ofVersion k = false) (h2 : sameV v noVer = true) : fits k v n = if k = 0 then decide (n = 0) else if k = 9 ∨ k = 10 then decide (2 ≤ n) else if k = 11 then decide (n = 1) else false := by
 unfold fits; rw [if_neg (by simp [h]), if_neg (by simp [h2])]
theorem fits_full (x : RV) (w : World) (hr1 : SRow w x.A x.v.pre.length x.v.pre) (hr2 : SRow w x.B x.v.build.length x.v.build) (hf : FitV x.v) :
  Calls Tryz.prog 77 #[x.agg] w fun e w' => e = .returned (.bool (fits x.kind x.v x.n)) ∧ Below w.heap.size w w' := by
 have HB : Hid (Below w.heap.size w (w.alloc (.cells #[.int .i64 x.kind, .int .u64 (x.v.a : Int), .int .u64 (x.v.b : Int), .int .u64 (x.v.c : Int), .slice x.A x.v.pre.length x.c, .slice x.B x.v.build.length x.d, .slice x.L x.n x.e] 28))) := (Below.refl _ _).alloc (Nat.le_refl _) _
 have HRA : Hid (RAt (w.alloc (.cells #[.int .i64 x.kind, .int .u64 (x.v.a : Int), .int .u64 (x.v.b : Int), .int .u64 (x.v.c : Int), .slice x.A x.v.pre.length x.c, .slice x.B x.v.build.length x.d, .slice x.L x.n x.e] 28)) w.heap.size x) := RAt.new w _ x
 have HR1 := Lib.hid (hr1.kept HB.out)
 have HR2 := Lib.hid (hr2.kept HB.out)
 have HF := Lib.hid hf
 clear hr1 hr2 hf
 unfold RV.agg
 generalize hR : fits x.kind x.v x.n = R
 have HR := Lib.hid hR
 clear hR
 go_enter Tryz.func77, Tryz.ntmps77
 go_upto_region 1 with (fail)
 generalize w.alloc (.cells #[.int .i64 x.kind, .int .u64 (x.v.a : Int), .int .u64 (x.v.b : Int), .int .u64 (x.v.c : Int), .slice x.A x.v.pre.length x.c, .slice x.B x.v.build.length x.d, .slice x.L x.n x.e] 28) = W at HB HRA HR1 HR2 ⊢
 obtain ⟨y1, y2, c0, c1, c2, c3, c4, c5, c6⟩ := HRA.out
 cases hov : ofVersion x.kind with
 | true =>
  have HOV := Lib.hid hov
  have HE : Hid (R = (goodV x.v && decide (x.n = 0))) := by unfold Hid; rw [← HR.out]; exact fits_ver hov
  clear hov HR
  go_wp2_with fail
  refine (ofVersion_any x.kind W).mono ?_
  rintro e w' ⟨rfl, rfl⟩
  rw [HOV.out]
  go_wp2_with fail
  refine (vgood_any x.v x.A x.c x.B x.d w' HR1.out HR2.out HF.out.pre HF.out.build HF.out.pres HF.out.builds).mono ?_
  rintro e W2 ⟨rfl, hb⟩
  have HB2 := Lib.hid (HB.out.trans (hb.mono HB.out.size))
  have HRA2 := Lib.hid (HRA.out.kept hb HRA.out.1)
  clear hb y1 y2 c0 c1 c2 c3 c4 c5 c6
  obtain ⟨y1, y2, c0, c1, c2, c3, c4, c5, c6⟩ := HRA2.out
  cases hgv : goodV x.v with
  | true =>
   by_cases hn : x.n = 0
   ·obtain rfl : R = true := by rw [HE.out, hgv, hn]; rfl
    rw [hn] at c6
    clear HE hgv hn
    go_wp2; go_ret
    exact ⟨rfl, HB2.out⟩
   ·obtain rfl : R = false := by rw [HE.out, decide_eq_false hn, Bool.and_false]
    have q0 : ((x.n : Int) == 0) = false := beq_eq_false_iff_ne.2 (by omega)
    clear hn HE hgv
    go_wp2; go_ret
    exact ⟨rfl, HB2.out⟩
  | false =>
   obtain rfl : R = false := by rw [HE.out, hgv]; rfl
   clear HE hgv
   go_wp2; go_ret
   exact ⟨rfl, HB2.out⟩
 | false =>
  have HOV := Lib.hid hov
  have HE1 : Hid (sameV x.v noVer = false → R = false) := fun h => by rw [← HR.out]; exact fits_un hov h
  have HE2 : Hid (sameV x.v noVer = true → R = if x.kind = 0 then decide (x.n = 0) else if x.kind = 9 ∨ x.kind = 10 then decide (2 ≤ x.n) else if x.kind = 11 then decide (x.n = 1) else false) := fun h => by rw [← HR.out]; exact fits_zero hov h
  clear hov HR
  go_wp2_with fail
  refine (ofVersion_any x.kind W).mono ?_
  rintro e w' ⟨rfl, rfl⟩
  rw [HOV.out]
  go_wp2_with fail
  refine (same_parts x.A x.v.pre.length x.c x.v.pre x.B x.v.build.length x.d x.v.build none 0 0 [] none 0 0 [] x.v.a x.v.b x.v.c 0 0 0 w' HR1.out HR2.out (srow_none _ _) (srow_none _ _) HF.out.pre HF.out.build (Nat.zero_le _) (Nat.zero_le _)).mono ?_
  rintro e W2 ⟨rfl, hb⟩
  have HB2 := Lib.hid (HB.out.trans (hb.mono HB.out.size))
  have HRA2 := Lib.hid (HRA.out.kept hb HRA.out.1)
  clear hb y1 y2 c0 c1 c2 c3 c4 c5 c6
  obtain ⟨y1, y2, c0, c1, c2, c3, c4, c5, c6⟩ := HRA2.out
  have HS : Hid (sameV ⟨x.v.a, x.v.b, x.v.c, x.v.pre, x.v.build⟩ ⟨0, 0, 0, [], []⟩ = sameV x.v noVer) := rfl
  rw [HS.out]
  cases hsv : sameV x.v noVer with
  | false =>
   obtain rfl := HE1.out hsv
   clear hsv HE1 HE2
   go_wp2; go_ret
   exact ⟨rfl, HB2.out⟩
  | true =>
   have hE := HE2.out hsv
   clear hsv HE1 HE2 HOV HS
   by_cases k0 : x.kind = 0
   ·rw [if_pos k0] at hE
    rw [k0] at c0
    clear k0
    by_cases hn : x.n = 0
    ·obtain rfl : R = true := by rw [hE, decide_eq_true hn]
     rw [hn] at c6
     clear hE hn
     go_wp2; go_ret
     exact ⟨rfl, HB2.out⟩
    ·have q0 : ((x.n : Int) == 0) = false := beq_eq_false_iff_ne.2 (by omega)
     obtain rfl : R = false := by rw [hE, decide_eq_false hn]
     clear hn hE
     go_wp2; go_ret
     exact ⟨rfl, HB2.out⟩
   ·rw [if_neg k0] at hE
    by_cases k9 : x.kind = 9 ∨ x.kind = 10
    ·rw [if_pos k9] at hE
     by_cases hn : 2 ≤ x.n
     ·have hn2 : (2 : Int) ≤ (x.n : Int) := by omega
      obtain rfl : R = true := by rw [hE, decide_eq_true hn]
      clear hn k0 hE
      rcases k9 with k9 | k9 <;> rw [k9] at c0 <;> clear k9 <;> go_wp2 <;> go_ret <;> exact ⟨rfl, HB2.out⟩
     ·have q2 : decide ((2 : Int) ≤ (x.n : Int)) = false := decide_eq_false (by omega)
      obtain rfl : R = false := by rw [hE, decide_eq_false hn]
      clear hn k0 hE
      rcases k9 with k9 | k9 <;> rw [k9] at c0 <;> clear k9 <;> go_wp2 <;> go_ret <;> exact ⟨rfl, HB2.out⟩
    ·rw [if_neg k9] at hE
     by_cases k11 : x.kind = 11
     ·rw [if_pos k11] at hE
      rw [k11] at c0
      clear k11 k0 k9
      by_cases hn : x.n = 1
      ·obtain rfl : R = true := by rw [hE, decide_eq_true hn]
       rw [hn] at c6
       clear hE hn
       go_wp2; go_ret
       exact ⟨rfl, HB2.out⟩
      ·have q1 : ((x.n : Int) == 1) = false := beq_eq_false_iff_ne.2 (by omega)
       obtain rfl : R = false := by rw [hE, decide_eq_false hn]
       clear hn hE
       go_wp2; go_ret
       exact ⟨rfl, HB2.out⟩
     ·rw [if_neg k11] at hE
      obtain rfl := hE
      have n9 : ¬ x.kind = 9 := fun h => k9 (.inl h)
      have n10 : ¬ x.kind = 10 := fun h => k9 (.inr h)
      have q9 : (x.kind == 9) = false := by simp [n9]
      have q10 : (x.kind == 10) = false := by simp [n10]
      clear k9
      go_wp2; go_ret
      exact ⟨rfl, HB2.out⟩
theorem goodL_at {o : Int} {l : List Rng} {d : Nat} : goodL o l d = true ↔ ∀ j, j < l.length → goodR (l.getD j noRng) (d + opens o (l.getD j noRng).kind) = true := by
 induction l with
 | nil => exact ⟨fun _ j hj => by simp at hj, fun _ => rfl⟩
 | cons y l ih =>
  rw [goodL_cons, Bool.and_eq_true, ih]
  constructor
  ·rintro ⟨h1, h2⟩ j hj
   cases j with
   | zero => exact h1
   | succ j => exact h2 j (by simpa using hj)
  ·intro h
   exact ⟨h 0 (by simp), fun j hj => h (j + 1) (by simpa using hj)⟩
theorem goodL_no {o : Int} {l : List Rng} {d j : Nat} (hj : j < l.length) (h : goodR (l.getD j noRng) (d + opens o (l.getD j noRng).kind) = false) : goodL o l d = false := by
 rw [← Bool.not_eq_true, goodL_at]
 intro k
 rw [k j hj] at h; cases h
inductive LenOk : Rng → Prop
 | mk (k : Int) (v : Ver) (l : List Rng) (h : l.length ≤ 9223372036854775807) (hl : ∀ y ∈ l, LenOk y) : LenOk (.mk k v l)
theorem LenOk.here {r : Rng} (h : LenOk r) : r.subs.length ≤ 9223372036854775807 := by cases h with | mk k v l h _ => exact h
theorem LenOk.sub {r y : Rng} (h : LenOk r) (hy : y ∈ r.subs) : LenOk y := by cases h with | mk k v l _ hl => exact hl y hy
theorem LenOk.of_wt : ∀ (m : Nat) (r : Rng), wt r ≤ m → m ≤ 9223372036854775807 → LenOk r
 | 0, r, h, _ => by rw [wt_eq] at h; omega
 | m + 1, r, h, hM => by
  obtain ⟨k, v, l⟩ := r
  rw [wt_eq] at h
  have h2 : wtL l ≤ m := by have : wtL (Rng.mk k v l).subs = wtL l := rfl; omega
  exact .mk k v l (by have := wtL_len l; omega) fun y hy => LenOk.of_wt m y (Nat.le_trans (wt_mem hy) h2) (by omega)
theorem opens_two (a b : Int) : opens a b ≤ 2 := by unfold opens; split <;> split <;> omega
theorem good_full : ∀ (m : Nat) (r : Rng) (x : RV) (B d : Nat) (w : World), wt r ≤ m → LenOk r → Lies w (LtB B) r x → B ≤ w.heap.size → d ≤ 70 →
  Calls Tryz.prog 42 #[x.agg, .int .i64 (d : Int)] w fun e w' => e = .returned (.bool (goodR r d)) ∧ Below w.heap.size w w'
 | 0, r, x, B, d, w, hm, _, hx, hB, hg => by rw [wt_eq] at hm; omega
 | m + 1, r, x, B, d, w, hm, hM, hx, hB, hdd => by
  have IH := Lib.hid (fun r x d w => good_full m r x B d w)
  have hs := hx.says
  obtain ⟨f, hln, _, _⟩ := hs.subs
  have HFits := Lib.hid (fun W (hb : Below w.heap.size w W) => fits_full x W (hs.pre.kept hb) (hs.build.kept hb) hs.fit)
  have HB : Hid (Below w.heap.size w (w.alloc (.cells #[.int .i64 x.kind, .int .u64 (x.v.a : Int), .int .u64 (x.v.b : Int), .int .u64 (x.v.c : Int), .slice x.A x.v.pre.length x.c, .slice x.B x.v.build.length x.d, .slice x.L x.n x.e] 28))) := (Below.refl _ _).alloc (Nat.le_refl _) _
  have HRA : Hid (RAt (w.alloc (.cells #[.int .i64 x.kind, .int .u64 (x.v.a : Int), .int .u64 (x.v.b : Int), .int .u64 (x.v.c : Int), .slice x.A x.v.pre.length x.c, .slice x.B x.v.build.length x.d, .slice x.L x.n x.e] 28)) w.heap.size x) := RAt.new w _ x
  have HL := Lib.hid (hx.keep (KeepS.of_below (S := LtB B) HB.out))
  have HG : Hid (goodR r d = (decide (d ≤ 64) && fits x.kind x.v x.n && goodL x.kind r.subs d)) := by
   have e1 := hs.kind
   have e2 := hs.ver
   rw [← e1, ← e2, ← hln]
   obtain ⟨k, v, l⟩ := r
   exact goodR_eq k v l d
  rw [wt_eq] at hm
  have hxn : x.n ≤ 9223372036854775807 := by rw [← hln]; exact hM.here
  have HLO := Lib.hid hM
  have HLN := Lib.hid hln
  clear hs hx hln hM
  unfold RV.agg
  generalize hR : goodR r d = R
  replace HG : Hid (R = (decide (d ≤ 64) && fits x.kind x.v x.n && goodL x.kind r.subs d)) := hR.symm.trans HG.out
  clear hR
  go_enter Tryz.func42, Tryz.ntmps42
  go_upto_region 1 with (fail)
  generalize w.alloc (.cells #[.int .i64 x.kind, .int .u64 (x.v.a : Int), .int .u64 (x.v.b : Int), .int .u64 (x.v.c : Int), .slice x.A x.v.pre.length x.c, .slice x.B x.v.build.length x.d, .slice x.L x.n x.e] 28) = W at HB HRA HL ⊢
  obtain ⟨y1, y2, c0, c1, c2, c3, c4, c5, c6⟩ := HRA.out
  by_cases hd : ¬ d ≤ 64
  ·have hd64 : (64 : Int) < (d : Int) := by omega
   obtain rfl : R = false := by rw [HG.out, decide_eq_false hd, Bool.false_and, Bool.false_and]
   clear hd HG
   go_wp2; go_ret
   exact ⟨rfl, HB.out⟩
  replace hd := Classical.not_not.1 hd
  have hd64 : ¬ (64 : Int) < (d : Int) := by omega
  replace HG : Hid (R = (fits x.kind x.v x.n && goodL x.kind r.subs d)) := by unfold Hid; rw [HG.out, decide_eq_true hd, Bool.true_and]
  go_wp2_with fail
  refine (HFits.out W HB.out).mono ?_
  rintro e W2 ⟨rfl, hb⟩
  have HB2 := Lib.hid (HB.out.trans (hb.mono HB.out.size))
  have HRA2 := Lib.hid (HRA.out.kept hb HRA.out.1)
  have HL2 := Lib.hid (HL.out.keep (KeepS.of_below (S := LtB B) hb))
  have hB2 : B ≤ W2.heap.size := Nat.le_trans hB HB2.out.size
  clear hb y1 y2 c0 c1 c2 c3 c4 c5 c6 HB HRA HL HFits
  obtain ⟨y1, y2, c0, c1, c2, c3, c4, c5, c6⟩ := HRA2.out
  cases hfi : fits x.kind x.v x.n
  ·obtain rfl : R = false := by rw [HG.out, hfi]; rfl
   clear HG hfi
   go_wp2; go_ret
   exact ⟨rfl, HB2.out⟩
  replace HG : Hid (R = goodL x.kind r.subs d) := by unfold Hid; rw [HG.out, hfi, Bool.true_and]
  clear hfi
  go_wp2
  go_loopw [4, 6, 17] (fun rv _ iv W' => rv = .bool false ∧ ∃ k : Nat, k ≤ x.n ∧ iv = .int .i64 (k : Int) ∧ Hid (Below W2.heap.size W2 W') ∧ Hid (∀ j, j < k → goodR (r.subs.getD j noRng) (d + opens x.kind (r.subs.getD j noRng).kind) = true)) (fun _ _ iv _ => x.n - (intOf iv).toNat)
  case atStart => exact ⟨rfl, 0, Nat.zero_le _, rfl, Below.refl _ _, fun j hj => absurd hj (Nat.not_lt_zero j)⟩
  case round =>
   obtain ⟨rfl, k, hk, rfl, HB3, HQ⟩ := hrel
   by_cases hlt : k < x.n
   ·obtain ⟨b, o, c, hLe, hSb, hcl, hcy⟩ := HL2.out.says.subs.one hlt
    have hll : k < r.subs.length := by rw [HLN.out]; exact hlt
    have hmem : r.subs.getD k noRng ∈ r.subs := by
     rw [List.getD_eq_getElem?_getD, List.getElem?_eq_getElem (by omega)]; exact List.getElem_mem _
    have hwt : wt (r.subs.getD k noRng) ≤ m := by have := wt_mem hmem; omega
    have ho2 := opens_two x.kind c.kind
    have hoi : IntKind.i64.wrap ((d : Int) + (opens x.kind c.kind : Int)) = ((d + opens x.kind c.kind : Nat) : Int) := by rw [IntKind.wrap_i64] <;> omega
    have hqe : goodR (r.subs.getD k noRng) (d + opens x.kind c.kind) = goodR (r.subs.getD k noRng) (d + opens x.kind (r.subs.getD k noRng).kind) := by rw [hcy.says.kind]
    have hlo := HLO.out.sub hmem
    obtain ⟨q, hq⟩ : ∃ q, q = r.subs.getD k noRng := ⟨_, rfl⟩
    rw [← hq] at hcy hwt hlo
    have hqe : goodR q (d + opens x.kind c.kind) = goodR (r.subs.getD k noRng) (d + opens x.kind (r.subs.getD k noRng).kind) := by rw [hq]; exact hqe
    clear hq
    have hcw := (hcl.keep (KeepS.of_below (S := LtB B) HB3.out) hSb).cells
    obtain ⟨e0, e1, e2, e3, e4, e5, e6⟩ := hcw
    have HBA : Hid (Below W2.heap.size W2 ((wr.alloc (.cells #[.int .i64 c.kind, .int .u64 (c.v.a : Int), .int .u64 (c.v.b : Int), .int .u64 (c.v.c : Int), .slice c.A c.v.pre.length c.c, .slice c.B c.v.build.length c.d, .slice c.L c.n c.e] 28)).drew)) := (HB3.out.alloc HB3.out.size _).drew
    have HXd : Hid (RAt ((wr.alloc (.cells #[.int .i64 c.kind, .int .u64 (c.v.a : Int), .int .u64 (c.v.b : Int), .int .u64 (c.v.c : Int), .slice c.A c.v.pre.length c.c, .slice c.B c.v.build.length c.d, .slice c.L c.n c.e] 28)).drew) w.heap.size x) := HRA2.out.kept HBA.out HRA2.out.1
    have HCd : Hid (RAt ((wr.alloc (.cells #[.int .i64 c.kind, .int .u64 (c.v.a : Int), .int .u64 (c.v.b : Int), .int .u64 (c.v.c : Int), .slice c.A c.v.pre.length c.c, .slice c.B c.v.build.length c.d, .slice c.L c.n c.e] 28)).drew) wr.heap.size c) := by have h := RAt.new wr 28 c; exact h
    have HLc : Hid (Lies ((wr.alloc (.cells #[.int .i64 c.kind, .int .u64 (c.v.a : Int), .int .u64 (c.v.b : Int), .int .u64 (c.v.c : Int), .slice c.A c.v.pre.length c.c, .slice c.B c.v.build.length c.d, .slice c.L c.n c.e] 28)).drew) (LtB B) q c) := hcy.keep (KeepS.of_below (S := LtB B) HBA.out)
    have hBA : B ≤ ((wr.alloc (.cells #[.int .i64 c.kind, .int .u64 (c.v.a : Int), .int .u64 (c.v.b : Int), .int .u64 (c.v.c : Int), .slice c.A c.v.pre.length c.c, .slice c.B c.v.build.length c.d, .slice c.L c.n c.e] 28)).drew).heap.size := Nat.le_trans hB2 HBA.out.size
    have HQE := Lib.hid hqe
    rw [hLe]
    clear hcl hcy hmem hqe
    go_upto_region 6 with (fail)
    clear e0 e1 e2 e3 e4 e5 e6 c0 c1 c2 c3 c4 c5 c6
    have hqe := HQE.out
    refine wp_region_held_drew (S := fun w' => RAt w' w.heap.size x ∧ RAt w' wr.heap.size c) (by kernel_rfl) ⟨HXd.out, HCd.out⟩ (fun hHeld => ?_)
    refine tk 0 rfl (.agg #[.int .i64 c.kind, .int .u64 (c.v.a : Int), .int .u64 (c.v.b : Int), .int .u64 (c.v.c : Int), .slice c.A c.v.pre.length c.c, .slice c.B c.v.build.length c.d, .slice c.L c.n c.e]) ?_ fun w' hS' => by obtain ⟨y1, y2, c0, c1, c2, c3, c4, c5, c6⟩ := hS'.2; go_simp
    refine tk 1 rfl (.int .i64 (d : Int)) ?_
    refine tk 2 rfl (.pointer (some ⟨w.heap.size, 0, none⟩)) ?_
    refine tk 3 rfl (.int .i64 x.kind) ?_ fun w' hS' => by obtain ⟨y1, y2, c0, c1, c2, c3, c4, c5, c6⟩ := hS'.1; go_simp
    refine tk 4 rfl (.pointer (some ⟨wr.heap.size, 0, none⟩)) ?_
    refine tk 5 rfl (.int .i64 c.kind) ?_ fun w' hS' => by obtain ⟨y1, y2, c0, c1, c2, c3, c4, c5, c6⟩ := hS'.2; go_simp
    refine cl 6 rfl fun K hK => ?_
    go_simp
    refine (opens_any x.kind c.kind _).mono ?_
    rintro e wg1 ⟨rfl, rfl⟩
    have hb := True.intro
    clear hb hHeld
    refine hK.out _ _ ⟨HXd.out, HCd.out⟩ (fun hHeld => ?_)
    clear hK K
    try simp only [Act.put, p1, p2, p3]
    refine tk 7 rfl (.int .i64 ((d + opens x.kind c.kind : Nat) : Int)) ?_
    refine cl 8 rfl fun K hK => ?_
    go_simp
    refine (IH.out q c (d + opens x.kind c.kind) _ hwt hlo HLc.out hBA (by omega)).mono ?_
    rintro e wg2 ⟨rfl, hb⟩
    have hbk := hb
    have HB5 := Lib.hid (HBA.out.trans (hb.mono HBA.out.size))
    clear hb hHeld
    refine hK.out _ _ ⟨HXd.out.kept hbk HXd.out.1, HCd.out.kept hbk HCd.out.1⟩ (fun hHeld => ?_)
    clear hK K
    try simp only [Act.put, p1, p2, p3]
    refine tk 9 rfl (.bool (!goodR q (d + opens x.kind c.kind))) ?_
    refine wpAnyH_done (by kernel_rfl) ?_ _
    cases hqb : goodR q (d + opens x.kind c.kind)
    ·obtain rfl : R = false := HG.out.trans (goodL_no (by omega) (hqe.symm.trans hqb))
     clear HQ HG
     go_wp2
     go_ret
     exact ⟨rfl, HB2.out.trans (HB5.out.mono HB2.out.size)⟩
    ·go_wp2
     exact ⟨⟨rfl, k + 1, by omega, by go_num, HB5.out, fun j hj => by
      by_cases hjk : j = k
      ·subst hjk; exact hqe.symm.trans hqb
      ·exact HQ.out j (by omega)⟩, by simp [intOf]; omega⟩

   ·obtain rfl : k = x.n := by omega
    clear c0 c1 c2 c3 c4 c5 c6
    have HA := Lib.hid (goodL_at.2 fun j hj => HQ.out j (by rw [← HLN.out]; exact hj))
    obtain rfl : R = true := HG.out.trans HA.out
    clear HG
    go_wp2
    go_ret
    exact ⟨rfl, HB2.out.trans (HB3.out.mono HB2.out.size)⟩
theorem goodIs_any (r : Rng) (x : RV) (B : Nat) (w : World) (hm : LenOk r) (hx : Lies w (LtB B) r x) (hB : B ≤ w.heap.size) :
  Calls Tryz.prog 21 #[x.agg] w fun e w' => e = .returned (.bool (goodR r 0)) ∧ Below w.heap.size w w' := by
 have HB : Hid (Below w.heap.size w (w.alloc (.cells #[.int .i64 x.kind, .int .u64 (x.v.a : Int), .int .u64 (x.v.b : Int), .int .u64 (x.v.c : Int), .slice x.A x.v.pre.length x.c, .slice x.B x.v.build.length x.d, .slice x.L x.n x.e] 28))) := (Below.refl _ _).alloc (Nat.le_refl _) _
 have HRA : Hid (RAt (w.alloc (.cells #[.int .i64 x.kind, .int .u64 (x.v.a : Int), .int .u64 (x.v.b : Int), .int .u64 (x.v.c : Int), .slice x.A x.v.pre.length x.c, .slice x.B x.v.build.length x.d, .slice x.L x.n x.e] 28)) w.heap.size x) := RAt.new w _ x
 have HL := Lib.hid (hx.keep (KeepS.of_below (S := LtB B) HB.out))
 have HG := Lib.hid (fun W h1 h2 => good_full (wt r) r x B 0 W (Nat.le_refl _) hm h1 h2 (by omega))
 have hB2 : B ≤ (w.alloc (.cells #[.int .i64 x.kind, .int .u64 (x.v.a : Int), .int .u64 (x.v.b : Int), .int .u64 (x.v.c : Int), .slice x.A x.v.pre.length x.c, .slice x.B x.v.build.length x.d, .slice x.L x.n x.e] 28)).heap.size := Nat.le_trans hB HB.out.size
 clear hx
 unfold RV.agg
 go_enter Tryz.func21, Tryz.ntmps21
 go_upto_region 1 with (fail)
 generalize w.alloc (.cells #[.int .i64 x.kind, .int .u64 (x.v.a : Int), .int .u64 (x.v.b : Int), .int .u64 (x.v.c : Int), .slice x.A x.v.pre.length x.c, .slice x.B x.v.build.length x.d, .slice x.L x.n x.e] 28) = W at HB HRA HL hB2 ⊢
 obtain ⟨y1, y2, c0, c1, c2, c3, c4, c5, c6⟩ := HRA.out
 go_wp2_with fail
 refine (HG.out W HL.out hB2).mono ?_
 rintro e W2 ⟨rfl, hb⟩
 have HB2 := Lib.hid (HB.out.trans (hb.mono HB.out.size))
 clear hb
 go_wp2
 go_ret
 exact ⟨rfl, HB2.out⟩
end Go.Proofs.YtgfbflnhjpbceaaGreatDoor.Range
