/-
  What the theorem of the last text needs of these: Tk, NumMath, NumMem, NumDigits, NumOrder, NumIs, IdMath. Conditions: as each theorem states.
-/
import Derived.Deep.QuietTactic
import Derived.Deep.RegionHeld3
import Derived.OrdersHeld
import Derived.ProofKit
import Derived.Test.YtgfbflnhjpbceaaGreatDoorProg
import Derived.WalkKit
import Derived.Test.YtgfbflnhjpbceaaGreatDoorChecked
import Derived.WalkMore
import Derived.ScopeJumps
import Derived.Outline
import Derived.IntWalk
import Derived.Lib.Hide
import Derived.WalkLawsBesides
import Derived.Lib.SlBytesConst
import Derived.Lib.Strings
import Derived.Maps.AppendAt
import Derived.OwnWalk
import Derived.Laws.AppendOwnNone
import Derived.Lib.ConvBytes
import Derived.Lib.Bytealg
import Derived.WalkSpells
import Derived.Lib.TrimByte
set_option maxRecDepth 100000
set_option maxHeartbeats 25600000
namespace Go.Proofs.YtgfbflnhjpbceaaGreatDoor
open Go.RowKit
/-- The i-th of some operations. -/
def nth : List Oper → Nat → Option Oper
  | [], _ => none
  | o :: _, 0 => some o
  | _ :: l, i + 1 => nth l i
theorem nth_get : ∀ (l : List Oper) (i : Nat), nth l i = l[i]?
  | [], _ => by simp [nth]
  | o :: l, 0 => by simp [nth]
  | o :: l, i + 1 => by simp [nth, nth_get l i]
theorem nth_ops {ops : Array Oper} {i : Nat} {o : Oper} (h : nth ops.toList i = some o) : ops[i]? = some o := by
  rw [nth_get, Array.getElem?_toList] at h; exact h
theorem p1 {α : Type} (l : List α) (i : Nat) (x : α) : l.toArray.setIfInBounds i x = (l.set i x).toArray := by simp
theorem p2 {α : Type} (y : α) (l : List α) (x : α) : (y :: l).set 0 x = x :: l := List.set_cons_zero
theorem p3 {α : Type} (y : α) (l : List α) (i : Nat) (x : α) : (y :: l).set (i + 1) x = y :: l.set i x := List.set_cons_succ
section
variable {P : Program} {ops : Array Oper} {Q : Exit → Act → World → Prop} {S : World → Prop} {md : Region.Mode} {fuel : Nat} {listed : Array Bool} {a a' : Act} {w : World} {oi : Oper}
/-- Take number i first. -/
theorem tk (i : Nat) (hi : nth ops.toList i = some oi) (v : Value) (h : wpAnyH P md ops Q S fuel (listed.setIfInBounds i true) a' w)
    (hv : ∀ w', S w' → (execOp a.eval oi).run P w' = .ok (.value v) w' := by intro w' hS'; go_simp)
    (hw : Region.wanted oi (yielded ops a.tmps) = true := by rfl)
    (ha : a.put oi.dst v = a' := by simp only [Act.put, p1, p2, p3]; exact rfl)
    (hs : Region.noSelect ops = true := by kernel_rfl) (hf : Region.free md ops listed i = true := by kernel_rfl) (hr : (Region.ready md ops listed).contains i = true := by kernel_rfl)
    (hQ : ∀ c a w, Q (.panic c) (a.put oi.dst v) w → Q (.panic c) a w := by exact fun _ _ _ h => h) (hS : S w := by assumption) : wpAnyH P md ops Q S (fuel + 1) listed a w :=
  wpAnyH_take (nth_ops hi) hs hf hr hQ (.inl ⟨hw, hv⟩) hS (ha ▸ h)
/-- Number i isn't wanted. -/
theorem sk (i : Nat) (hi : nth ops.toList i = some oi) (h : wpAnyH P md ops Q S fuel (listed.setIfInBounds i true) a' w)
    (hw : Region.wanted oi (yielded ops a.tmps) = false := by rfl)
    (ha : a.put oi.dst undef = a' := by simp only [Act.put, p1, p2, p3]; exact rfl)
    (hs : Region.noSelect ops = true := by kernel_rfl) (hf : Region.free md ops listed i = true := by kernel_rfl) (hr : (Region.ready md ops listed).contains i = true := by kernel_rfl)
    (hQ : ∀ c a w, Q (.panic c) (a.put oi.dst undef) w → Q (.panic c) a w := by exact fun _ _ _ h => h) (hS : S w := by assumption) : wpAnyH P md ops Q S (fuel + 1) listed a w :=
  wpAnyH_take (nth_ops hi) hs hf hr hQ (.inr ⟨hw, rfl⟩) hS (ha ▸ h)
/-- Number i is carried out: it alone may come up. -/
theorem cl (i : Nat) (hi : nth ops.toList i = some oi)
    (h : ∀ K : Act → World → Prop, Shut (∀ a w, S w → (S w → wpAnyH P md ops Q S fuel (listed.setIfInBounds i true) a w) → K a w) → if Region.wanted oi (yielded ops a.tmps) = true then Oper.wp P oi a w K Q else K (a.put oi.dst undef) w)
    (hr : Region.ready md ops listed = [i] := by kernel_rfl) : wpAnyH P md ops Q S (fuel + 1) listed a w :=
  wpAnyH_ready hr (List.cons_ne_nil _ _) (AllReadyH.cons (nth_ops hi) h AllReadyH.nil)
end
end Go.Proofs.YtgfbflnhjpbceaaGreatDoor
namespace Go.Proofs.YtgfbflnhjpbceaaGreatDoor.Num

def isDig (b : UInt8) : Bool := decide (48 ≤ b.toNat ∧ b.toNat ≤ 57)
def run : List UInt8 → Nat
 | [] => 0
 | b :: r => if isDig b then run r + 1 else 0
def valFrom (v : Nat) (l : List UInt8) : Nat := l.foldl (fun v b => 10 * v + (b.toNat - 48)) v
theorem valFrom_nil (v : Nat) : valFrom v [] = v := rfl
theorem valFrom_cons (v : Nat) (b : UInt8) (r : List UInt8) : valFrom v (b :: r) = valFrom (10 * v + (b.toNat - 48)) r := by
 unfold valFrom; rw [List.foldl_cons]
def val (l : List UInt8) : Nat := valFrom 0 l
def maxField : Nat := 9223372036854775807

theorem isDig_iff (b : UInt8) : isDig b = true ↔ 48 ≤ b.toNat ∧ b.toNat ≤ 57 := by simp [isDig]

theorem run_le (l : List UInt8) : run l ≤ l.length := by
 induction l with
 | nil => simp [run]
 | cons b r ih => simp only [run, List.length_cons]; split <;> omega

theorem run_skip (l : List UInt8) (k : Nat) (hk : k ≤ l.length) (h : ∀ j, j < k → isDig (l.getD j 0) = true) : run l = k + run (l.drop k) := by
 induction k generalizing l with
 | zero => simp
 | succ k ih =>
  cases l with
  | nil => simp at hk
  | cons b r =>
   have h0 : isDig b = true := by simpa using h 0 (by omega)
   have := ih r (by simpa using hk) (fun j hj => by simpa using h (j + 1) (by omega))
   simp only [run, h0, if_true, List.drop_succ_cons]; omega

theorem run_stop (l : List UInt8) (k : Nat) (hk : k ≤ l.length) (h : ∀ j, j < k → isDig (l.getD j 0) = true) (he : k = l.length ∨ isDig (l.getD k 0) = false) : run l = k := by
 rw [run_skip l k hk h]
 rcases he with he | he
 ·subst he; simp [run]
 ·rcases Nat.lt_or_ge k l.length with hlt | hge
  ·have e : l.drop k = l.getD k 0 :: l.drop (k + 1) := by
    rw [List.drop_eq_getElem_cons hlt]; simp [List.getD, List.getElem?_eq_getElem hlt]
   rw [e, run, he]; simp
  ·rw [List.drop_eq_nil_of_le hge]; simp [run]

theorem run_dig (l : List UInt8) : ∀ j, j < run l → isDig (l.getD j 0) = true := by
 induction l with
 | nil => intro j hj; simp [run] at hj
 | cons b r ih =>
  intro j hj
  rw [run] at hj
  split at hj
  ·rename_i hb
   cases j with
   | zero => simpa using hb
   | succ j => simpa using ih j (by omega)
  ·omega

def AllDig (l : List UInt8) : Prop := ∀ b ∈ l, isDig b = true

theorem allDig_cons {b : UInt8} {r : List UInt8} : AllDig (b :: r) ↔ isDig b = true ∧ AllDig r := by simp [AllDig]
theorem allDig_take_run (l : List UInt8) : AllDig (l.take (run l)) := by
 induction l with
 | nil => simp [AllDig]
 | cons b r ih =>
  rw [run]
  split
  ·rename_i hb; rw [List.take_succ_cons]; exact allDig_cons.2 ⟨hb, ih⟩
  ·simp [AllDig]
theorem run_all {l : List UInt8} (h : AllDig l) : run l = l.length := by
 induction l with
 | nil => rfl
 | cons b r ih => rw [allDig_cons] at h; simp [run, h.1, ih h.2]
theorem all_of_run {l : List UInt8} (h : run l = l.length) : AllDig l := by
 have := allDig_take_run l; rwa [h, List.take_length] at this
theorem allDig_getD {l : List UInt8} (h : AllDig l) {j : Nat} (hj : j < l.length) : isDig (l.getD j 0) = true := by
 have e : l.getD j 0 = l[j] := by simp [List.getD, List.getElem?_eq_getElem hj]
 rw [e]; exact h _ (List.getElem_mem hj)

theorem valFrom_append (v : Nat) (l r : List UInt8) : valFrom v (l ++ r) = valFrom (valFrom v l) r := by
 simp [valFrom]
theorem val_snoc (l : List UInt8) (b : UInt8) : val (l ++ [b]) = 10 * val l + (b.toNat - 48) := by
 rw [val, valFrom_append]; rfl
theorem take_snoc (l : List UInt8) (k : Nat) (h : k < l.length) : l.take (k + 1) = l.take k ++ [l.getD k 0] := by
 rw [List.take_succ_eq_append_getElem h]; simp [List.getD, List.getElem?_eq_getElem h]
theorem le_valFrom (v : Nat) (l : List UInt8) : v ≤ valFrom v l := by
 induction l generalizing v with
 | nil => exact Nat.le_refl _
 | cons b r ih => rw [valFrom_cons]; exact Nat.le_trans (by omega) (ih _)
theorem val_take_le (l : List UInt8) (k : Nat) : val (l.take k) ≤ val l := by
 have e : val l = valFrom (val (l.take k)) (l.drop k) := by
  rw [val, val, ← valFrom_append, List.take_append_drop]
 rw [e]; exact le_valFrom _ _

theorem valFrom_eq (v : Nat) (l : List UInt8) : valFrom v l = v * 10 ^ l.length + val l := by
 induction l generalizing v with
 | nil => simp [valFrom_nil, val]
 | cons b r ih =>
  have e1 : val (b :: r) = (b.toNat - 48) * 10 ^ r.length + val r := by
   rw [val, valFrom_cons, ih]; simp
  rw [valFrom_cons]
  have e2 : 10 * v * 10 ^ r.length = v * (10 ^ r.length * 10) := by rw [Nat.mul_comm 10 v, Nat.mul_assoc, Nat.mul_comm 10]
  rw [ih, e1, List.length_cons, Nat.pow_succ, Nat.add_mul, e2]
  omega
theorem val_cons (b : UInt8) (r : List UInt8) : val (b :: r) = (b.toNat - 48) * 10 ^ r.length + val r := by
 rw [val, valFrom_cons, valFrom_eq]; simp
theorem val_lt {l : List UInt8} (h : AllDig l) : val l < 10 ^ l.length := by
 induction l with
 | nil => simp [val, valFrom_nil]
 | cons b r ih =>
  rw [allDig_cons, isDig_iff] at h
  have h2 := ih h.2
  rw [val_cons, List.length_cons, Nat.pow_succ]
  have h3 : b.toNat - 48 ≤ 9 := by omega
  have h4 : (b.toNat - 48) * 10 ^ r.length ≤ 9 * 10 ^ r.length := Nat.mul_le_mul_right _ h3
  omega
theorem le_val {b : UInt8} {r : List UInt8} (h : 49 ≤ b.toNat) : 10 ^ r.length ≤ val (b :: r) := by
 rw [val_cons]
 have h4 : 1 * 10 ^ r.length ≤ (b.toNat - 48) * 10 ^ r.length := Nat.mul_le_mul_right _ (by omega)
 omega

def pad (l : List UInt8) : Bool := decide (1 < l.length ∧ (l.getD 0 0).toNat = 48)
theorem pad_iff (l : List UInt8) : pad l = true ↔ 1 < l.length ∧ (l.getD 0 0).toNat = 48 := by simp [pad]
theorem pad_no (l : List UInt8) : pad l = false ↔ ¬ (1 < l.length ∧ (l.getD 0 0).toNat = 48) := by
 rw [← pad_iff]; cases pad l <;> simp

def parse (l : List UInt8) (p : Int) : Nat × Nat × Nat :=
 if p < 0 ∨ (l.length : Int) < p then (0, 0, 1)
 else
  let r := l.drop p.toNat
  let d := r.take (run r)
  if d.length = 0 then (0, 0, 2)
  else if pad d = true then (0, 0, 3)
  else if maxField < val d then (0, 0, 4)
  else (val d, d.length, 0)

theorem parse_place_at (a b : List UInt8) (p : Nat) (hp : p ≤ b.length) : parse (a ++ b) ((a.length + p : Nat) : Int) = parse b p := by
 have h3 : (a ++ b).drop (a.length + p) = b.drop p := by
  rw [List.drop_append, List.drop_eq_nil_of_le (by omega), show a.length + p - a.length = p by omega]; rfl
 have h1 : ¬ (((a.length + p : Nat) : Int) < 0 ∨ ((a ++ b).length : Int) < ((a.length + p : Nat) : Int)) := by simp only [List.length_append]; omega
 have h2 : ¬ ((p : Int) < 0 ∨ (b.length : Int) < (p : Int)) := by omega
 unfold parse
 rw [if_neg h1, if_neg h2, Int.toNat_natCast, Int.toNat_natCast, h3]
theorem parse_end (l : List UInt8) (p : Nat) (hp : p ≤ l.length) : p + (parse l p).2.1 ≤ l.length := by
 have h1 : ((l.drop p).take (run (l.drop p))).length ≤ l.length - p := by
  rw [List.length_take, List.length_drop]; omega
 unfold parse
 rw [if_neg (by omega), Int.toNat_natCast]
 simp only
 split
 ·simpa using hp
 ·split
  ·simpa using hp
  ·split
   ·simpa using hp
   ·simp only; omega
end Go.Proofs.YtgfbflnhjpbceaaGreatDoor.Num
namespace Go.Proofs.YtgfbflnhjpbceaaGreatDoor.Num
open Go.RowKit

def byteAt (l : List UInt8) (j : Nat) : Int := ((l.getD j 0).toNat : Int)
theorem byteAt_bd (l : List UInt8) (j : Nat) : 0 ≤ byteAt l j ∧ byteAt l j ≤ 255 := by
 have := (l.getD j 0).toNat_lt; unfold byteAt; omega
theorem isDig_at (l : List UInt8) (j : Nat) : isDig (l.getD j 0) = true ↔ 48 ≤ byteAt l j ∧ byteAt l j ≤ 57 := by
 rw [isDig_iff]; unfold byteAt; omega

def Row (w : World) (A : Option Addr) (n : Nat) (l : List UInt8) : Prop :=
 l.length = n ∧ n ≤ maxLen ∧ (0 < n → ∃ b o, A = some ⟨b, o, none⟩ ∧ b < w.heap.size ∧ ∀ j, j < n → w.cell? ⟨b, o + j, none⟩ = some (.int .u8 (byteAt l j)))

theorem wp_scope_back {P : Program} {a : Act} {w : World} {Q : Exit → Act → World → Prop} {c rest : Code} (l : Nat) (J : Act → World → Prop) (μ : Act → World → Nat) (hf : findLabel c l = some (Code.skip.seq rest))
  (pass : ∀ a w, J a w → rest.wp P (Exit.jump l (fun a' w' => J a' w' ∧ μ a' w' < μ a w) Q) a w)
  (first : Hid (∀ a w, J a w → rest.wp P (Exit.jump l J Q) a w) → c.wp P (Exit.jump l J Q) a w) : (Code.scope c).wp P Q a w :=
 wp_scope_jumps l J μ hf (first fun a w h => wp_mono (pass a w h) (fun e _ _ hq => by cases e <;> first | exact hq | exact ⟨hq.1, hq.2.1⟩)) (fun a w h => wp_seq (wp_skip (pass a w h)))

theorem ret_int {k : IntKind} {a b : Int} (h : a = b) : Ending.returned (.int k a) = .returned (.int k b) := by rw [h]

theorem Row.piece {w : World} {A A' : Option Addr} {n : Nat} {l : List UInt8} (h : Row w A n l) (p m : Nat) (hp : p + m ≤ n)
  (hA : 0 < m → ∀ b o, A = some ⟨b, o, none⟩ → A' = some ⟨b, o + p, none⟩) : Row w A' m ((l.drop p).take m) := by
 obtain ⟨hl, hm, hc⟩ := h
 refine ⟨by rw [List.length_take, List.length_drop]; omega, by omega, fun h0 => ?_⟩
 obtain ⟨b, o, e, hb, hcell⟩ := hc (by omega)
 refine ⟨b, o + p, hA h0 b o e, hb, fun j hj => ?_⟩
 have e1 : byteAt ((l.drop p).take m) j = byteAt l (p + j) := by
  unfold byteAt; simp [List.getD, hj]
 rw [e1, Nat.add_assoc]; exact hcell (p + j) (by omega)

theorem map_add (p : Nat) (A : Option Addr) (b o : Nat) (e : A = some ⟨b, o, none⟩) : A.map (fun x => x.add p) = some ⟨b, o + p, none⟩ := by
 subst e
 by_cases h : p = 0
 ·subst h; simp [Addr.add]
 ·simp [Addr.add, h]


theorem size_alloc (w : World) (o : Obj) : (w.alloc o).heap.size = w.heap.size + 1 := by simp



def cells (l : List UInt8) : List Value := l.map fun b => Value.int .u8 (b.toNat : Int)
theorem cells_length (l : List UInt8) : (cells l).length = l.length := by simp [cells]
theorem cells_at (l : List UInt8) (j : Nat) (hj : j < l.length) : (cells l)[j]? = some (.int .u8 (byteAt l j)) := by
 unfold byteAt; simp [cells, List.getElem?_eq_getElem hj]

theorem add_none (b o j : Nat) : (⟨b, o, none⟩ : Addr).add j = ⟨b, o + j, none⟩ := by
 by_cases h : j = 0
 ·subst h; simp [Addr.add]
 ·simp [Addr.add, h]

theorem Row.news {w : World} {ad : Addr} {n : Nat} {l : List UInt8} (h : Row w (some ad) n l) : ∀ j u, (cells l)[j]? = some u → w.cell? (ad.add j) = some u := by
 intro j u hu
 have hj : j < l.length := by
  have := (List.getElem?_eq_some_iff.1 hu).1
  rwa [cells_length] at this
 obtain ⟨b, o, e, _, hc⟩ := h.2.2 (by have := h.1; omega)
 injection e with e
 subst e
 rw [cells_at l j hj] at hu
 injection hu with hu
 rw [add_none, hc j (by rw [← h.1]; exact hj), hu]

theorem Row.nil {w : World} {n : Nat} {l : List UInt8} (h : Row w none n l) : n = 0 ∧ l = [] := by
 rcases Nat.eq_zero_or_pos n with h0 | h0
 ·exact ⟨h0, List.eq_nil_of_length_eq_zero (by rw [h.1]; exact h0)⟩
 ·obtain ⟨b, o, e, _⟩ := h.2.2 h0
  cases e


theorem Row.kept {w w' : World} {A : Option Addr} {n : Nat} {l : List UInt8} (h : Row w A n l) (hb : Below w.heap.size w w') : Row w' A n l := by
 refine ⟨h.1, h.2.1, fun h0 => ?_⟩
 obtain ⟨b, o, e, hlt, hc⟩ := h.2.2 h0
 exact ⟨b, o, e, Nat.lt_of_lt_of_le hlt hb.size, fun j hj => (hb.cell (p := ⟨b, o + j, none⟩) hlt).trans (hc j hj)⟩





structure BelowD (B : Nat) (w w' : World) : Prop extends Below B w w' where
 drawn : w.drawn ≤ w'.drawn
theorem BelowD.refl (B : Nat) (w : World) : BelowD B w w := ⟨Below.refl B w, Nat.le_refl _⟩
theorem BelowD.trans {B : Nat} {a b c : World} (h : BelowD B a b) (k : BelowD B b c) : BelowD B a c := ⟨h.toBelow.trans k.toBelow, Nat.le_trans h.drawn k.drawn⟩
theorem BelowD.mono {B B' : Nat} {w w' : World} (h : BelowD B w w') (hB : B' ≤ B) : BelowD B' w w' := ⟨h.toBelow.mono hB, h.drawn⟩
theorem BelowD.drew {B : Nat} {a w : World} (h : BelowD B a w) : BelowD B a w.drew := ⟨h.toBelow.drew, Nat.le_trans h.drawn (Nat.le_succ _)⟩
theorem BelowD.alloc {B : Nat} {a w : World} (h : BelowD B a w) (hB : B ≤ w.heap.size) (o : Obj) : BelowD B a (w.alloc o) := ⟨h.toBelow.alloc hB o, h.drawn⟩
theorem dropD {P : Program} {f : FuncId} {args : Array Value} {w : World} {B : Nat} {R : Ending → Prop} (h : Calls P f args w fun e w' => R e ∧ BelowD B w w') : Calls P f args w fun e w' => R e ∧ Below B w w' :=
 h.mono fun _ _ k => ⟨k.1, k.2.toBelow⟩
theorem at_text (t : ByteArray) (k : Nat) (h : k < t.size) : (t[k].toNat : Int) = byteAt t.data.toList k := by
 have h2 : k < t.data.toList.length := by rw [← Lib.size_eq]; exact h
 unfold byteAt
 rw [List.getD, List.getElem?_eq_getElem h2]
 rfl
end Go.Proofs.YtgfbflnhjpbceaaGreatDoor.Num
namespace Go.Proofs.YtgfbflnhjpbceaaGreatDoor.Num
open Go.RowKit
def DigJ (w : World) (A : Option Addr) (n c : Nat) (l : List UInt8) (a' : Act) (w' : World) : Prop :=
 w = w' ∧ ∃ (k : Nat) (u4 u5 u6 u7 u8 u9 u10 u11 u12 u13 u14 u15 u16 u17 u18 u19 u20 u21 u22 u23 u24 : Value), k ≤ n ∧ (∀ j, j < k → isDig (l.getD j 0) = true) ∧ a' = { tmps := #[.slice A n c, undef, .int .i64 0, .int .i64 k, u4, u5, u6, u7, u8, u9, u10, u11, u12, u13, u14, u15, u16, u17, u18, u19, u20, u21, u22, u23, u24], defers := [] }
def DigM (n : Nat) (a' : Act) (_ : World) : Nat := n - (intOf (a'.tmps.getD 3 undef)).toNat

theorem digits_any (A : Option Addr) (n c : Nat) (l : List UInt8) (w : World) (h : Row w A n l) :
  Calls Tryz.prog 148 #[.slice A n c] w fun e w' => e = .returned (.int .i64 (run l)) ∧ w = w' := by
 obtain ⟨hl, hm, hc⟩ := h
 unfold maxLen at hm
 have HC := Lib.hid hc; clear hc
 have HL := Lib.hid hl; clear hl
 go_enter Tryz.func148, Tryz.ntmps148
 go_wp2
 refine wp_scope_back 0 (DigJ w A n c l) (DigM n) rfl ?_ ?_
 ·rintro a' w' ⟨rfl, k, u4, u5, u6, u7, u8, u9, u10, u11, u12, u13, u14, u15, u16, u17, u18, u19, u20, u21, u22, u23, u24, hk, hd, rfl⟩
  have HD := Lib.hid hd; clear hd
  by_cases hlt : k < n
  ·obtain ⟨b, o, rfl, hb, hcell⟩ := HC.out (by omega)
   have hx := hcell k hlt
   clear hcell HC
   have hbd := byteAt_bd l k
   have HI := Lib.hid (isDig_at l k)
   generalize byteAt l k = x at hx hbd HI
   have HS : Hid (¬ (48 ≤ x ∧ x ≤ 57) → run l = k) := fun hn => run_stop l k (by rw [HL.out]; omega) HD.out (.inr (by rw [← HI.out] at hn; simpa using hn))
   by_cases h1 : 48 ≤ x
   ·by_cases h2 : x ≤ 57
    ·go_wp2
     go_step3
     rw [show ((k : Int) + 1) = ((k + 1 : Nat) : Int) from rfl]
     refine ⟨rfl, ⟨rfl, k + 1, _, _, _, _, _, _, _, _, _, _, _, _, _, _, _, _, _, _, _, _, _, by omega, ?_, rfl⟩, ?_⟩
     ·intro j hj
      rcases Nat.lt_or_ge j k with hj1 | hj1
      ·exact HD.out j hj1
      ·obtain rfl : j = k := by omega
       exact HI.out.2 ⟨h1, h2⟩
     ·simp [DigM, intOf]; omega
    ·go_wp2
     simp only [Exit.jump]
     go_ret
     exact ⟨ret_int (by rw [HS.out (by omega)]), rfl⟩
   ·go_wp2
    simp only [Exit.jump]
    go_ret
    exact ⟨ret_int (by rw [HS.out (by omega)]), rfl⟩
  ·have HS : Hid (run l = k) := run_stop l k (by rw [HL.out]; omega) HD.out (.inl (by rw [HL.out]; omega))
   go_wp2
   simp only [Exit.jump]
   go_ret
   exact ⟨ret_int (by rw [HS.out]), rfl⟩
 ·intro HP
  go_wp2
  go_step3
  rename_i hK
  exact hK _ _ (HP.out _ _ ⟨rfl, 0, _, _, _, _, _, _, _, _, _, _, _, _, _, _, _, _, _, _, _, _, _, by omega, (fun j hj => by omega), rfl⟩)

theorem padded_any (A : Option Addr) (n c : Nat) (l : List UInt8) (w : World) (h : Row w A n l) :
  Calls Tryz.prog 149 #[.slice A n c] w fun e w' => e = .returned (.bool (pad l)) ∧ w = w' := by
 obtain ⟨hl, hm, hc⟩ := h
 unfold maxLen at hm
 by_cases hlt : 1 < n
 ·obtain ⟨b, o, rfl, hb, hcell⟩ := hc (by omega)
  have hx := hcell 0 (by omega)
  simp only [Nat.add_zero] at hx
  have HI : Hid (byteAt l 0 = 48 ↔ (l.getD 0 0).toNat = 48) := by unfold Hid byteAt; omega
  have HL := Lib.hid hl
  clear hcell hc hl
  generalize byteAt l 0 = x at hx HI
  by_cases h48 : x = 48
  ·have HF : Hid (pad l = true) := (pad_iff l).2 ⟨by rw [HL.out]; exact hlt, HI.out.1 h48⟩
   have hb1 : (x == 48) = true := by simp [h48]
   have H48 := Lib.hid h48; clear h48
   go_enter Tryz.func149, Tryz.ntmps149
   go_wp2
   go_ret
   exact ⟨by rw [HF.out]; rfl, rfl⟩
  ·have HF : Hid (pad l = false) := (pad_no l).2 fun hh => h48 (HI.out.2 hh.2)
   have hb1 : (x == 48) = false := by simp [h48]
   go_enter Tryz.func149, Tryz.ntmps149
   go_wp2
   go_ret
   exact ⟨by rw [HF.out]; rfl, rfl⟩
 ·have HF : Hid (pad l = false) := (pad_no l).2 fun hh => hlt (by rw [← hl]; exact hh.1)
  clear hc hl
  go_enter Tryz.func149, Tryz.ntmps149
  go_wp2
  go_ret
  exact ⟨by rw [HF.out]; rfl, rfl⟩

end Go.Proofs.YtgfbflnhjpbceaaGreatDoor.Num
namespace Go.Proofs.YtgfbflnhjpbceaaGreatDoor.Num

theorem less_val : ∀ (x y : List UInt8), AllDig x → AllDig y → x.length = y.length → (Op.bytesLess x y = true ↔ val x < val y) := by
 intro x
 induction x with
 | nil =>
  intro y _ _ h
  have : y = [] := List.eq_nil_of_length_eq_zero (by simpa using h.symm)
  subst this
  simp [Op.bytesLess]
 | cons a x ih =>
  intro y hx hy h
  cases y with
  | nil => simp at h
  | cons b y =>
   rw [allDig_cons] at hx hy
   have hl : x.length = y.length := by simpa using h
   have h1 := ih y hx.2 hy.2 hl
   have ha := (isDig_iff a).1 hx.1
   have hb := (isDig_iff b).1 hy.1
   have vx := val_lt hx.2
   have vy := val_lt hy.2
   rw [val_cons, val_cons, ← hl]
   rw [← hl] at vy
   unfold Op.bytesLess
   rw [Bool.or_eq_true, Bool.and_eq_true, h1, decide_eq_true_eq, beq_iff_eq, UInt8.lt_iff_toNat_lt]
   rcases Nat.lt_trichotomy a.toNat b.toNat with hab | hab | hab
   ·have h5 : (a.toNat - 48 + 1) * 10 ^ x.length ≤ (b.toNat - 48) * 10 ^ x.length := Nat.mul_le_mul_right _ (by omega)
    rw [Nat.add_mul] at h5
    exact ⟨fun _ => by omega, fun _ => .inl hab⟩
   ·have e : a = b := UInt8.toNat_inj.1 hab
    subst e
    exact ⟨fun hh => by rcases hh with hh | hh <;> omega, fun hh => .inr ⟨rfl, by omega⟩⟩
   ·have h5 : (b.toNat - 48 + 1) * 10 ^ x.length ≤ (a.toNat - 48) * 10 ^ x.length := Nat.mul_le_mul_right _ (by omega)
    rw [Nat.add_mul] at h5
    refine ⟨fun hh => ?_, fun hh => by omega⟩
    rcases hh with hh | ⟨rfl, _⟩ <;> omega

theorem val_inj : ∀ (x y : List UInt8), AllDig x → AllDig y → x.length = y.length → val x = val y → x = y := by
 intro x
 induction x with
 | nil => intro y _ _ h _; exact (List.eq_nil_of_length_eq_zero (by simpa using h.symm)).symm
 | cons a x ih =>
  intro y hx hy h hv
  cases y with
  | nil => simp at h
  | cons b y =>
   rw [allDig_cons] at hx hy
   have hl : x.length = y.length := by simpa using h
   have ha := (isDig_iff a).1 hx.1
   have hb := (isDig_iff b).1 hy.1
   have vx := val_lt hx.2
   have vy := val_lt hy.2
   rw [val_cons, val_cons, ← hl] at hv
   rw [← hl] at vy
   rcases Nat.lt_trichotomy a.toNat b.toNat with hab | hab | hab
   ·have h5 : (a.toNat - 48 + 1) * 10 ^ x.length ≤ (b.toNat - 48) * 10 ^ x.length := Nat.mul_le_mul_right _ (by omega)
    rw [Nat.add_mul] at h5; omega
   ·have e : a = b := UInt8.toNat_inj.1 hab
    subst e
    rw [ih y hx.2 hy.2 hl (by omega)]
   ·have h5 : (b.toNat - 48 + 1) * 10 ^ x.length ≤ (a.toNat - 48) * 10 ^ x.length := Nat.mul_le_mul_right _ (by omega)
    rw [Nat.add_mul] at h5; omega


end Go.Proofs.YtgfbflnhjpbceaaGreatDoor.Num
namespace Go.Proofs.YtgfbflnhjpbceaaGreatDoor.Num
open Go.RowKit

def isNum (l : List UInt8) : Bool := decide (0 < l.length ∧ run l = l.length ∧ pad l = false)
theorem isNum_iff (l : List UInt8) : isNum l = true ↔ 0 < l.length ∧ run l = l.length ∧ pad l = false := by simp [isNum]
theorem isNum_no (l : List UInt8) : isNum l = false ↔ ¬ (0 < l.length ∧ run l = l.length ∧ pad l = false) := by
 rw [← isNum_iff]; cases isNum l <;> simp

theorem run_bytesD (w : World) (s : ByteArray) (hs : s.size ≤ maxLen) : ∃ c W, s.size ≤ c ∧
  (convert 9 68 (.string s)).run Tryz.prog w = .ok (.slice (some ⟨w.heap.size, 0, none⟩) s.size c) W ∧ Row W (some ⟨w.heap.size, 0, none⟩) s.size s.data.toList ∧ BelowD w.heap.size w W := by
 refine ⟨_, _, grownCap_ge w s.size 0 5, Lib.run_convert_string_bytes (P := Tryz.prog) w 9 68 5 s Tryz.underlying9 Tryz.underlying68 Tryz.underlying5, ?_, ?_⟩
 ·refine ⟨(Lib.size_eq s).symm, hs, fun h0 => ⟨w.heap.size, 0, rfl, by rw [Lib.bytesWorld_size]; omega, fun j hj => ?_⟩⟩
  rw [Nat.zero_add, Lib.bytesWorld_cell w 5 s j hj]; rfl
 ·exact ⟨⟨by simp [Lib.bytesWorld, World.freeze]; rfl, by simp [Lib.bytesWorld, World.freeze], by simp [Lib.bytesWorld, World.freeze]; rfl, by rw [Lib.bytesWorld_size]; omega, fun k hk => Lib.bytesWorld_at_old w 5 s k hk⟩, by simp [Lib.bytesWorld, World.freeze]⟩

theorem run_bytes (w : World) (s : ByteArray) (hs : s.size ≤ maxLen) : ∃ c W, s.size ≤ c ∧
  (convert 9 68 (.string s)).run Tryz.prog w = .ok (.slice (some ⟨w.heap.size, 0, none⟩) s.size c) W ∧ Row W (some ⟨w.heap.size, 0, none⟩) s.size s.data.toList ∧ Below w.heap.size w W := by
 obtain ⟨c, W, h1, h2, h3, h4⟩ := run_bytesD w s hs
 exact ⟨c, W, h1, h2, h3, h4.toBelow⟩

theorem is_anyD (s : ByteArray) (w : World) (hs : s.size ≤ maxLen) :
  Calls Tryz.prog 127 #[.string s] w fun e w' => e = .returned (.bool (isNum s.data.toList)) ∧ BelowD w.heap.size w w' := by
 obtain ⟨c, W, hc, hcv, hr, hb⟩ := run_bytesD w s hs
 unfold maxLen at hs
 have HR := Lib.hid hr; clear hr
 have HB := Lib.hid hb; clear hb
 have HL := Lib.hid (Lib.size_eq s)
 by_cases h0 : 0 < s.size
 ·by_cases h1 : run s.data.toList = s.size
  ·have hb1 : ((run s.data.toList : Int) == (s.size : Int)) = true := by rw [h1]; simp
   have HF : Hid (isNum s.data.toList = !pad s.data.toList) := by
    unfold Hid
    rw [Bool.eq_iff_iff, isNum_iff, ← HL.out]; simp [h0, h1]
   have H1 := Lib.hid h1; clear h1
   go_enter Tryz.func127, Tryz.ntmps127
   go_wp2_with fail
   refine (digits_any _ _ _ _ _ HR.out).mono ?_
   rintro e w' ⟨rfl, rfl⟩
   go_wp2_with fail
   refine (padded_any _ _ _ _ _ HR.out).mono ?_
   rintro e w' ⟨rfl, rfl⟩
   go_wp2
   go_ret
   exact ⟨by rw [HF.out]; rfl, HB.out⟩
  ·have hb1 : ((run s.data.toList : Int) == (s.size : Int)) = false := by simp; omega
   have HF : Hid (isNum s.data.toList = false) := (isNum_no _).2 fun hh => h1 (by rw [HL.out]; exact hh.2.1)
   have H1 := Lib.hid h1; clear h1
   go_enter Tryz.func127, Tryz.ntmps127
   go_wp2_with fail
   refine (digits_any _ _ _ _ _ HR.out).mono ?_
   rintro e w' ⟨rfl, rfl⟩
   go_wp2
   go_ret
   exact ⟨by rw [HF.out]; rfl, HB.out⟩
 ·have HF : Hid (isNum s.data.toList = false) := (isNum_no _).2 fun hh => h0 (by rw [HL.out]; exact hh.1)
  go_enter Tryz.func127, Tryz.ntmps127
  go_wp2
  go_ret
  exact ⟨by rw [HF.out]; rfl, HB.out⟩

theorem is_any (s : ByteArray) (w : World) (hs : s.size ≤ maxLen) :
  Calls Tryz.prog 127 #[.string s] w fun e w' => e = .returned (.bool (isNum s.data.toList)) ∧ Below w.heap.size w w' := dropD (is_anyD s w hs)

def ordN (x y : Nat) : Int := if x < y then -1 else if y < x then 1 else 0
theorem ordN_lt {x y : Nat} (h : x < y) : ordN x y = -1 := by unfold ordN; rw [if_pos h]
theorem ordN_gt {x y : Nat} (h : y < x) : ordN x y = 1 := by unfold ordN; rw [if_neg (by omega), if_pos h]
theorem ordN_eq {x y : Nat} (h : x = y) : ordN x y = 0 := by unfold ordN; rw [if_neg (by omega), if_neg (by omega)]
theorem ordN_flip (x y : Nat) : ordN y x = 0 - ordN x y := by
 rcases Nat.lt_trichotomy x y with h | h | h
 ·rw [ordN_lt h, ordN_gt h]; rfl
 ·rw [ordN_eq h, ordN_eq h.symm]; rfl
 ·rw [ordN_gt h, ordN_lt h]; rfl

theorem compare_val : ∀ (x y : List UInt8), AllDig x → AllDig y → x.length = y.length → Lib.compareBytes x y = ordN (val x) (val y) := by
 intro x
 induction x with
 | nil =>
  intro y _ _ h
  have : y = [] := List.eq_nil_of_length_eq_zero (by simpa using h.symm)
  subst this
  rw [ordN_eq rfl]; simp [Lib.compareBytes]
 | cons a x ih =>
  intro y hx hy h
  cases y with
  | nil => simp at h
  | cons b y =>
   have hl : x.length = y.length := by simpa using h
   have h1 := less_val (a :: x) (b :: y) hx hy h
   have h2 := less_val (b :: y) (a :: x) hy hx h.symm
   rw [allDig_cons] at hx hy
   have h3 := ih y hx.2 hy.2 hl
   unfold Op.bytesLess at h1 h2
   rw [Bool.or_eq_true, decide_eq_true_eq] at h1 h2
   unfold Lib.compareBytes
   by_cases hab : a < b
   ·rw [if_pos hab, ordN_lt (h1.1 (.inl hab))]
   ·rw [if_neg hab]
    by_cases hba : b < a
    ·rw [if_pos hba, ordN_gt (h2.1 (.inl hba))]
    ·rw [if_neg hba, h3]
     have e : a = b := by
      rw [UInt8.lt_iff_toNat_lt] at hab hba
      exact UInt8.toNat_inj.1 (by omega)
     subst e
     rw [val_cons, val_cons, hl]
     rcases Nat.lt_trichotomy (val x) (val y) with hh | hh | hh
     ·rw [ordN_lt hh, ordN_lt (by omega)]
     ·rw [ordN_eq hh, ordN_eq (by omega)]
     ·rw [ordN_gt hh, ordN_gt (by omega)]

theorem shorter {x y : List UInt8} (hx : isNum x = true) (hy : isNum y = true) (h : x.length < y.length) : val x < val y := by
 rw [isNum_iff] at hx hy
 have ax := all_of_run hx.2.1
 have ay := all_of_run hy.2.1
 have vx := val_lt ax
 cases y with
 | nil => simp at h
 | cons b r =>
  have hp := (pad_no _).1 hy.2.2
  have hb := (isDig_iff b).1 (allDig_cons.1 ay).1
  have h48 : b.toNat ≠ 48 := fun e => hp ⟨by omega, by simpa using e⟩
  have h1 := le_val (b := b) (r := r) (by omega)
  have h2 : 10 ^ x.length ≤ 10 ^ r.length := Nat.pow_le_pow_right (by omega) (by simp at h; omega)
  omega

theorem alike_val {x y : List UInt8} (hx : isNum x = true) (hy : isNum y = true) (h : x.length = y.length) : Lib.compareBytes x y = ordN (val x) (val y) := by
 rw [isNum_iff] at hx hy
 exact compare_val x y (all_of_run hx.2.1) (all_of_run hy.2.1) h

def cmpNum (a b : List UInt8) : Int := if isNum a = true ∧ isNum b = true then ordN (val a) (val b) else 0
theorem cmpNum_yes {a b : List UInt8} (ha : isNum a = true) (hb : isNum b = true) : cmpNum a b = ordN (val a) (val b) := by unfold cmpNum; rw [if_pos ⟨ha, hb⟩]
theorem cmpNum_no {a b : List UInt8} (h : isNum a = false ∨ isNum b = false) : cmpNum a b = 0 := by
 unfold cmpNum; rw [if_neg]
 rintro ⟨ha, hb⟩
 rcases h with h | h
 ·rw [ha] at h; cases h
 ·rw [hb] at h; cases h

end Go.Proofs.YtgfbflnhjpbceaaGreatDoor.Num
namespace Go.Proofs.YtgfbflnhjpbceaaGreatDoor.Ident
open Num

def isLet (b : UInt8) : Bool := decide ((65 ≤ b.toNat ∧ b.toNat ≤ 90) ∨ (97 ≤ b.toNat ∧ b.toNat ≤ 122))
def isId (b : UInt8) : Bool := isDig b || isLet b || decide (b.toNat = 45)
def lead : List UInt8 → Nat
 | [] => 0
 | b :: r => if isId b then lead r + 1 else 0

theorem isLet_iff (b : UInt8) : isLet b = true ↔ (65 ≤ b.toNat ∧ b.toNat ≤ 90) ∨ (97 ≤ b.toNat ∧ b.toNat ≤ 122) := by simp [isLet]

theorem lead_le (l : List UInt8) : lead l ≤ l.length := by
 induction l with
 | nil => simp [lead]
 | cons b r ih => simp only [lead, List.length_cons]; split <;> omega

theorem lead_skip (l : List UInt8) (k : Nat) (hk : k ≤ l.length) (h : ∀ j, j < k → isId (l.getD j 0) = true) : lead l = k + lead (l.drop k) := by
 induction k generalizing l with
 | zero => simp
 | succ k ih =>
  cases l with
  | nil => simp at hk
  | cons b r =>
   have h0 : isId b = true := by simpa using h 0 (by omega)
   have := ih r (by simpa using hk) (fun j hj => by simpa using h (j + 1) (by omega))
   simp only [lead, h0, if_true, List.drop_succ_cons]; omega

theorem drop_getD (l : List UInt8) (k : Nat) (h : k < l.length) : l.drop k = l.getD k 0 :: l.drop (k + 1) := by
 rw [List.drop_eq_getElem_cons h]; simp [List.getD, List.getElem?_eq_getElem h]

theorem lead_stop (l : List UInt8) (k : Nat) (hk : k ≤ l.length) (h : ∀ j, j < k → isId (l.getD j 0) = true) (he : k = l.length ∨ isId (l.getD k 0) = false) : lead l = k := by
 rw [lead_skip l k hk h]
 rcases he with he | he
 ·subst he; simp [lead]
 ·rcases Nat.lt_or_ge k l.length with hlt | hge
  ·rw [drop_getD l k hlt, lead, he]; simp
  ·rw [List.drop_eq_nil_of_le hge]; simp [lead]

theorem lead_full {l : List UInt8} : lead l = l.length ↔ ∀ b ∈ l, isId b = true := by
 induction l with
 | nil => simp [lead]
 | cons b r ih =>
  rw [lead]
  by_cases hb : isId b = true
  ·simp [hb, ← ih]
  ·have := lead_le r
   simp [hb]

def numeric (l : List UInt8) : Bool := decide (0 < l.length ∧ run l = l.length)
theorem numeric_iff (l : List UInt8) : numeric l = true ↔ 0 < l.length ∧ run l = l.length := by simp [numeric]
theorem numeric_no (l : List UInt8) : numeric l = false ↔ ¬ (0 < l.length ∧ run l = l.length) := by
 rw [← numeric_iff]; cases numeric l <;> simp

def fault (s : List UInt8) (i : Nat) (pre : Bool) : Nat :=
 if s.length = 0 then 5 else if 255 < s.length ∨ 16 ≤ i then 4 else if pre = true ∧ numeric s = true ∧ isNum s = false then 3 else 0
theorem fault_pos {s : List UInt8} {i : Nat} {pre : Bool} (h : fault s i pre = 0) : 0 < s.length ∧ s.length ≤ 255 ∧ i < 16 := by
 unfold fault at h
 split at h
 ·omega
 ·split at h
  ·omega
  ·rename_i h1 h2; omega

abbrev Res := Nat × Nat × List (List UInt8)
def shut (pre : Bool) (w : List UInt8) (acc : List (List UInt8)) (n : Nat) : Res :=
 if fault w acc.length pre = 0 then (0, n, acc ++ [w]) else (fault w acc.length pre, 0, [])
def go (pre : Bool) : List UInt8 → List UInt8 → List (List UInt8) → Nat → Res
 | [], w, acc, n => shut pre w acc n
 | b :: r, w, acc, n =>
  if isId b then go pre r (w ++ [b]) acc (n + 1)
  else if b.toNat = 46 then (if fault w acc.length pre = 0 then go pre r [] (acc ++ [w]) (n + 1) else (fault w acc.length pre, 0, []))
  else shut pre w acc n
def row (l : List UInt8) (p : Int) (pre : Bool) : Res := if p < 0 ∨ (l.length : Int) < p then (1, 0, []) else go pre (l.drop p.toNat) [] [] 0

theorem point_no : isId 46 = false := by decide
theorem go_id {pre : Bool} {b : UInt8} {r w : List UInt8} {acc : List (List UInt8)} {n : Nat} (h : isId b = true) : go pre (b :: r) w acc n = go pre r (w ++ [b]) acc (n + 1) := by
 rw [go, if_pos h]
theorem go_bad {pre : Bool} {b : UInt8} {r w : List UInt8} {acc : List (List UInt8)} {n : Nat} (h : isId b = false) (hf : fault w acc.length pre ≠ 0) : go pre (b :: r) w acc n = (fault w acc.length pre, 0, []) := by
 rw [go, h]
 unfold shut
 simp [hf]
theorem go_point {pre : Bool} {b : UInt8} {r w : List UInt8} {acc : List (List UInt8)} {n : Nat} (hb : b.toNat = 46) (hf : fault w acc.length pre = 0) : go pre (b :: r) w acc n = go pre r [] (acc ++ [w]) (n + 1) := by
 have e : b = 46 := UInt8.toNat_inj.1 hb
 subst e
 rw [go, point_no]
 simp [hf]
theorem go_else {pre : Bool} {b : UInt8} {r w : List UInt8} {acc : List (List UInt8)} {n : Nat} (h : isId b = false) (hb : b.toNat ≠ 46) : go pre (b :: r) w acc n = shut pre w acc n := by
 rw [go, h]; simp [hb]
theorem go_lead (pre : Bool) (l w : List UInt8) (acc : List (List UInt8)) (n : Nat) : go pre l w acc n = go pre (l.drop (lead l)) (w ++ l.take (lead l)) acc (n + lead l) := by
 induction l generalizing w n with
 | nil => simp [lead]
 | cons b r ih =>
  by_cases hb : isId b = true
  ·rw [go_id hb, ih, lead, if_pos hb, List.drop_succ_cons, List.take_succ_cons, List.append_assoc, List.singleton_append]
   congr 1
   omega
  ·rw [lead, if_neg hb]; simp
theorem go_stop (pre : Bool) (l : List UInt8) (acc : List (List UInt8)) (n : Nat) (hf : fault (l.take (lead l)) acc.length pre ≠ 0) : go pre l [] acc n = (fault (l.take (lead l)) acc.length pre, 0, []) := by
 rw [go_lead, List.nil_append]
 rcases Nat.lt_or_ge (lead l) l.length with h | h
 ·rw [drop_getD l _ h]
  refine go_bad ?_ hf
  have h1 := lead_skip l (lead l) (Nat.le_of_lt h) (fun j hj => ?_)
  ·rw [drop_getD l _ h, lead] at h1
   split at h1
   ·omega
   ·rename_i h2; simpa using h2
  ·have : ∀ (l : List UInt8) j, j < lead l → isId (l.getD j 0) = true := by
    intro l
    induction l with
    | nil => intro j hj; simp [lead] at hj
    | cons b r ih =>
     intro j hj
     rw [lead] at hj
     split at hj
     ·rename_i hb
      cases j with
      | zero => simpa using hb
      | succ j => simpa using ih j (by omega)
     ·omega
   exact this l j hj
 ·rw [List.drop_eq_nil_of_le h, go, shut, if_neg hf]

def numeral (l : List UInt8) : List UInt8 := if (Lib.trimLeftB l 48).length = 0 then [48] else Lib.trimLeftB l 48

theorem trim_val (l : List UInt8) : val (Lib.trimLeftB l 48) = val l := by
 unfold Lib.trimLeftB
 induction l with
 | nil => rfl
 | cons b r ih =>
  rw [List.dropWhile_cons]
  split
  ·rename_i hb
   have e : b = 48 := by simpa using hb
   rw [ih, val_cons, e]; simp
  ·rfl
theorem trim_dig {l : List UInt8} (h : AllDig l) : AllDig (Lib.trimLeftB l 48) := by
 intro b hb
 exact h b ((List.dropWhile_sublist _).subset hb)
theorem trim_pad (l : List UInt8) : pad (Lib.trimLeftB l 48) = false := by
 rw [pad_no]
 rintro ⟨h1, h2⟩
 unfold Lib.trimLeftB at h1 h2
 induction l with
 | nil => simp at h1
 | cons b r ih =>
  rw [List.dropWhile_cons] at h1 h2
  split at h1
  ·rename_i hb
   rw [if_pos hb] at h2
   exact ih h1 h2
  ·rename_i hb
   rw [if_neg hb] at h2
   have : b.toNat = (48 : UInt8).toNat := by simpa using h2
   exact hb (by simp [UInt8.toNat_inj.1 this])
theorem numeral_num {l : List UInt8} (h : AllDig l) : isNum (numeral l) = true := by
 unfold numeral
 split
 ·decide
 ·rename_i h0
  rw [isNum_iff]
  exact ⟨by omega, run_all (trim_dig h), trim_pad l⟩
theorem numeral_val (l : List UInt8) : val (numeral l) = val l := by
 unfold numeral
 split
 ·rename_i h0
  have e := List.eq_nil_of_length_eq_zero h0
  have := trim_val l
  rw [e] at this
  rw [← this]; decide
 ·exact trim_val l

def cmpId (a b : List UInt8) : Int :=
 if numeric a = true then
  if numeric b = true then (if ordN (val a) (val b) = 0 then ordN a.length b.length else ordN (val a) (val b))
  else -1
 else if numeric b = true then 1 else Lib.compareBytes a b

theorem cmp_bytes_trans : ∀ (a b c : List UInt8), Lib.compareBytes a b ≤ 0 → Lib.compareBytes b c ≤ 0 → Lib.compareBytes a c ≤ 0 := by
 intro a
 induction a with
 | nil => intro b c _ _; cases c <;> simp [Lib.compareBytes]
 | cons x a ih =>
  intro b c h1 h2
  cases b with
  | nil => simp [Lib.compareBytes] at h1
  | cons y b =>
   cases c with
   | nil => simp [Lib.compareBytes] at h2
   | cons z c =>
    unfold Lib.compareBytes at h1 h2 ⊢
    simp only [UInt8.lt_iff_toNat_lt] at h1 h2 ⊢
    by_cases hxy : x.toNat < y.toNat
    ·by_cases hyz : y.toNat < z.toNat
     ·rw [if_pos (by omega)]; omega
     ·by_cases hzy : z.toNat < y.toNat
      ·rw [if_neg hyz, if_pos hzy] at h2; omega
      ·rw [if_pos (by omega)]; omega
    ·by_cases hyx : y.toNat < x.toNat
     ·rw [if_neg hxy, if_pos hyx] at h1; omega
     ·rw [if_neg hxy, if_neg hyx] at h1
      by_cases hyz : y.toNat < z.toNat
      ·rw [if_pos (by omega)]; omega
      ·by_cases hzy : z.toNat < y.toNat
       ·rw [if_neg hyz, if_pos hzy] at h2; omega
       ·rw [if_neg hyz, if_neg hzy] at h2
        rw [if_neg (by omega), if_neg (by omega)]
        exact ih b c h1 h2

theorem ordN_cases (x y : Nat) : (x < y ∧ ordN x y = -1) ∨ (x = y ∧ ordN x y = 0) ∨ (y < x ∧ ordN x y = 1) := by
 rcases Nat.lt_trichotomy x y with h | h | h
 ·exact .inl ⟨h, ordN_lt h⟩
 ·exact .inr (.inl ⟨h, ordN_eq h⟩)
 ·exact .inr (.inr ⟨h, ordN_gt h⟩)


theorem cmpId_trans (a b c : List UInt8) (h1 : cmpId a b ≤ 0) (h2 : cmpId b c ≤ 0) : cmpId a c ≤ 0 := by
 unfold cmpId at h1 h2 ⊢
 by_cases ha : numeric a = true
 ·by_cases hc : numeric c = true
  ·by_cases hb : numeric b = true
   ·rw [if_pos ha, if_pos hb] at h1
    rw [if_pos hb, if_pos hc] at h2
    rw [if_pos ha, if_pos hc]
    rcases ordN_cases (val a) (val b) with ⟨e1, e2⟩ | ⟨e1, e2⟩ | ⟨e1, e2⟩ <;>
    rcases ordN_cases (val b) (val c) with ⟨g1, g2⟩ | ⟨g1, g2⟩ | ⟨g1, g2⟩ <;>
    rcases ordN_cases (val a) (val c) with ⟨k1, k2⟩ | ⟨k1, k2⟩ | ⟨k1, k2⟩ <;>
    rcases ordN_cases a.length b.length with ⟨e3, e4⟩ | ⟨e3, e4⟩ | ⟨e3, e4⟩ <;>
    rcases ordN_cases b.length c.length with ⟨g3, g4⟩ | ⟨g3, g4⟩ | ⟨g3, g4⟩ <;>
    rcases ordN_cases a.length c.length with ⟨k3, k4⟩ | ⟨k3, k4⟩ | ⟨k3, k4⟩ <;>
    simp [e2, e4] at h1 <;> simp [g2, g4] at h2 <;> simp [k2, k4] <;> omega
   ·rw [if_neg hb, if_pos hc] at h2; omega
  ·rw [if_pos ha, if_neg hc]; omega
 ·by_cases hb : numeric b = true
  ·rw [if_neg ha, if_pos hb] at h1; omega
  ·rw [if_neg ha, if_neg hb] at h1
   by_cases hc : numeric c = true
   ·rw [if_neg hb, if_pos hc] at h2; omega
   ·rw [if_neg hb, if_neg hc] at h2
    rw [if_neg ha, if_neg hc]
    exact cmp_bytes_trans a b c h1 h2

def cmpRows : List (List UInt8) → List (List UInt8) → Int
 | a :: r, b :: s => if cmpId a b = 0 then cmpRows r s else cmpId a b
 | r, s => ordN r.length s.length
theorem cmpRows_nil (s : List (List UInt8)) : cmpRows [] s = ordN 0 s.length := by unfold cmpRows; rfl
theorem cmpRows_nil' (r : List (List UInt8)) : cmpRows r [] = ordN r.length 0 := by cases r <;> simp [cmpRows]
theorem cmpRows_same {a b : List UInt8} {r s : List (List UInt8)} (h : cmpId a b = 0) : cmpRows (a :: r) (b :: s) = cmpRows r s := by rw [cmpRows, if_pos h]
theorem cmpRows_diff {a b : List UInt8} {r s : List (List UInt8)} (h : cmpId a b ≠ 0) : cmpRows (a :: r) (b :: s) = cmpId a b := by rw [cmpRows, if_neg h]

/-! How long a row is. -/
theorem shut_len {pre : Bool} {w : List UInt8} {acc : List (List UInt8)} {n : Nat} : (shut pre w acc n).2.2.length ≤ 17 := by
 unfold shut
 split
 ·rename_i h
  have := (fault_pos h).2.2
  simp; omega
 ·simp
theorem shut_end {pre : Bool} {w : List UInt8} {acc : List (List UInt8)} {n : Nat} : (shut pre w acc n).2.1 ≤ n := by
 unfold shut; split <;> simp
theorem go_end_le (pre : Bool) (l w : List UInt8) (acc : List (List UInt8)) (n : Nat) : (go pre l w acc n).2.1 ≤ n + l.length := by
 induction l generalizing w acc n with
 | nil => rw [go]; exact Nat.le_trans shut_end (by simp)
 | cons b r ih =>
  rw [go, List.length_cons]
  split
  ·exact Nat.le_trans (ih _ _ _) (by omega)
  ·split
   ·split
    ·exact Nat.le_trans (ih _ _ _) (by omega)
    ·simp
   ·exact Nat.le_trans shut_end (by omega)
theorem row_end (l : List UInt8) (p : Nat) (pre : Bool) (hp : p ≤ l.length) : p + (row l p pre).2.1 ≤ l.length := by
 unfold row
 rw [if_neg (by omega), Int.toNat_natCast]
 have := go_end_le pre (l.drop p) [] [] 0
 rw [List.length_drop] at this; omega
theorem row_place (a b : List UInt8) (p : Nat) (pre : Bool) (hp : p ≤ b.length) : row (a ++ b) ((a.length + p : Nat) : Int) pre = row b p pre := by
 have h1 : ¬ (((a.length + p : Nat) : Int) < 0 ∨ ((a ++ b).length : Int) < ((a.length + p : Nat) : Int)) := by simp only [List.length_append]; omega
 have h2 : ¬ ((p : Int) < 0 ∨ (b.length : Int) < (p : Int)) := by omega
 have h3 : (a ++ b).drop (a.length + p) = b.drop p := by
  rw [List.drop_append, List.drop_eq_nil_of_le (by omega), show a.length + p - a.length = p by omega]; rfl
 unfold row
 rw [if_neg h1, if_neg h2, Int.toNat_natCast, Int.toNat_natCast, h3]

def shortB (xs : List (List UInt8)) : Bool := decide (xs.length ≤ 40 ∧ ∀ x ∈ xs, x.length ≤ 300)
theorem shortB_iff (xs : List (List UInt8)) : shortB xs = true ↔ xs.length ≤ 40 ∧ ∀ x ∈ xs, x.length ≤ 300 := by simp [shortB]
end Go.Proofs.YtgfbflnhjpbceaaGreatDoor.Ident
