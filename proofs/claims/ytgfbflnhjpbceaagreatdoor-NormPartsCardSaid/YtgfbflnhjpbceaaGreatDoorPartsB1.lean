/-
  What the digits of a text are worth: how many digits a text begins with, the number of digits, and that digits of one length stand as their numbers do. Plain lists and numbers; no condition.
  Bytes in memory: a slice that reads as a list of bytes (Row), pieces of it, a new block of bytes, append onto a row of the call's own (the source nil, empty or not), what came in as a list of bytes; a jump back to a label. Conditions: as each states.
  How many digits a slice of bytes begins with (num.digits), and whether they begin with a 0 that isn't alone (num.padded). Condition: the slice reads as the list of bytes l.
  Digits of one length stand, byte by byte, as their numbers do; which digits are too large to be held. Plain lists and numbers; no condition.
  Which texts are numerals (num.Is), for any texts; how numerals stand. Condition: the texts' lengths are those that the form allows.
  Identifiers and rows of them, as plain lists of bytes: which bytes they have, what is wrong with one, the row that a text begins with, how two identifiers and two rows stand, and that they stand in an order. No condition.
  Versions, as plain lists of bytes: the version that stands at a place of a text, or what is wrong and where; what stands ahead of a place changes nothing. No condition.
  Which rows of texts are good. Plain facts.
  Rows of texts in memory: a slice of strings that reads as a list of lists of bytes (SRow), what the call itself made, append onto a row of the call's own. Conditions: as each states.
  A row's identifiers with points between; a good row's text is read as it. Plain facts.
  Which versions are right and which are the same, a version's text. Plain facts.
  Ranges and their expressions, as plain lists of bytes: which range an expression's bytes are, or what is wrong and where; which ranges are right; a range's text. No condition.
  Expressions as plain lists of bytes: blanks, what stands next; each part that is read takes a byte at least; how often a reader may go on makes no difference; an end is a piece of what there was. No condition.
  Blocks of memory as versions use them: seven cells, stores that leave rows of texts as they are, what the document's answers leave. Conditions: as each states.
  Whether two arrays of three numbers are the same: what the operation answers. No condition.
  Whether two rows are the same (slices.Equal), a version's numbers (semver.coreOf), whether two versions are the same (semver.Same). Condition: the slices read as the lists xs and ys.
  An identifier's bytes as numbers, what is wrong with an identifier, texts without a byte. Plain facts.
  What the program's digit and numeric answer. Condition: the texts' lengths are those that the form allows.
-/
import Derived.WalkKit
import Derived.Test.YtgfbflnhjpbceaaGreatDoorChecked
import Derived.WalkMore
import Derived.ScopeJumps
import Derived.Outline
import Derived.IntWalk
import Derived.Lib.Hide
import Derived.WalkLawsBesides
import Derived.Lib.SlBytesConst
import Derived.Lib.Strings
import Derived.Maps.AppendAt
import Derived.OwnWalk
import Derived.Laws.AppendOwnNone
import Derived.Lib.ConvBytes
import Derived.Lib.Bytealg
import Derived.WalkSpells
import Derived.Lib.TrimByte
import Derived.Lib.BufferRead
import Derived.Lib.Join
import Derived.Lib.ItoaLen
import Derived.ChangeKeysEq
import Derived.Laws.StructEq
import Derived.StillTailTactics
import Derived.Deep.CutBlock
import Derived.Deep.DeepCutAuto
import Derived.Deep.RegionHeld3
namespace Go.Proofs.YtgfbflnhjpbceaaGreatDoor.Num

/-- Is this byte a digit? -/
def isDig (b : UInt8) : Bool := decide (48 ≤ b.toNat ∧ b.toNat ≤ 57)
/-- How many digits a text begins with. -/
def run : List UInt8 → Nat
  | [] => 0
  | b :: r => if isDig b then run r + 1 else 0
/-- The number that a text's digits carry on from v. -/
def valFrom (v : Nat) (l : List UInt8) : Nat := l.foldl (fun v b => 10 * v + (b.toNat - 48)) v
theorem valFrom_nil (v : Nat) : valFrom v [] = v := rfl
theorem valFrom_cons (v : Nat) (b : UInt8) (r : List UInt8) : valFrom v (b :: r) = valFrom (10 * v + (b.toNat - 48)) r := by
  unfold valFrom; rw [List.foldl_cons]
/-- The number of digits. -/
def val (l : List UInt8) : Nat := valFrom 0 l
/-- The greatest number that is held. -/
def maxField : Nat := 9223372036854775807

theorem isDig_iff (b : UInt8) : isDig b = true ↔ 48 ≤ b.toNat ∧ b.toNat ≤ 57 := by simp [isDig]

theorem run_le (l : List UInt8) : run l ≤ l.length := by
  induction l with
  | nil => simp [run]
  | cons b r ih => simp only [run, List.length_cons]; split <;> omega

/-- Digits ahead count one by one. -/
theorem run_skip (l : List UInt8) (k : Nat) (hk : k ≤ l.length) (h : ∀ j, j < k → isDig (l.getD j 0) = true) : run l = k + run (l.drop k) := by
  induction k generalizing l with
  | zero => simp
  | succ k ih =>
    cases l with
    | nil => simp at hk
    | cons b r =>
      have h0 : isDig b = true := by simpa using h 0 (by omega)
      have := ih r (by simpa using hk) (fun j hj => by simpa using h (j + 1) (by omega))
      simp only [run, h0, if_true, List.drop_succ_cons]; omega

/-- Where the digits end. -/
theorem run_stop (l : List UInt8) (k : Nat) (hk : k ≤ l.length) (h : ∀ j, j < k → isDig (l.getD j 0) = true) (he : k = l.length ∨ isDig (l.getD k 0) = false) : run l = k := by
  rw [run_skip l k hk h]
  rcases he with he | he
  · subst he; simp [run]
  · rcases Nat.lt_or_ge k l.length with hlt | hge
    · have e : l.drop k = l.getD k 0 :: l.drop (k + 1) := by
        rw [List.drop_eq_getElem_cons hlt]; simp [List.getD, List.getElem?_eq_getElem hlt]
      rw [e, run, he]; simp
    · rw [List.drop_eq_nil_of_le hge]; simp [run]

theorem run_dig (l : List UInt8) : ∀ j, j < run l → isDig (l.getD j 0) = true := by
  induction l with
  | nil => intro j hj; simp [run] at hj
  | cons b r ih =>
    intro j hj
    rw [run] at hj
    split at hj
    · rename_i hb
      cases j with
      | zero => simpa using hb
      | succ j => simpa using ih j (by omega)
    · omega

def AllDig (l : List UInt8) : Prop := ∀ b ∈ l, isDig b = true

theorem allDig_cons {b : UInt8} {r : List UInt8} : AllDig (b :: r) ↔ isDig b = true ∧ AllDig r := by simp [AllDig]
theorem allDig_take_run (l : List UInt8) : AllDig (l.take (run l)) := by
  induction l with
  | nil => simp [AllDig]
  | cons b r ih =>
    rw [run]
    split
    · rename_i hb; rw [List.take_succ_cons]; exact allDig_cons.2 ⟨hb, ih⟩
    · simp [AllDig]
theorem run_all {l : List UInt8} (h : AllDig l) : run l = l.length := by
  induction l with
  | nil => rfl
  | cons b r ih => rw [allDig_cons] at h; simp [run, h.1, ih h.2]
theorem all_of_run {l : List UInt8} (h : run l = l.length) : AllDig l := by
  have := allDig_take_run l; rwa [h, List.take_length] at this
theorem allDig_getD {l : List UInt8} (h : AllDig l) {j : Nat} (hj : j < l.length) : isDig (l.getD j 0) = true := by
  have e : l.getD j 0 = l[j] := by simp [List.getD, List.getElem?_eq_getElem hj]
  rw [e]; exact h _ (List.getElem_mem hj)

theorem valFrom_append (v : Nat) (l r : List UInt8) : valFrom v (l ++ r) = valFrom (valFrom v l) r := by
  simp [valFrom]
theorem val_snoc (l : List UInt8) (b : UInt8) : val (l ++ [b]) = 10 * val l + (b.toNat - 48) := by
  rw [val, valFrom_append]; rfl
theorem take_snoc (l : List UInt8) (k : Nat) (h : k < l.length) : l.take (k + 1) = l.take k ++ [l.getD k 0] := by
  rw [List.take_succ_eq_append_getElem h]; simp [List.getD, List.getElem?_eq_getElem h]
theorem le_valFrom (v : Nat) (l : List UInt8) : v ≤ valFrom v l := by
  induction l generalizing v with
  | nil => exact Nat.le_refl _
  | cons b r ih => rw [valFrom_cons]; exact Nat.le_trans (by omega) (ih _)
/-- A beginning's number is at most the whole one's. -/
theorem val_take_le (l : List UInt8) (k : Nat) : val (l.take k) ≤ val l := by
  have e : val l = valFrom (val (l.take k)) (l.drop k) := by
    rw [val, val, ← valFrom_append, List.take_append_drop]
  rw [e]; exact le_valFrom _ _

theorem valFrom_eq (v : Nat) (l : List UInt8) : valFrom v l = v * 10 ^ l.length + val l := by
  induction l generalizing v with
  | nil => simp [valFrom_nil, val]
  | cons b r ih =>
    have e1 : val (b :: r) = (b.toNat - 48) * 10 ^ r.length + val r := by
      rw [val, valFrom_cons, ih]; simp
    rw [valFrom_cons]
    have e2 : 10 * v * 10 ^ r.length = v * (10 ^ r.length * 10) := by rw [Nat.mul_comm 10 v, Nat.mul_assoc, Nat.mul_comm 10]
    rw [ih, e1, List.length_cons, Nat.pow_succ, Nat.add_mul, e2]
    omega
theorem val_cons (b : UInt8) (r : List UInt8) : val (b :: r) = (b.toNat - 48) * 10 ^ r.length + val r := by
  rw [val, valFrom_cons, valFrom_eq]; simp
theorem val_lt {l : List UInt8} (h : AllDig l) : val l < 10 ^ l.length := by
  induction l with
  | nil => simp [val, valFrom_nil]
  | cons b r ih =>
    rw [allDig_cons, isDig_iff] at h
    have h2 := ih h.2
    rw [val_cons, List.length_cons, Nat.pow_succ]
    have h3 : b.toNat - 48 ≤ 9 := by omega
    have h4 : (b.toNat - 48) * 10 ^ r.length ≤ 9 * 10 ^ r.length := Nat.mul_le_mul_right _ h3
    omega
/-- A first digit that isn't 0 makes a number of just so many digits. -/
theorem le_val {b : UInt8} {r : List UInt8} (h : 49 ≤ b.toNat) : 10 ^ r.length ≤ val (b :: r) := by
  rw [val_cons]
  have h4 : 1 * 10 ^ r.length ≤ (b.toNat - 48) * 10 ^ r.length := Nat.mul_le_mul_right _ (by omega)
  omega

/-- Digits that begin with a 0 that isn't alone. -/
def pad (l : List UInt8) : Bool := decide (1 < l.length ∧ (l.getD 0 0).toNat = 48)
theorem pad_iff (l : List UInt8) : pad l = true ↔ 1 < l.length ∧ (l.getD 0 0).toNat = 48 := by simp [pad]
theorem pad_no (l : List UInt8) : pad l = false ↔ ¬ (1 < l.length ∧ (l.getD 0 0).toNat = 48) := by
  rw [← pad_iff]; cases pad l <;> simp

/-- What Parse answers: the number, how many digits, the error's number. -/
def parse (l : List UInt8) (p : Int) : Nat × Nat × Nat :=
  if p < 0 ∨ (l.length : Int) < p then (0, 0, 1)
  else
    let r := l.drop p.toNat
    let d := r.take (run r)
    if d.length = 0 then (0, 0, 2)
    else if pad d = true then (0, 0, 3)
    else if maxField < val d then (0, 0, 4)
    else (val d, d.length, 0)

/-- What stands ahead of a place changes nothing, at any place behind it. -/
theorem parse_place_at (a b : List UInt8) (p : Nat) (hp : p ≤ b.length) : parse (a ++ b) ((a.length + p : Nat) : Int) = parse b p := by
  have h3 : (a ++ b).drop (a.length + p) = b.drop p := by
    rw [List.drop_append, List.drop_eq_nil_of_le (by omega), show a.length + p - a.length = p by omega]; rfl
  have h1 : ¬ (((a.length + p : Nat) : Int) < 0 ∨ ((a ++ b).length : Int) < ((a.length + p : Nat) : Int)) := by simp only [List.length_append]; omega
  have h2 : ¬ ((p : Int) < 0 ∨ (b.length : Int) < (p : Int)) := by omega
  unfold parse
  rw [if_neg h1, if_neg h2, Int.toNat_natCast, Int.toNat_natCast, h3]
theorem parse_end (l : List UInt8) (p : Nat) (hp : p ≤ l.length) : p + (parse l p).2.1 ≤ l.length := by
  have h1 : ((l.drop p).take (run (l.drop p))).length ≤ l.length - p := by
    rw [List.length_take, List.length_drop]; omega
  unfold parse
  rw [if_neg (by omega), Int.toNat_natCast]
  simp only
  split
  · simpa using hp
  · split
    · simpa using hp
    · split
      · simpa using hp
      · simp only; omega
end Go.Proofs.YtgfbflnhjpbceaaGreatDoor.Num

namespace Go.Proofs.YtgfbflnhjpbceaaGreatDoor.Num
open Go.RowKit

/-- The byte at a place, as the walk reads it. -/
def byteAt (l : List UInt8) (j : Nat) : Int := ((l.getD j 0).toNat : Int)
theorem byteAt_bd (l : List UInt8) (j : Nat) : 0 ≤ byteAt l j ∧ byteAt l j ≤ 255 := by
  have := (l.getD j 0).toNat_lt; unfold byteAt; omega
theorem isDig_at (l : List UInt8) (j : Nat) : isDig (l.getD j 0) = true ↔ 48 ≤ byteAt l j ∧ byteAt l j ≤ 57 := by
  rw [isDig_iff]; unfold byteAt; omega

/-- The slice of n bytes at A reads as the list l; a slice without bytes may lie anywhere. -/
def Row (w : World) (A : Option Addr) (n : Nat) (l : List UInt8) : Prop :=
  l.length = n ∧ n ≤ maxLen ∧ (0 < n → ∃ b o, A = some ⟨b, o, none⟩ ∧ b < w.heap.size ∧ ∀ j, j < n → w.cell? ⟨b, o + j, none⟩ = some (.int .u8 (byteAt l j)))

/-- A jump back to the label l, told at the label: what holds there (J), a measure, the pass from the label, and the way up to the label. -/
theorem wp_scope_back {P : Program} {a : Act} {w : World} {Q : Exit → Act → World → Prop} {c rest : Code} (l : Nat) (J : Act → World → Prop) (μ : Act → World → Nat) (hf : findLabel c l = some (Code.skip.seq rest))
    (pass : ∀ a w, J a w → rest.wp P (Exit.jump l (fun a' w' => J a' w' ∧ μ a' w' < μ a w) Q) a w)
    (first : Hid (∀ a w, J a w → rest.wp P (Exit.jump l J Q) a w) → c.wp P (Exit.jump l J Q) a w) : (Code.scope c).wp P Q a w :=
  wp_scope_jumps l J μ hf (first fun a w h => wp_mono (pass a w h) (fun e _ _ hq => by cases e <;> first | exact hq | exact ⟨hq.1, hq.2.1⟩)) (fun a w h => wp_seq (wp_skip (pass a w h)))

theorem ret_int {k : IntKind} {a b : Int} (h : a = b) : Ending.returned (.int k a) = .returned (.int k b) := by rw [h]

/-- A piece of a slice reads as the piece of the list. -/
theorem Row.piece {w : World} {A A' : Option Addr} {n : Nat} {l : List UInt8} (h : Row w A n l) (p m : Nat) (hp : p + m ≤ n)
    (hA : 0 < m → ∀ b o, A = some ⟨b, o, none⟩ → A' = some ⟨b, o + p, none⟩) : Row w A' m ((l.drop p).take m) := by
  obtain ⟨hl, hm, hc⟩ := h
  refine ⟨by rw [List.length_take, List.length_drop]; omega, by omega, fun h0 => ?_⟩
  obtain ⟨b, o, e, hb, hcell⟩ := hc (by omega)
  refine ⟨b, o + p, hA h0 b o e, hb, fun j hj => ?_⟩
  have e1 : byteAt ((l.drop p).take m) j = byteAt l (p + j) := by
    unfold byteAt; simp [List.getD, hj]
  rw [e1, Nat.add_assoc]; exact hcell (p + j) (by omega)

theorem map_add (p : Nat) (A : Option Addr) (b o : Nat) (e : A = some ⟨b, o, none⟩) : A.map (fun x => x.add p) = some ⟨b, o + p, none⟩ := by
  subst e
  by_cases h : p = 0
  · subst h; simp [Addr.add]
  · simp [Addr.add, h]


theorem size_alloc (w : World) (o : Obj) : (w.alloc o).heap.size = w.heap.size + 1 := by simp



/-- Bytes as cells. -/
def cells (l : List UInt8) : List Value := l.map fun b => Value.int .u8 (b.toNat : Int)
theorem cells_length (l : List UInt8) : (cells l).length = l.length := by simp [cells]
theorem cells_at (l : List UInt8) (j : Nat) (hj : j < l.length) : (cells l)[j]? = some (.int .u8 (byteAt l j)) := by
  unfold byteAt; simp [cells, List.getElem?_eq_getElem hj]

theorem add_none (b o j : Nat) : (⟨b, o, none⟩ : Addr).add j = ⟨b, o + j, none⟩ := by
  by_cases h : j = 0
  · subst h; simp [Addr.add]
  · simp [Addr.add, h]

/-- What Row says, in the form that the laws on append ask. -/
theorem Row.news {w : World} {ad : Addr} {n : Nat} {l : List UInt8} (h : Row w (some ad) n l) : ∀ j u, (cells l)[j]? = some u → w.cell? (ad.add j) = some u := by
  intro j u hu
  have hj : j < l.length := by
    have := (List.getElem?_eq_some_iff.1 hu).1
    rwa [cells_length] at this
  obtain ⟨b, o, e, _, hc⟩ := h.2.2 (by have := h.1; omega)
  injection e with e
  subst e
  rw [cells_at l j hj] at hu
  injection hu with hu
  rw [add_none, hc j (by rw [← h.1]; exact hj), hu]

theorem Row.nil {w : World} {n : Nat} {l : List UInt8} (h : Row w none n l) : n = 0 ∧ l = [] := by
  rcases Nat.eq_zero_or_pos n with h0 | h0
  · exact ⟨h0, List.eq_nil_of_length_eq_zero (by rw [h.1]; exact h0)⟩
  · obtain ⟨b, o, e, _⟩ := h.2.2 h0
    cases e


theorem Row.kept {w w' : World} {A : Option Addr} {n : Nat} {l : List UInt8} (h : Row w A n l) (hb : Below w.heap.size w w') : Row w' A n l := by
  refine ⟨h.1, h.2.1, fun h0 => ?_⟩
  obtain ⟨b, o, e, hlt, hc⟩ := h.2.2 h0
  exact ⟨b, o, e, Nat.lt_of_lt_of_le hlt hb.size, fun j hj => (hb.cell (p := ⟨b, o + j, none⟩) hlt).trans (hc j hj)⟩





/-- Below block number B the world is as it was, and no answer of the tape was taken back. -/
structure BelowD (B : Nat) (w w' : World) : Prop extends Below B w w' where
  drawn : w.drawn ≤ w'.drawn
theorem BelowD.refl (B : Nat) (w : World) : BelowD B w w := ⟨Below.refl B w, Nat.le_refl _⟩
theorem BelowD.trans {B : Nat} {a b c : World} (h : BelowD B a b) (k : BelowD B b c) : BelowD B a c := ⟨h.toBelow.trans k.toBelow, Nat.le_trans h.drawn k.drawn⟩
theorem BelowD.mono {B B' : Nat} {w w' : World} (h : BelowD B w w') (hB : B' ≤ B) : BelowD B' w w' := ⟨h.toBelow.mono hB, h.drawn⟩
theorem BelowD.drew {B : Nat} {a w : World} (h : BelowD B a w) : BelowD B a w.drew := ⟨h.toBelow.drew, Nat.le_trans h.drawn (Nat.le_succ _)⟩
theorem BelowD.alloc {B : Nat} {a w : World} (h : BelowD B a w) (hB : B ≤ w.heap.size) (o : Obj) : BelowD B a (w.alloc o) := ⟨h.toBelow.alloc hB o, h.drawn⟩
/-- A call of which it is known that it takes no answer back. -/
theorem dropD {P : Program} {f : FuncId} {args : Array Value} {w : World} {B : Nat} {R : Ending → Prop} (h : Calls P f args w fun e w' => R e ∧ BelowD B w w') : Calls P f args w fun e w' => R e ∧ Below B w w' :=
  h.mono fun _ _ k => ⟨k.1, k.2.toBelow⟩
theorem at_text (t : ByteArray) (k : Nat) (h : k < t.size) : (t[k].toNat : Int) = byteAt t.data.toList k := by
  have h2 : k < t.data.toList.length := by rw [← Lib.size_eq]; exact h
  unfold byteAt
  rw [List.getD, List.getElem?_eq_getElem h2]
  rfl
end Go.Proofs.YtgfbflnhjpbceaaGreatDoor.Num

namespace Go.Proofs.YtgfbflnhjpbceaaGreatDoor.Num
open Go.RowKit
def DigJ (w : World) (A : Option Addr) (n c : Nat) (l : List UInt8) (a' : Act) (w' : World) : Prop :=
  w = w' ∧ ∃ (k : Nat) (u4 u5 u6 u7 u8 u9 u10 u11 u12 u13 u14 u15 u16 u17 u18 u19 u20 u21 u22 u23 u24 : Value), k ≤ n ∧ (∀ j, j < k → isDig (l.getD j 0) = true) ∧ a' = { tmps := #[.slice A n c, undef, .int .i64 0, .int .i64 k, u4, u5, u6, u7, u8, u9, u10, u11, u12, u13, u14, u15, u16, u17, u18, u19, u20, u21, u22, u23, u24], defers := [] }
def DigM (n : Nat) (a' : Act) (_ : World) : Nat := n - (intOf (a'.tmps.getD 3 undef)).toNat

set_option maxRecDepth 100000 in
set_option maxHeartbeats 400000 in
theorem digits_any (A : Option Addr) (n c : Nat) (l : List UInt8) (w : World) (h : Row w A n l) :
    Calls Tryz.prog 148 #[.slice A n c] w fun e w' => e = .returned (.int .i64 (run l)) ∧ w = w' := by
  obtain ⟨hl, hm, hc⟩ := h
  unfold maxLen at hm
  have HC := Lib.hid hc; clear hc
  have HL := Lib.hid hl; clear hl
  go_enter Tryz.func148, Tryz.ntmps148
  go_wp2
  refine wp_scope_back 0 (DigJ w A n c l) (DigM n) rfl ?_ ?_
  · rintro a' w' ⟨rfl, k, u4, u5, u6, u7, u8, u9, u10, u11, u12, u13, u14, u15, u16, u17, u18, u19, u20, u21, u22, u23, u24, hk, hd, rfl⟩
    have HD := Lib.hid hd; clear hd
    by_cases hlt : k < n
    · obtain ⟨b, o, rfl, hb, hcell⟩ := HC.out (by omega)
      have hx := hcell k hlt
      clear hcell HC
      have hbd := byteAt_bd l k
      have HI := Lib.hid (isDig_at l k)
      generalize byteAt l k = x at hx hbd HI
      have HS : Hid (¬ (48 ≤ x ∧ x ≤ 57) → run l = k) := fun hn => run_stop l k (by rw [HL.out]; omega) HD.out (.inr (by rw [← HI.out] at hn; simpa using hn))
      by_cases h1 : 48 ≤ x
      · by_cases h2 : x ≤ 57
        · go_wp2
          go_step3
          rw [show ((k : Int) + 1) = ((k + 1 : Nat) : Int) from rfl]
          refine ⟨rfl, ⟨rfl, k + 1, _, _, _, _, _, _, _, _, _, _, _, _, _, _, _, _, _, _, _, _, _, by omega, ?_, rfl⟩, ?_⟩
          · intro j hj
            rcases Nat.lt_or_ge j k with hj1 | hj1
            · exact HD.out j hj1
            · obtain rfl : j = k := by omega
              exact HI.out.2 ⟨h1, h2⟩
          · simp [DigM, intOf]; omega
        · go_wp2
          simp only [Exit.jump]
          go_ret
          exact ⟨ret_int (by rw [HS.out (by omega)]), rfl⟩
      · go_wp2
        simp only [Exit.jump]
        go_ret
        exact ⟨ret_int (by rw [HS.out (by omega)]), rfl⟩
    · have HS : Hid (run l = k) := run_stop l k (by rw [HL.out]; omega) HD.out (.inl (by rw [HL.out]; omega))
      go_wp2
      simp only [Exit.jump]
      go_ret
      exact ⟨ret_int (by rw [HS.out]), rfl⟩
  · intro HP
    go_wp2
    go_step3
    rename_i hK
    exact hK _ _ (HP.out _ _ ⟨rfl, 0, _, _, _, _, _, _, _, _, _, _, _, _, _, _, _, _, _, _, _, _, _, by omega, (fun j hj => by omega), rfl⟩)

set_option maxRecDepth 100000 in
set_option maxHeartbeats 400000 in
theorem padded_any (A : Option Addr) (n c : Nat) (l : List UInt8) (w : World) (h : Row w A n l) :
    Calls Tryz.prog 149 #[.slice A n c] w fun e w' => e = .returned (.bool (pad l)) ∧ w = w' := by
  obtain ⟨hl, hm, hc⟩ := h
  unfold maxLen at hm
  by_cases hlt : 1 < n
  · obtain ⟨b, o, rfl, hb, hcell⟩ := hc (by omega)
    have hx := hcell 0 (by omega)
    simp only [Nat.add_zero] at hx
    have HI : Hid (byteAt l 0 = 48 ↔ (l.getD 0 0).toNat = 48) := by unfold Hid byteAt; omega
    have HL := Lib.hid hl
    clear hcell hc hl
    generalize byteAt l 0 = x at hx HI
    by_cases h48 : x = 48
    · have HF : Hid (pad l = true) := (pad_iff l).2 ⟨by rw [HL.out]; exact hlt, HI.out.1 h48⟩
      have hb1 : (x == 48) = true := by simp [h48]
      have H48 := Lib.hid h48; clear h48
      go_enter Tryz.func149, Tryz.ntmps149
      go_wp2
      go_ret
      exact ⟨by rw [HF.out]; rfl, rfl⟩
    · have HF : Hid (pad l = false) := (pad_no l).2 fun hh => h48 (HI.out.2 hh.2)
      have hb1 : (x == 48) = false := by simp [h48]
      go_enter Tryz.func149, Tryz.ntmps149
      go_wp2
      go_ret
      exact ⟨by rw [HF.out]; rfl, rfl⟩
  · have HF : Hid (pad l = false) := (pad_no l).2 fun hh => hlt (by rw [← hl]; exact hh.1)
    clear hc hl
    go_enter Tryz.func149, Tryz.ntmps149
    go_wp2
    go_ret
    exact ⟨by rw [HF.out]; rfl, rfl⟩

end Go.Proofs.YtgfbflnhjpbceaaGreatDoor.Num

namespace Go.Proofs.YtgfbflnhjpbceaaGreatDoor.Num

theorem less_val : ∀ (x y : List UInt8), AllDig x → AllDig y → x.length = y.length → (Op.bytesLess x y = true ↔ val x < val y) := by
  intro x
  induction x with
  | nil =>
    intro y _ _ h
    have : y = [] := List.eq_nil_of_length_eq_zero (by simpa using h.symm)
    subst this
    simp [Op.bytesLess]
  | cons a x ih =>
    intro y hx hy h
    cases y with
    | nil => simp at h
    | cons b y =>
      rw [allDig_cons] at hx hy
      have hl : x.length = y.length := by simpa using h
      have h1 := ih y hx.2 hy.2 hl
      have ha := (isDig_iff a).1 hx.1
      have hb := (isDig_iff b).1 hy.1
      have vx := val_lt hx.2
      have vy := val_lt hy.2
      rw [val_cons, val_cons, ← hl]
      rw [← hl] at vy
      unfold Op.bytesLess
      rw [Bool.or_eq_true, Bool.and_eq_true, h1, decide_eq_true_eq, beq_iff_eq, UInt8.lt_iff_toNat_lt]
      rcases Nat.lt_trichotomy a.toNat b.toNat with hab | hab | hab
      · have h5 : (a.toNat - 48 + 1) * 10 ^ x.length ≤ (b.toNat - 48) * 10 ^ x.length := Nat.mul_le_mul_right _ (by omega)
        rw [Nat.add_mul] at h5
        exact ⟨fun _ => by omega, fun _ => .inl hab⟩
      · have e : a = b := UInt8.toNat_inj.1 hab
        subst e
        exact ⟨fun hh => by rcases hh with hh | hh <;> omega, fun hh => .inr ⟨rfl, by omega⟩⟩
      · have h5 : (b.toNat - 48 + 1) * 10 ^ x.length ≤ (a.toNat - 48) * 10 ^ x.length := Nat.mul_le_mul_right _ (by omega)
        rw [Nat.add_mul] at h5
        refine ⟨fun hh => ?_, fun hh => by omega⟩
        rcases hh with hh | ⟨rfl, _⟩ <;> omega

theorem val_inj : ∀ (x y : List UInt8), AllDig x → AllDig y → x.length = y.length → val x = val y → x = y := by
  intro x
  induction x with
  | nil => intro y _ _ h _; exact (List.eq_nil_of_length_eq_zero (by simpa using h.symm)).symm
  | cons a x ih =>
    intro y hx hy h hv
    cases y with
    | nil => simp at h
    | cons b y =>
      rw [allDig_cons] at hx hy
      have hl : x.length = y.length := by simpa using h
      have ha := (isDig_iff a).1 hx.1
      have hb := (isDig_iff b).1 hy.1
      have vx := val_lt hx.2
      have vy := val_lt hy.2
      rw [val_cons, val_cons, ← hl] at hv
      rw [← hl] at vy
      rcases Nat.lt_trichotomy a.toNat b.toNat with hab | hab | hab
      · have h5 : (a.toNat - 48 + 1) * 10 ^ x.length ≤ (b.toNat - 48) * 10 ^ x.length := Nat.mul_le_mul_right _ (by omega)
        rw [Nat.add_mul] at h5; omega
      · have e : a = b := UInt8.toNat_inj.1 hab
        subst e
        rw [ih y hx.2 hy.2 hl (by omega)]
      · have h5 : (b.toNat - 48 + 1) * 10 ^ x.length ≤ (a.toNat - 48) * 10 ^ x.length := Nat.mul_le_mul_right _ (by omega)
        rw [Nat.add_mul] at h5; omega


end Go.Proofs.YtgfbflnhjpbceaaGreatDoor.Num

namespace Go.Proofs.YtgfbflnhjpbceaaGreatDoor.Num
open Go.RowKit

/-- Is this a numeral? -/
def isNum (l : List UInt8) : Bool := decide (0 < l.length ∧ run l = l.length ∧ pad l = false)
theorem isNum_iff (l : List UInt8) : isNum l = true ↔ 0 < l.length ∧ run l = l.length ∧ pad l = false := by simp [isNum]
theorem isNum_no (l : List UInt8) : isNum l = false ↔ ¬ (0 < l.length ∧ run l = l.length ∧ pad l = false) := by
  rw [← isNum_iff]; cases isNum l <;> simp

/-- []byte(s): a new row that reads as the text. -/
theorem run_bytesD (w : World) (s : ByteArray) (hs : s.size ≤ maxLen) : ∃ c W, s.size ≤ c ∧
    (convert 9 68 (.string s)).run Tryz.prog w = .ok (.slice (some ⟨w.heap.size, 0, none⟩) s.size c) W ∧ Row W (some ⟨w.heap.size, 0, none⟩) s.size s.data.toList ∧ BelowD w.heap.size w W := by
  refine ⟨_, _, grownCap_ge w s.size 0 5, Lib.run_convert_string_bytes (P := Tryz.prog) w 9 68 5 s Tryz.underlying9 Tryz.underlying68 Tryz.underlying5, ?_, ?_⟩
  · refine ⟨(Lib.size_eq s).symm, hs, fun h0 => ⟨w.heap.size, 0, rfl, by rw [Lib.bytesWorld_size]; omega, fun j hj => ?_⟩⟩
    rw [Nat.zero_add, Lib.bytesWorld_cell w 5 s j hj]; rfl
  · exact ⟨⟨by simp [Lib.bytesWorld, World.freeze]; rfl, by simp [Lib.bytesWorld, World.freeze], by simp [Lib.bytesWorld, World.freeze]; rfl, by rw [Lib.bytesWorld_size]; omega, fun k hk => Lib.bytesWorld_at_old w 5 s k hk⟩, by simp [Lib.bytesWorld, World.freeze]⟩

theorem run_bytes (w : World) (s : ByteArray) (hs : s.size ≤ maxLen) : ∃ c W, s.size ≤ c ∧
    (convert 9 68 (.string s)).run Tryz.prog w = .ok (.slice (some ⟨w.heap.size, 0, none⟩) s.size c) W ∧ Row W (some ⟨w.heap.size, 0, none⟩) s.size s.data.toList ∧ Below w.heap.size w W := by
  obtain ⟨c, W, h1, h2, h3, h4⟩ := run_bytesD w s hs
  exact ⟨c, W, h1, h2, h3, h4.toBelow⟩

set_option maxRecDepth 100000 in
set_option maxHeartbeats 800000 in
theorem is_anyD (s : ByteArray) (w : World) (hs : s.size ≤ maxLen) :
    Calls Tryz.prog 127 #[.string s] w fun e w' => e = .returned (.bool (isNum s.data.toList)) ∧ BelowD w.heap.size w w' := by
  obtain ⟨c, W, hc, hcv, hr, hb⟩ := run_bytesD w s hs
  unfold maxLen at hs
  have HR := Lib.hid hr; clear hr
  have HB := Lib.hid hb; clear hb
  have HL := Lib.hid (Lib.size_eq s)
  by_cases h0 : 0 < s.size
  · by_cases h1 : run s.data.toList = s.size
    · have hb1 : ((run s.data.toList : Int) == (s.size : Int)) = true := by rw [h1]; simp
      have HF : Hid (isNum s.data.toList = !pad s.data.toList) := by
        unfold Hid
        rw [Bool.eq_iff_iff, isNum_iff, ← HL.out]; simp [h0, h1]
      have H1 := Lib.hid h1; clear h1
      go_enter Tryz.func127, Tryz.ntmps127
      go_wp2_with fail
      refine (digits_any _ _ _ _ _ HR.out).mono ?_
      rintro e w' ⟨rfl, rfl⟩
      go_wp2_with fail
      refine (padded_any _ _ _ _ _ HR.out).mono ?_
      rintro e w' ⟨rfl, rfl⟩
      go_wp2
      go_ret
      exact ⟨by rw [HF.out]; rfl, HB.out⟩
    · have hb1 : ((run s.data.toList : Int) == (s.size : Int)) = false := by simp; omega
      have HF : Hid (isNum s.data.toList = false) := (isNum_no _).2 fun hh => h1 (by rw [HL.out]; exact hh.2.1)
      have H1 := Lib.hid h1; clear h1
      go_enter Tryz.func127, Tryz.ntmps127
      go_wp2_with fail
      refine (digits_any _ _ _ _ _ HR.out).mono ?_
      rintro e w' ⟨rfl, rfl⟩
      go_wp2
      go_ret
      exact ⟨by rw [HF.out]; rfl, HB.out⟩
  · have HF : Hid (isNum s.data.toList = false) := (isNum_no _).2 fun hh => h0 (by rw [HL.out]; exact hh.1)
    go_enter Tryz.func127, Tryz.ntmps127
    go_wp2
    go_ret
    exact ⟨by rw [HF.out]; rfl, HB.out⟩

theorem is_any (s : ByteArray) (w : World) (hs : s.size ≤ maxLen) :
    Calls Tryz.prog 127 #[.string s] w fun e w' => e = .returned (.bool (isNum s.data.toList)) ∧ Below w.heap.size w w' := dropD (is_anyD s w hs)

/-- -1, 0, 1. -/
def ordN (x y : Nat) : Int := if x < y then -1 else if y < x then 1 else 0
theorem ordN_lt {x y : Nat} (h : x < y) : ordN x y = -1 := by unfold ordN; rw [if_pos h]
theorem ordN_gt {x y : Nat} (h : y < x) : ordN x y = 1 := by unfold ordN; rw [if_neg (by omega), if_pos h]
theorem ordN_eq {x y : Nat} (h : x = y) : ordN x y = 0 := by unfold ordN; rw [if_neg (by omega), if_neg (by omega)]
theorem ordN_flip (x y : Nat) : ordN y x = 0 - ordN x y := by
  rcases Nat.lt_trichotomy x y with h | h | h
  · rw [ordN_lt h, ordN_gt h]; rfl
  · rw [ordN_eq h, ordN_eq h.symm]; rfl
  · rw [ordN_gt h, ordN_lt h]; rfl

/-- Digits of one length compare, byte by byte, as their numbers do. -/
theorem compare_val : ∀ (x y : List UInt8), AllDig x → AllDig y → x.length = y.length → Lib.compareBytes x y = ordN (val x) (val y) := by
  intro x
  induction x with
  | nil =>
    intro y _ _ h
    have : y = [] := List.eq_nil_of_length_eq_zero (by simpa using h.symm)
    subst this
    rw [ordN_eq rfl]; simp [Lib.compareBytes]
  | cons a x ih =>
    intro y hx hy h
    cases y with
    | nil => simp at h
    | cons b y =>
      have hl : x.length = y.length := by simpa using h
      have h1 := less_val (a :: x) (b :: y) hx hy h
      have h2 := less_val (b :: y) (a :: x) hy hx h.symm
      rw [allDig_cons] at hx hy
      have h3 := ih y hx.2 hy.2 hl
      unfold Op.bytesLess at h1 h2
      rw [Bool.or_eq_true, decide_eq_true_eq] at h1 h2
      unfold Lib.compareBytes
      by_cases hab : a < b
      · rw [if_pos hab, ordN_lt (h1.1 (.inl hab))]
      · rw [if_neg hab]
        by_cases hba : b < a
        · rw [if_pos hba, ordN_gt (h2.1 (.inl hba))]
        · rw [if_neg hba, h3]
          have e : a = b := by
            rw [UInt8.lt_iff_toNat_lt] at hab hba
            exact UInt8.toNat_inj.1 (by omega)
          subst e
          rw [val_cons, val_cons, hl]
          rcases Nat.lt_trichotomy (val x) (val y) with hh | hh | hh
          · rw [ordN_lt hh, ordN_lt (by omega)]
          · rw [ordN_eq hh, ordN_eq (by omega)]
          · rw [ordN_gt hh, ordN_gt (by omega)]

/-- A shorter numeral's number is the lesser one. -/
theorem shorter {x y : List UInt8} (hx : isNum x = true) (hy : isNum y = true) (h : x.length < y.length) : val x < val y := by
  rw [isNum_iff] at hx hy
  have ax := all_of_run hx.2.1
  have ay := all_of_run hy.2.1
  have vx := val_lt ax
  cases y with
  | nil => simp at h
  | cons b r =>
    have hp := (pad_no _).1 hy.2.2
    have hb := (isDig_iff b).1 (allDig_cons.1 ay).1
    have h48 : b.toNat ≠ 48 := fun e => hp ⟨by omega, by simpa using e⟩
    have h1 := le_val (b := b) (r := r) (by omega)
    have h2 : 10 ^ x.length ≤ 10 ^ r.length := Nat.pow_le_pow_right (by omega) (by simp at h; omega)
    omega

theorem alike_val {x y : List UInt8} (hx : isNum x = true) (hy : isNum y = true) (h : x.length = y.length) : Lib.compareBytes x y = ordN (val x) (val y) := by
  rw [isNum_iff] at hx hy
  exact compare_val x y (all_of_run hx.2.1) (all_of_run hy.2.1) h

/-- What num.Compare answers. -/
def cmpNum (a b : List UInt8) : Int := if isNum a = true ∧ isNum b = true then ordN (val a) (val b) else 0
theorem cmpNum_yes {a b : List UInt8} (ha : isNum a = true) (hb : isNum b = true) : cmpNum a b = ordN (val a) (val b) := by unfold cmpNum; rw [if_pos ⟨ha, hb⟩]
theorem cmpNum_no {a b : List UInt8} (h : isNum a = false ∨ isNum b = false) : cmpNum a b = 0 := by
  unfold cmpNum; rw [if_neg]
  rintro ⟨ha, hb⟩
  rcases h with h | h
  · rw [ha] at h; cases h
  · rw [hb] at h; cases h

end Go.Proofs.YtgfbflnhjpbceaaGreatDoor.Num

namespace Go.Proofs.YtgfbflnhjpbceaaGreatDoor.Ident
open Num

/-- Is this byte a letter? -/
def isLet (b : UInt8) : Bool := decide ((65 ≤ b.toNat ∧ b.toNat ≤ 90) ∨ (97 ≤ b.toNat ∧ b.toNat ≤ 122))
/-- Is this byte one of an identifier's? -/
def isId (b : UInt8) : Bool := isDig b || isLet b || decide (b.toNat = 45)
/-- How many of an identifier's bytes a text begins with. -/
def lead : List UInt8 → Nat
  | [] => 0
  | b :: r => if isId b then lead r + 1 else 0

theorem isLet_iff (b : UInt8) : isLet b = true ↔ (65 ≤ b.toNat ∧ b.toNat ≤ 90) ∨ (97 ≤ b.toNat ∧ b.toNat ≤ 122) := by simp [isLet]

theorem lead_le (l : List UInt8) : lead l ≤ l.length := by
  induction l with
  | nil => simp [lead]
  | cons b r ih => simp only [lead, List.length_cons]; split <;> omega

theorem lead_skip (l : List UInt8) (k : Nat) (hk : k ≤ l.length) (h : ∀ j, j < k → isId (l.getD j 0) = true) : lead l = k + lead (l.drop k) := by
  induction k generalizing l with
  | zero => simp
  | succ k ih =>
    cases l with
    | nil => simp at hk
    | cons b r =>
      have h0 : isId b = true := by simpa using h 0 (by omega)
      have := ih r (by simpa using hk) (fun j hj => by simpa using h (j + 1) (by omega))
      simp only [lead, h0, if_true, List.drop_succ_cons]; omega

theorem drop_getD (l : List UInt8) (k : Nat) (h : k < l.length) : l.drop k = l.getD k 0 :: l.drop (k + 1) := by
  rw [List.drop_eq_getElem_cons h]; simp [List.getD, List.getElem?_eq_getElem h]

theorem lead_stop (l : List UInt8) (k : Nat) (hk : k ≤ l.length) (h : ∀ j, j < k → isId (l.getD j 0) = true) (he : k = l.length ∨ isId (l.getD k 0) = false) : lead l = k := by
  rw [lead_skip l k hk h]
  rcases he with he | he
  · subst he; simp [lead]
  · rcases Nat.lt_or_ge k l.length with hlt | hge
    · rw [drop_getD l k hlt, lead, he]; simp
    · rw [List.drop_eq_nil_of_le hge]; simp [lead]

theorem lead_full {l : List UInt8} : lead l = l.length ↔ ∀ b ∈ l, isId b = true := by
  induction l with
  | nil => simp [lead]
  | cons b r ih =>
    rw [lead]
    by_cases hb : isId b = true
    · simp [hb, ← ih]
    · have := lead_le r
      simp [hb]

/-- Digits alone, and at least one. -/
def numeric (l : List UInt8) : Bool := decide (0 < l.length ∧ run l = l.length)
theorem numeric_iff (l : List UInt8) : numeric l = true ↔ 0 < l.length ∧ run l = l.length := by simp [numeric]
theorem numeric_no (l : List UInt8) : numeric l = false ↔ ¬ (0 < l.length ∧ run l = l.length) := by
  rw [← numeric_iff]; cases numeric l <;> simp

/-- What is wrong with the identifier at place i of a row. -/
def fault (s : List UInt8) (i : Nat) (pre : Bool) : Nat :=
  if s.length = 0 then 5 else if 255 < s.length ∨ 16 ≤ i then 4 else if pre = true ∧ numeric s = true ∧ isNum s = false then 3 else 0
theorem fault_pos {s : List UInt8} {i : Nat} {pre : Bool} (h : fault s i pre = 0) : 0 < s.length ∧ s.length ≤ 255 ∧ i < 16 := by
  unfold fault at h
  split at h
  · omega
  · split at h
    · omega
    · rename_i h1 h2; omega

/-- An end of reading: the error, how many bytes, the identifiers. -/
abbrev Res := Nat × Nat × List (List UInt8)
/-- The end of a row: its last identifier w. -/
def shut (pre : Bool) (w : List UInt8) (acc : List (List UInt8)) (n : Nat) : Res :=
  if fault w acc.length pre = 0 then (0, n, acc ++ [w]) else (fault w acc.length pre, 0, [])
/-- The row that a text begins with, of which w, acc and n bytes have been read. -/
def go (pre : Bool) : List UInt8 → List UInt8 → List (List UInt8) → Nat → Res
  | [], w, acc, n => shut pre w acc n
  | b :: r, w, acc, n =>
    if isId b then go pre r (w ++ [b]) acc (n + 1)
    else if b.toNat = 46 then (if fault w acc.length pre = 0 then go pre r [] (acc ++ [w]) (n + 1) else (fault w acc.length pre, 0, []))
    else shut pre w acc n
/-- What Row answers. -/
def row (l : List UInt8) (p : Int) (pre : Bool) : Res := if p < 0 ∨ (l.length : Int) < p then (1, 0, []) else go pre (l.drop p.toNat) [] [] 0

theorem point_no : isId 46 = false := by decide
theorem go_id {pre : Bool} {b : UInt8} {r w : List UInt8} {acc : List (List UInt8)} {n : Nat} (h : isId b = true) : go pre (b :: r) w acc n = go pre r (w ++ [b]) acc (n + 1) := by
  rw [go, if_pos h]
theorem go_bad {pre : Bool} {b : UInt8} {r w : List UInt8} {acc : List (List UInt8)} {n : Nat} (h : isId b = false) (hf : fault w acc.length pre ≠ 0) : go pre (b :: r) w acc n = (fault w acc.length pre, 0, []) := by
  rw [go, h]
  unfold shut
  simp [hf]
theorem go_point {pre : Bool} {b : UInt8} {r w : List UInt8} {acc : List (List UInt8)} {n : Nat} (hb : b.toNat = 46) (hf : fault w acc.length pre = 0) : go pre (b :: r) w acc n = go pre r [] (acc ++ [w]) (n + 1) := by
  have e : b = 46 := UInt8.toNat_inj.1 hb
  subst e
  rw [go, point_no]
  simp [hf]
theorem go_else {pre : Bool} {b : UInt8} {r w : List UInt8} {acc : List (List UInt8)} {n : Nat} (h : isId b = false) (hb : b.toNat ≠ 46) : go pre (b :: r) w acc n = shut pre w acc n := by
  rw [go, h]; simp [hb]
theorem go_lead (pre : Bool) (l w : List UInt8) (acc : List (List UInt8)) (n : Nat) : go pre l w acc n = go pre (l.drop (lead l)) (w ++ l.take (lead l)) acc (n + lead l) := by
  induction l generalizing w n with
  | nil => simp [lead]
  | cons b r ih =>
    by_cases hb : isId b = true
    · rw [go_id hb, ih, lead, if_pos hb, List.drop_succ_cons, List.take_succ_cons, List.append_assoc, List.singleton_append]
      congr 1
      omega
    · rw [lead, if_neg hb]; simp
/-- Behind an identifier's bytes: what is wrong with it is told whatever follows. -/
theorem go_stop (pre : Bool) (l : List UInt8) (acc : List (List UInt8)) (n : Nat) (hf : fault (l.take (lead l)) acc.length pre ≠ 0) : go pre l [] acc n = (fault (l.take (lead l)) acc.length pre, 0, []) := by
  rw [go_lead, List.nil_append]
  rcases Nat.lt_or_ge (lead l) l.length with h | h
  · rw [drop_getD l _ h]
    refine go_bad ?_ hf
    have h1 := lead_skip l (lead l) (Nat.le_of_lt h) (fun j hj => ?_)
    · rw [drop_getD l _ h, lead] at h1
      split at h1
      · omega
      · rename_i h2; simpa using h2
    · have : ∀ (l : List UInt8) j, j < lead l → isId (l.getD j 0) = true := by
        intro l
        induction l with
        | nil => intro j hj; simp [lead] at hj
        | cons b r ih =>
          intro j hj
          rw [lead] at hj
          split at hj
          · rename_i hb
            cases j with
            | zero => simpa using hb
            | succ j => simpa using ih j (by omega)
          · omega
      exact this l j hj
  · rw [List.drop_eq_nil_of_le h, go, shut, if_neg hf]

/-- Digits without the 0s in front. -/
def numeral (l : List UInt8) : List UInt8 := if (Lib.trimLeftB l 48).length = 0 then [48] else Lib.trimLeftB l 48

theorem trim_val (l : List UInt8) : val (Lib.trimLeftB l 48) = val l := by
  unfold Lib.trimLeftB
  induction l with
  | nil => rfl
  | cons b r ih =>
    rw [List.dropWhile_cons]
    split
    · rename_i hb
      have e : b = 48 := by simpa using hb
      rw [ih, val_cons, e]; simp
    · rfl
theorem trim_dig {l : List UInt8} (h : AllDig l) : AllDig (Lib.trimLeftB l 48) := by
  intro b hb
  exact h b ((List.dropWhile_sublist _).subset hb)
theorem trim_pad (l : List UInt8) : pad (Lib.trimLeftB l 48) = false := by
  rw [pad_no]
  rintro ⟨h1, h2⟩
  unfold Lib.trimLeftB at h1 h2
  induction l with
  | nil => simp at h1
  | cons b r ih =>
    rw [List.dropWhile_cons] at h1 h2
    split at h1
    · rename_i hb
      rw [if_pos hb] at h2
      exact ih h1 h2
    · rename_i hb
      rw [if_neg hb] at h2
      have : b.toNat = (48 : UInt8).toNat := by simpa using h2
      exact hb (by simp [UInt8.toNat_inj.1 this])
theorem numeral_num {l : List UInt8} (h : AllDig l) : isNum (numeral l) = true := by
  unfold numeral
  split
  · decide
  · rename_i h0
    rw [isNum_iff]
    exact ⟨by omega, run_all (trim_dig h), trim_pad l⟩
theorem numeral_val (l : List UInt8) : val (numeral l) = val l := by
  unfold numeral
  split
  · rename_i h0
    have e := List.eq_nil_of_length_eq_zero h0
    have := trim_val l
    rw [e] at this
    rw [← this]; decide
  · exact trim_val l

/-- How two identifiers stand. -/
def cmpId (a b : List UInt8) : Int :=
  if numeric a = true then
    if numeric b = true then (if ordN (val a) (val b) = 0 then ordN a.length b.length else ordN (val a) (val b))
    else -1
  else if numeric b = true then 1 else Lib.compareBytes a b

theorem cmp_bytes_trans : ∀ (a b c : List UInt8), Lib.compareBytes a b ≤ 0 → Lib.compareBytes b c ≤ 0 → Lib.compareBytes a c ≤ 0 := by
  intro a
  induction a with
  | nil => intro b c _ _; cases c <;> simp [Lib.compareBytes]
  | cons x a ih =>
    intro b c h1 h2
    cases b with
    | nil => simp [Lib.compareBytes] at h1
    | cons y b =>
      cases c with
      | nil => simp [Lib.compareBytes] at h2
      | cons z c =>
        unfold Lib.compareBytes at h1 h2 ⊢
        simp only [UInt8.lt_iff_toNat_lt] at h1 h2 ⊢
        by_cases hxy : x.toNat < y.toNat
        · by_cases hyz : y.toNat < z.toNat
          · rw [if_pos (by omega)]; omega
          · by_cases hzy : z.toNat < y.toNat
            · rw [if_neg hyz, if_pos hzy] at h2; omega
            · rw [if_pos (by omega)]; omega
        · by_cases hyx : y.toNat < x.toNat
          · rw [if_neg hxy, if_pos hyx] at h1; omega
          · rw [if_neg hxy, if_neg hyx] at h1
            by_cases hyz : y.toNat < z.toNat
            · rw [if_pos (by omega)]; omega
            · by_cases hzy : z.toNat < y.toNat
              · rw [if_neg hyz, if_pos hzy] at h2; omega
              · rw [if_neg hyz, if_neg hzy] at h2
                rw [if_neg (by omega), if_neg (by omega)]
                exact ih b c h1 h2

theorem ordN_cases (x y : Nat) : (x < y ∧ ordN x y = -1) ∨ (x = y ∧ ordN x y = 0) ∨ (y < x ∧ ordN x y = 1) := by
  rcases Nat.lt_trichotomy x y with h | h | h
  · exact .inl ⟨h, ordN_lt h⟩
  · exact .inr (.inl ⟨h, ordN_eq h⟩)
  · exact .inr (.inr ⟨h, ordN_gt h⟩)


theorem cmpId_trans (a b c : List UInt8) (h1 : cmpId a b ≤ 0) (h2 : cmpId b c ≤ 0) : cmpId a c ≤ 0 := by
  unfold cmpId at h1 h2 ⊢
  by_cases ha : numeric a = true
  · by_cases hc : numeric c = true
    · by_cases hb : numeric b = true
      · rw [if_pos ha, if_pos hb] at h1
        rw [if_pos hb, if_pos hc] at h2
        rw [if_pos ha, if_pos hc]
        rcases ordN_cases (val a) (val b) with ⟨e1, e2⟩ | ⟨e1, e2⟩ | ⟨e1, e2⟩ <;>
        rcases ordN_cases (val b) (val c) with ⟨g1, g2⟩ | ⟨g1, g2⟩ | ⟨g1, g2⟩ <;>
        rcases ordN_cases (val a) (val c) with ⟨k1, k2⟩ | ⟨k1, k2⟩ | ⟨k1, k2⟩ <;>
        rcases ordN_cases a.length b.length with ⟨e3, e4⟩ | ⟨e3, e4⟩ | ⟨e3, e4⟩ <;>
        rcases ordN_cases b.length c.length with ⟨g3, g4⟩ | ⟨g3, g4⟩ | ⟨g3, g4⟩ <;>
        rcases ordN_cases a.length c.length with ⟨k3, k4⟩ | ⟨k3, k4⟩ | ⟨k3, k4⟩ <;>
        simp [e2, e4] at h1 <;> simp [g2, g4] at h2 <;> simp [k2, k4] <;> omega
      · rw [if_neg hb, if_pos hc] at h2; omega
    · rw [if_pos ha, if_neg hc]; omega
  · by_cases hb : numeric b = true
    · rw [if_neg ha, if_pos hb] at h1; omega
    · rw [if_neg ha, if_neg hb] at h1
      by_cases hc : numeric c = true
      · rw [if_neg hb, if_pos hc] at h2; omega
      · rw [if_neg hb, if_neg hc] at h2
        rw [if_neg ha, if_neg hc]
        exact cmp_bytes_trans a b c h1 h2

/-- How two rows stand. -/
def cmpRows : List (List UInt8) → List (List UInt8) → Int
  | a :: r, b :: s => if cmpId a b = 0 then cmpRows r s else cmpId a b
  | r, s => ordN r.length s.length
theorem cmpRows_nil (s : List (List UInt8)) : cmpRows [] s = ordN 0 s.length := by unfold cmpRows; rfl
theorem cmpRows_nil' (r : List (List UInt8)) : cmpRows r [] = ordN r.length 0 := by cases r <;> simp [cmpRows]
theorem cmpRows_same {a b : List UInt8} {r s : List (List UInt8)} (h : cmpId a b = 0) : cmpRows (a :: r) (b :: s) = cmpRows r s := by rw [cmpRows, if_pos h]
theorem cmpRows_diff {a b : List UInt8} {r s : List (List UInt8)} (h : cmpId a b ≠ 0) : cmpRows (a :: r) (b :: s) = cmpId a b := by rw [cmpRows, if_neg h]

/-! How long a row is. -/
theorem shut_end {pre : Bool} {w : List UInt8} {acc : List (List UInt8)} {n : Nat} : (shut pre w acc n).2.1 ≤ n := by
  unfold shut; split <;> simp
theorem go_end_le (pre : Bool) (l w : List UInt8) (acc : List (List UInt8)) (n : Nat) : (go pre l w acc n).2.1 ≤ n + l.length := by
  induction l generalizing w acc n with
  | nil => rw [go]; exact Nat.le_trans shut_end (by simp)
  | cons b r ih =>
    rw [go, List.length_cons]
    split
    · exact Nat.le_trans (ih _ _ _) (by omega)
    · split
      · split
        · exact Nat.le_trans (ih _ _ _) (by omega)
        · simp
      · exact Nat.le_trans shut_end (by omega)
theorem row_end (l : List UInt8) (p : Nat) (pre : Bool) (hp : p ≤ l.length) : p + (row l p pre).2.1 ≤ l.length := by
  unfold row
  rw [if_neg (by omega), Int.toNat_natCast]
  have := go_end_le pre (l.drop p) [] [] 0
  rw [List.length_drop] at this; omega
theorem row_place (a b : List UInt8) (p : Nat) (pre : Bool) (hp : p ≤ b.length) : row (a ++ b) ((a.length + p : Nat) : Int) pre = row b p pre := by
  have h1 : ¬ (((a.length + p : Nat) : Int) < 0 ∨ ((a ++ b).length : Int) < ((a.length + p : Nat) : Int)) := by simp only [List.length_append]; omega
  have h2 : ¬ ((p : Int) < 0 ∨ (b.length : Int) < (p : Int)) := by omega
  have h3 : (a ++ b).drop (a.length + p) = b.drop p := by
    rw [List.drop_append, List.drop_eq_nil_of_le (by omega), show a.length + p - a.length = p by omega]; rfl
  unfold row
  rw [if_neg h1, if_neg h2, Int.toNat_natCast, Int.toNat_natCast, h3]

/-- Few and short texts. -/
def shortB (xs : List (List UInt8)) : Bool := decide (xs.length ≤ 40 ∧ ∀ x ∈ xs, x.length ≤ 300)
theorem shortB_iff (xs : List (List UInt8)) : shortB xs = true ↔ xs.length ≤ 40 ∧ ∀ x ∈ xs, x.length ≤ 300 := by simp [shortB]
end Go.Proofs.YtgfbflnhjpbceaaGreatDoor.Ident

namespace Go.Proofs.YtgfbflnhjpbceaaGreatDoor.Semver
open Num Ident

/-- A version: three numbers, two rows. -/
structure Ver where
  a : Nat
  b : Nat
  c : Nat
  pre : List (List UInt8)
  build : List (List UInt8)
deriving DecidableEq
def noVer : Ver := ⟨0, 0, 0, [], []⟩
/-- What is wrong, if no point stands at a place. -/
def point (l : List UInt8) (q : Nat) : Nat := if q = l.length then 2 else if byteAt l q ≠ 46 then 3 else 0
/-- The numbers' end: the error, the place, three numbers. -/
abbrev Core := Nat × Nat × Nat × Nat × Nat
def core2 (l : List UInt8) (x y p : Nat) : Core := if (parse l p).2.2 ≠ 0 then ((parse l p).2.2, p, 0, 0, 0) else (0, p + (parse l p).2.1, x, y, (parse l p).1)
def after2 (l : List UInt8) (x y q : Nat) : Core := if point l q ≠ 0 then (point l q, q, 0, 0, 0) else core2 l x y (q + 1)
def core1 (l : List UInt8) (x p : Nat) : Core := if (parse l p).2.2 ≠ 0 then ((parse l p).2.2, p, 0, 0, 0) else after2 l x (parse l p).1 (p + (parse l p).2.1)
def after1 (l : List UInt8) (x q : Nat) : Core := if point l q ≠ 0 then (point l q, q, 0, 0, 0) else core1 l x (q + 1)
/-- Three numerals with a point between two. -/
def core (l : List UInt8) (p : Nat) : Core := if (parse l p).2.2 ≠ 0 then ((parse l p).2.2, p, 0, 0, 0) else after1 l (parse l p).1 (p + (parse l p).2.1)
/-- The row behind a mark: the error, the place, the identifiers. -/
def rowAt (l : List UInt8) (p m : Nat) : Res :=
  if p = l.length ∨ byteAt l p ≠ (m : Int) then (0, p, []) else ((row l ((p + 1 : Nat) : Int) (m == 45)).1, p + 1 + (row l ((p + 1 : Nat) : Int) (m == 45)).2.1, (row l ((p + 1 : Nat) : Int) (m == 45)).2.2)
/-- What Parse answers: the error, the place, the version. -/
abbrev Out := Nat × Nat × Ver
def tail2 (l : List UInt8) (x y z : Nat) (pre : List (List UInt8)) (q : Nat) : Out :=
  if (rowAt l q 43).1 ≠ 0 then ((rowAt l q 43).1, (rowAt l q 43).2.1, noVer) else (0, (rowAt l q 43).2.1, ⟨x, y, z, pre, (rowAt l q 43).2.2⟩)
def tail1 (l : List UInt8) (x y z q : Nat) : Out :=
  if (rowAt l q 45).1 ≠ 0 then ((rowAt l q 45).1, (rowAt l q 45).2.1, noVer) else tail2 l x y z (rowAt l q 45).2.2 (rowAt l q 45).2.1
def inside (l : List UInt8) (p : Nat) : Out :=
  if (core l p).1 ≠ 0 then ((core l p).1, (core l p).2.1, noVer) else tail1 l (core l p).2.2.1 (core l p).2.2.2.1 (core l p).2.2.2.2 (core l p).2.1
def vparse (l : List UInt8) (p : Int) : Out := if p < 0 ∨ (l.length : Int) < p then (1, 0, noVer) else inside l p.toNat

theorem point_lt {l : List UInt8} {q : Nat} (hq : q ≤ l.length) (h : point l q = 0) : q < l.length := by
  unfold point at h
  split at h
  · omega
  · omega
theorem point_end {l : List UInt8} {q : Nat} (h : q = l.length) : point l q = 2 := by unfold point; rw [if_pos h]
theorem point_no {l : List UInt8} {q : Nat} (h : q ≠ l.length) (h2 : byteAt l q ≠ 46) : point l q = 3 := by unfold point; rw [if_neg h, if_pos h2]
theorem point_yes {l : List UInt8} {q : Nat} (h : q ≠ l.length) (h2 : byteAt l q = 46) : point l q = 0 := by unfold point; rw [if_neg h, if_neg (by simp [h2])]

theorem core2_end (l : List UInt8) (x y p : Nat) (hp : p ≤ l.length) : (core2 l x y p).2.1 ≤ l.length := by
  unfold core2; split
  · exact hp
  · exact parse_end l p hp
theorem after2_end (l : List UInt8) (x y q : Nat) (hq : q ≤ l.length) : (after2 l x y q).2.1 ≤ l.length := by
  unfold after2; split
  · exact hq
  · rename_i h; exact core2_end l x y _ (point_lt hq (by simpa using h))
theorem core1_end (l : List UInt8) (x p : Nat) (hp : p ≤ l.length) : (core1 l x p).2.1 ≤ l.length := by
  unfold core1; split
  · exact hp
  · exact after2_end l x _ _ (parse_end l p hp)
theorem after1_end (l : List UInt8) (x q : Nat) (hq : q ≤ l.length) : (after1 l x q).2.1 ≤ l.length := by
  unfold after1; split
  · exact hq
  · rename_i h; exact core1_end l x _ (point_lt hq (by simpa using h))
theorem core_end (l : List UInt8) (p : Nat) (hp : p ≤ l.length) : (core l p).2.1 ≤ l.length := by
  unfold core; split
  · exact hp
  · exact after1_end l _ _ (parse_end l p hp)

theorem rowAt_end (l : List UInt8) (p m : Nat) (hp : p ≤ l.length) : (rowAt l p m).2.1 ≤ l.length := by
  unfold rowAt; split
  · exact hp
  · rename_i h
    have h1 : p + 1 ≤ l.length := by
      have : ¬ p = l.length := fun h2 => h (.inl h2)
      omega
    exact row_end l (p + 1) _ h1
theorem rowAt_none {l : List UInt8} {p m : Nat} (h : p = l.length ∨ byteAt l p ≠ (m : Int)) : rowAt l p m = (0, p, []) := by unfold rowAt; rw [if_pos h]
theorem rowAt_some {l : List UInt8} {p m : Nat} (h1 : p ≠ l.length) (h2 : byteAt l p = (m : Int)) : rowAt l p m = ((row l ((p + 1 : Nat) : Int) (m == 45)).1, p + 1 + (row l ((p + 1 : Nat) : Int) (m == 45)).2.1, (row l ((p + 1 : Nat) : Int) (m == 45)).2.2) := by
  unfold rowAt; rw [if_neg]; rintro (h | h)
  · exact h1 h
  · exact h h2
theorem inside_end (l : List UInt8) (p : Nat) (hp : p ≤ l.length) : (inside l p).2.1 ≤ l.length := by
  unfold inside; split
  · exact core_end l p hp
  · have h1 := core_end l p hp
    unfold tail1; split
    · exact rowAt_end _ _ _ h1
    · have h2 := rowAt_end l _ 45 h1
      unfold tail2; split
      · exact rowAt_end _ _ _ h2
      · exact rowAt_end _ _ _ h2
theorem vparse_end (l : List UInt8) (p : Int) : (vparse l p).2.1 ≤ l.length := by
  unfold vparse; split
  · simp
  · rename_i h; exact inside_end _ _ (by omega)

/-! What stands ahead of a place. -/
theorem byteAt_place (a b : List UInt8) (p : Nat) : byteAt (a ++ b) (a.length + p) = byteAt b p := by
  unfold byteAt List.getD
  rw [List.getElem?_append_right (by omega), show a.length + p - a.length = p by omega]
theorem point_place (a b : List UInt8) (q : Nat) : point (a ++ b) (a.length + q) = point b q := by
  unfold point
  rw [byteAt_place, List.length_append]
  by_cases h : q = b.length
  · rw [if_pos (by omega), if_pos h]
  · rw [if_neg (by omega), if_neg h]
def shift (n : Nat) (k : Core) : Core := (k.1, n + k.2.1, k.2.2)
theorem core2_place (a b : List UInt8) (x y p : Nat) (hp : p ≤ b.length) : core2 (a ++ b) x y (a.length + p) = shift a.length (core2 b x y p) := by
  unfold core2
  rw [parse_place_at a b p hp]
  split
  · rfl
  · unfold shift; simp only [Nat.add_assoc]
theorem after2_place (a b : List UInt8) (x y q : Nat) (hq : q ≤ b.length) : after2 (a ++ b) x y (a.length + q) = shift a.length (after2 b x y q) := by
  unfold after2
  rw [point_place]
  split
  · rfl
  · rename_i h
    exact core2_place a b x y (q + 1) (point_lt hq (by simpa using h))
theorem core1_place (a b : List UInt8) (x p : Nat) (hp : p ≤ b.length) : core1 (a ++ b) x (a.length + p) = shift a.length (core1 b x p) := by
  unfold core1
  rw [parse_place_at a b p hp]
  split
  · rfl
  · rw [Nat.add_assoc]; exact after2_place a b x _ _ (parse_end b p hp)
theorem after1_place (a b : List UInt8) (x q : Nat) (hq : q ≤ b.length) : after1 (a ++ b) x (a.length + q) = shift a.length (after1 b x q) := by
  unfold after1
  rw [point_place]
  split
  · rfl
  · rename_i h
    exact core1_place a b x (q + 1) (point_lt hq (by simpa using h))
theorem core_place (a b : List UInt8) (p : Nat) (hp : p ≤ b.length) : core (a ++ b) (a.length + p) = shift a.length (core b p) := by
  unfold core
  rw [parse_place_at a b p hp]
  split
  · rfl
  · rw [Nat.add_assoc]; exact after1_place a b _ _ (parse_end b p hp)
theorem rowAt_place (a b : List UInt8) (p m : Nat) (hp : p ≤ b.length) : rowAt (a ++ b) (a.length + p) m = ((rowAt b p m).1, a.length + (rowAt b p m).2.1, (rowAt b p m).2.2) := by
  unfold rowAt
  rw [byteAt_place, List.length_append]
  by_cases h : p = b.length ∨ byteAt b p ≠ (m : Int)
  · rw [if_pos (by rcases h with h | h; (· left; omega); (· right; exact h)), if_pos h]
  · have h1 : p + 1 ≤ b.length := by
      have : ¬ p = b.length := fun h2 => h (.inl h2)
      omega
    rw [if_neg (by rintro (h2 | h2); (· exact h (.inl (by omega))); (· exact h (.inr h2))), if_neg h, Nat.add_assoc a.length p 1, row_place a b (p + 1) _ h1]
    simp only [Nat.add_assoc]
def move (n : Nat) (r : Out) : Out := (r.1, n + r.2.1, r.2.2)
theorem inside_place (a b : List UInt8) (p : Nat) (hp : p ≤ b.length) : inside (a ++ b) (a.length + p) = move a.length (inside b p) := by
  unfold inside
  rw [core_place a b p hp]
  have h1 := core_end b p hp
  unfold shift
  simp only
  split
  · rfl
  · unfold tail1
    rw [rowAt_place a b _ 45 h1]
    have h2 := rowAt_end b _ 45 h1
    simp only
    split
    · rfl
    · unfold tail2
      rw [rowAt_place a b _ 43 h2]
      simp only
      split <;> rfl
theorem vparse_place (a b : List UInt8) : vparse (a ++ b) a.length = move a.length (vparse b 0) := by
  unfold vparse
  rw [if_neg (by simp only [List.length_append]; omega), if_neg (by omega), Int.toNat_natCast]
  exact inside_place a b 0 (Nat.zero_le _)
end Go.Proofs.YtgfbflnhjpbceaaGreatDoor.Semver

namespace Go.Proofs.YtgfbflnhjpbceaaGreatDoor.Ident
open Go.RowKit Num

/-- Is each text, from place i on, an identifier that may stand there? -/
def goodFrom (pre : Bool) : List (List UInt8) → Nat → Bool
  | [], _ => true
  | x :: r, i => fault x i pre == 0 && lead x == x.length && goodFrom pre r (i + 1)
theorem goodFrom_yes {pre : Bool} {x : List UInt8} {r : List (List UInt8)} {i : Nat} (h1 : fault x i pre = 0) (h2 : lead x = x.length) : goodFrom pre (x :: r) i = goodFrom pre r (i + 1) := by
  rw [goodFrom]; simp [h1, h2]
theorem goodFrom_no {pre : Bool} {x : List UInt8} {r : List (List UInt8)} {i : Nat} (h : fault x i pre ≠ 0 ∨ lead x ≠ x.length) : goodFrom pre (x :: r) i = false := by
  rw [goodFrom]
  rcases h with h | h
  · rw [beq_eq_false_iff_ne.2 h]; rfl
  · rw [beq_eq_false_iff_ne.2 h]; simp
theorem goodFrom_step {pre : Bool} {xs : List (List UInt8)} {k : Nat} (hk : k < xs.length) (h1 : fault (xs.getD k []) k pre = 0) (h2 : lead (xs.getD k []) = (xs.getD k []).length) : goodFrom pre (xs.drop k) k = goodFrom pre (xs.drop (k + 1)) (k + 1) := by
  have e : xs.drop k = xs.getD k [] :: xs.drop (k + 1) := by
    rw [List.drop_eq_getElem_cons hk]; simp [List.getD, List.getElem?_eq_getElem hk]
  rw [e]; exact goodFrom_yes h1 h2
theorem goodFrom_stop {pre : Bool} {xs : List (List UInt8)} {k : Nat} (hk : k < xs.length) (h : fault (xs.getD k []) k pre ≠ 0 ∨ lead (xs.getD k []) ≠ (xs.getD k []).length) : goodFrom pre (xs.drop k) k = false := by
  have e : xs.drop k = xs.getD k [] :: xs.drop (k + 1) := by
    rw [List.drop_eq_getElem_cons hk]; simp [List.getD, List.getElem?_eq_getElem hk]
  rw [e]; exact goodFrom_no h
end Go.Proofs.YtgfbflnhjpbceaaGreatDoor.Ident

namespace Go.Proofs.YtgfbflnhjpbceaaGreatDoor.Ident
open Go.RowKit Num

/-- A text's bytes. -/
def mk (l : List UInt8) : ByteArray := ⟨l.toArray⟩
theorem mk_list (l : List UInt8) : (mk l).data.toList = l := rfl
theorem mk_size (l : List UInt8) : (mk l).size = l.length := rfl

/-- Texts as cells. -/
def strs (xs : List (List UInt8)) : List Value := xs.map fun l => Value.string (mk l)
theorem strs_length (xs : List (List UInt8)) : (strs xs).length = xs.length := by simp [strs]
theorem strs_append (xs ys : List (List UInt8)) : strs (xs ++ ys) = strs xs ++ strs ys := by simp [strs]
theorem strs_one (xs : List (List UInt8)) : ∀ u ∈ strs xs, u.oneCell' = true := by
  intro u hu
  simp only [strs, List.mem_map] at hu
  obtain ⟨b, _, rfl⟩ := hu
  rfl
theorem strs_at (xs : List (List UInt8)) (j : Nat) (hj : j < xs.length) : (strs xs)[j]? = some (.string (mk (xs.getD j []))) := by
  simp [strs, List.getElem?_eq_getElem hj]

/-- The slice of n texts at A reads as the list xs; a slice without texts may lie anywhere. -/
def SRow (w : World) (A : Option Addr) (n : Nat) (xs : List (List UInt8)) : Prop :=
  xs.length = n ∧ (0 < n → ∃ b o, A = some ⟨b, o, none⟩ ∧ b < w.heap.size ∧ ∀ j, j < n → w.cell? ⟨b, o + j, none⟩ = some (.string (mk (xs.getD j []))))

theorem SRow.none_ (w : World) (A : Option Addr) : SRow w A 0 [] := ⟨rfl, fun h => by omega⟩
theorem SRow.kept {w w' : World} {A : Option Addr} {n : Nat} {xs : List (List UInt8)} (h : SRow w A n xs) (hb : Below w.heap.size w w') : SRow w' A n xs := by
  refine ⟨h.1, fun h0 => ?_⟩
  obtain ⟨b, o, e, hlt, hc⟩ := h.2 h0
  exact ⟨b, o, e, Nat.lt_of_lt_of_le hlt hb.size, fun j hj => (hb.cell (p := ⟨b, o + j, none⟩) hlt).trans (hc j hj)⟩
theorem SRow.nil {w : World} {n : Nat} {xs : List (List UInt8)} (h : SRow w none n xs) : n = 0 ∧ xs = [] := by
  rcases Nat.eq_zero_or_pos n with h0 | h0
  · exact ⟨h0, List.eq_nil_of_length_eq_zero (by rw [h.1]; exact h0)⟩
  · obtain ⟨b, o, e, _⟩ := h.2 h0
    cases e
theorem SRow.news {w : World} {ad : Addr} {n : Nat} {xs : List (List UInt8)} (h : SRow w (some ad) n xs) : ∀ j u, (strs xs)[j]? = some u → w.cell? (ad.add j) = some u := by
  intro j u hu
  have hj : j < xs.length := by
    have := (List.getElem?_eq_some_iff.1 hu).1
    rwa [strs_length] at this
  obtain ⟨b, o, e, _, hc⟩ := h.2 (by have := h.1; omega)
  injection e with e
  subst e
  rw [strs_at xs j hj] at hu
  injection hu with hu
  rw [add_none, hc j (by rw [← h.1]; exact hj), hu]
theorem SRow.of_own {w : World} {base : Nat} {v : Value} {n : Nat} {xs : List (List UInt8)} (h : w.ownsRow base 9 1 v n (strs xs)) :
    ∃ A c, v = .slice A n c ∧ n ≤ c ∧ SRow w A n xs := by
  have hl : xs.length = n := by have := h.1; rw [strs_length] at this; omega
  have hcs := fun g => h.cells (g := g)
  rcases h.2 with ⟨rfl, rfl⟩ | ⟨g, cap, cur, rfl, _, hg, hnc, hcm, _, _⟩
  · exact ⟨none, 0, rfl, Nat.le_refl _, hl, fun h0 => by omega⟩
  · refine ⟨_, cap, rfl, hnc, hl, fun h0 => ⟨g, 0, rfl, (Array.getElem?_eq_some_iff.1 hg).1, fun j hj => ?_⟩⟩
    have := hcs g rfl j _ (strs_at xs j (by omega))
    rwa [add_none] at this

/-- What the call owns is kept where nothing below has turned. -/
theorem own_below {w w' : World} {base : Nat} {e : TypeId} {size : Nat} {v : Value} {n : Nat} {xs : List Value} (h : w.ownsRow base e size v n xs) (hb : Below w.heap.size w w') : w'.ownsRow base e size v n xs :=
  h.kept (row := none) ⟨hb.os, hb.tape, hb.output, hb.size, fun i hi _ => hb.block i hi⟩ (by cases v.ownBlock <;> simp)

theorem strInfo : (Tryz.prog.info? 9).map (fun i => (i.zero, i.size, i.bytes)) = some (some (.string ⟨#[]⟩), 1, 16) := by kernel_rfl

theorem run_append_strs (w : World) (ty : TypeId) (base : Nat) (v : Value) (n : Nat) (xs : List (List UInt8)) (hown : w.ownsRow base 9 1 v n (strs xs))
    (A : Option Addr) (m c : Nat) (ys : List (List UInt8)) (hr : SRow w A m ys) (hnil : A = none → c = 0) (hb : (n + m) * 16 ≤ 140737488355328) (hbase : base ≤ w.heap.size) :
    ∃ v' w', (Builtin.append_ #[23, 23] ty #[v, .slice A m c]).run Tryz.prog w = .ok v' w' ∧ w'.ownsRow base 9 1 v' (n + m) (strs (xs ++ ys)) ∧ w.grownBy w' v.ownBlock := by
  obtain ⟨i, hi, hz, hs, hby⟩ := info_parts strInfo
  cases A with
  | none =>
    obtain ⟨rfl, rfl⟩ := hr.nil
    obtain rfl := hnil rfl
    exact ⟨v, w, run_append_owned_none (P := Tryz.prog) (w := w) base 23 ty 9 i 1 Tryz.underlying23 hi v n _ hown, by simpa using hown, World.grownBy.refl w _⟩
  | some ad =>
    obtain ⟨v', w', h1, h2, h3, _⟩ := run_append_own (P := Tryz.prog) w base 23 ty 9 i (.string ⟨#[]⟩) 1 16 Tryz.underlying23 hi hz hs hby rfl (by omega) v n _ hown ad m c (strs ys)
      (by rw [strs_length, hr.1]; omega) hr.news (strs_one ys) (by unfold maxLen; omega) hb hbase
    exact ⟨v', w', h1, by rw [strs_append]; exact h2, h3⟩

theorem wpList_append_strs (w : World) {ops : Array Oper} {rest : List Oper} {o : Oper} {a : Act} {Q : Exit → Act → World → Prop} (hgd : o.guard = none) (s x : Operand)
    (ho : o.op = .call { callee := .builtin .append, args := #[s, x], argTypes := #[23, 23] })
    (base : Nat) (v : Value) (n : Nat) (xs : List (List UInt8)) (hs : a.eval s = v) (hown : w.ownsRow base 9 1 v n (strs xs))
    (A : Option Addr) (m c : Nat) (ys : List (List UInt8)) (hx : a.eval x = .slice A m c) (hr : SRow w A m ys) (hnil : A = none → c = 0) (hb : (n + m) * 16 ≤ 140737488355328) (hbase : base ≤ w.heap.size)
    (h : ∀ v' w', w'.ownsRow base 9 1 v' (n + m) (strs (xs ++ ys)) → Below base w w' → wpList Tryz.prog ops Q rest (a.put o.dst v') w') : wpList Tryz.prog ops Q (o :: rest) a w := by
  refine wpList_plain hgd fun K hK => ?_
  obtain ⟨v', w', hrun, h2, h3⟩ := run_append_strs w o.type base v n xs hown A m c ys hr hnil hb hbase
  unfold Oper.wp execOp
  simp only [ho, resolve, invoke, builtin, Sem.run_bind, Sem.run_pure, Result.andThen_ok, List.map_toArray, List.map_cons, List.map_nil, hs, hx, hrun]
  exact hK _ _ (h v' w' h2 ((Below.refl base w).grown h3 hbase fun k hk => (hown.lt k hk).1))

/-- A new block of one text. -/
theorem SRow.one (w : World) (l : List UInt8) : SRow (w.alloc (.cells #[.string (mk l)] 9)) (some ⟨w.heap.size, 0, none⟩) 1 [l] := by
  refine ⟨rfl, fun _ => ⟨w.heap.size, 0, rfl, by simp, fun j hj => ?_⟩⟩
  obtain rfl : j = 0 := by omega
  have hh : (w.alloc (.cells #[.string (mk l)] 9)).heap[w.heap.size]? = some (.cells #[.string (mk l)] 9) := by
    show (w.heap.push _)[w.heap.size]? = _
    simp
  exact cell_of_row _ _ _ #[.string (mk l)] _ _ hh

/-- string(b). -/
theorem run_text {w : World} {A : Option Addr} {n : Nat} {l : List UInt8} (h : Row w A n l) (c : Nat) :
    (convert 68 9 (.slice A n c)).run Tryz.prog w = .ok (.string (mk l)) w := by
  cases A with
  | none =>
    obtain ⟨rfl, rfl⟩ := h.nil
    exact Lib.run_convert_nil_bytes (P := Tryz.prog) w 68 9 5 c Tryz.underlying68 Tryz.underlying5 Tryz.underlying9
  | some ad =>
    have e := run_convert_bytes_back (P := Tryz.prog) w 68 9 5 ad c l Tryz.underlying68 Tryz.underlying5 Tryz.underlying9 (fun j hj => by
      have := h.news j _ (cells_at l j hj)
      rw [this]; unfold byteAt; simp [List.getElem?_eq_getElem hj])
    rwa [h.1] at e

/-- Where b[k:] lies. -/
theorem Row.from_ {w : World} {A A' : Option Addr} {n : Nat} {l : List UInt8} (h : Row w A n l) (k c : Nat) (hk : k ≤ n) (hc : n ≤ c) (hA : (if c = k then A else A.map (fun x => x.add k)) = A') : Row w A' (n - k) (l.drop k) := by
  have := h.piece (A' := A') k (n - k) (by omega) (fun h0 b o e => by rw [← hA, if_neg (by omega)]; exact map_add k A b o e)
  rwa [List.take_of_length_le (by rw [List.length_drop, h.1]; exact Nat.le_refl _)] at this
/-- Where b[k:k+m] lies. -/
theorem Row.part_ {w : World} {A A' : Option Addr} {n : Nat} {l : List UInt8} (h : Row w A n l) (k m c : Nat) (hk : k + m ≤ n) (hc : n ≤ c) (hA : (if c = k then A else A.map (fun x => x.add k)) = A') : Row w A' m ((l.drop k).take m) :=
  h.piece (A' := A') k m hk (fun h0 b o e => by rw [← hA, if_neg (by omega)]; exact map_add k A b o e)

/-- Are two rows the same? -/
def sameB (xs ys : List (List UInt8)) : Bool := xs == ys
theorem sameB_iff (xs ys : List (List UInt8)) : sameB xs ys = true ↔ xs = ys := by simp [sameB]
theorem sameB_no {xs ys : List (List UInt8)} (h : xs ≠ ys) : sameB xs ys = false := by simp [sameB, h]

/-- A store into a cell that holds no text leaves rows of texts as they are. -/
theorem SRow.set {w : World} {A : Option Addr} {n : Nat} {xs : List (List UInt8)} (h : SRow w A n xs) {p : Addr} {u : Value} (hu : w.cell? p = some u) (hs : ∀ s, u ≠ .string s) (v : Value) : SRow (w.setCell p v) A n xs := by
  refine ⟨h.1, fun h0 => ?_⟩
  obtain ⟨b, o, e, hlt, hc⟩ := h.2 h0
  refine ⟨b, o, e, by simpa using hlt, fun j hj => ?_⟩
  rw [World.cell?_setCell_other]
  · exact hc j hj
  · intro he
    rw [he, hc j hj] at hu
    injection hu with hu
    exact hs _ hu.symm
theorem cell_beside (w : World) (b i j : Nat) (v : Value) (h : i ≠ j) : (w.setCell ⟨b, i, none⟩ v).cell? ⟨b, j, none⟩ = w.cell? ⟨b, j, none⟩ :=
  World.cell?_setCell_other _ _ _ _ (by intro e; injection e with _ e; exact h e)
/-- Five stores, one behind the other. -/
theorem SRow.set5 {w : World} {A : Option Addr} {n : Nat} {xs : List (List UInt8)} (h : SRow w A n xs) {b : Nat} {u0 u1 u2 u3 u4 : Value}
    (h0 : w.cell? ⟨b, 0, none⟩ = some u0) (h1 : w.cell? ⟨b, 1, none⟩ = some u1) (h2 : w.cell? ⟨b, 2, none⟩ = some u2) (h3 : w.cell? ⟨b, 3, none⟩ = some u3) (h4 : w.cell? ⟨b, 4, none⟩ = some u4)
    (s0 : ∀ s, u0 ≠ .string s) (s1 : ∀ s, u1 ≠ .string s) (s2 : ∀ s, u2 ≠ .string s) (s3 : ∀ s, u3 ≠ .string s) (s4 : ∀ s, u4 ≠ .string s) (v0 v1 v2 v3 v4 : Value) :
    SRow (((((w.setCell ⟨b, 0, none⟩ v0).setCell ⟨b, 1, none⟩ v1).setCell ⟨b, 2, none⟩ v2).setCell ⟨b, 3, none⟩ v3).setCell ⟨b, 4, none⟩ v4) A n xs := by
  refine SRow.set (SRow.set (SRow.set (SRow.set (SRow.set h h0 s0 v0) (u := u1) ?_ s1 v1) (u := u2) ?_ s2 v2) (u := u3) ?_ s3 v3) (u := u4) ?_ s4 v4
  · exact (cell_beside _ _ _ _ _ (by omega)).trans h1
  · exact (cell_beside _ _ _ _ _ (by omega)).trans ((cell_beside _ _ _ _ _ (by omega)).trans h2)
  · exact (cell_beside _ _ _ _ _ (by omega)).trans ((cell_beside _ _ _ _ _ (by omega)).trans ((cell_beside _ _ _ _ _ (by omega)).trans h3))
  · exact (cell_beside _ _ _ _ _ (by omega)).trans ((cell_beside _ _ _ _ _ (by omega)).trans ((cell_beside _ _ _ _ _ (by omega)).trans ((cell_beside _ _ _ _ _ (by omega)).trans h4)))

/-- A block of 5 cells, none frozen. -/
def At5 (W : World) (b : Nat) (u0 u1 u2 u3 u4 : Value) : Prop := b < W.heap.size ∧ (∀ o, W.frozen? ⟨b, o, none⟩ = false) ∧ W.cell? ⟨b, 0, none⟩ = some u0 ∧ W.cell? ⟨b, 1, none⟩ = some u1 ∧ W.cell? ⟨b, 2, none⟩ = some u2 ∧ W.cell? ⟨b, 3, none⟩ = some u3 ∧ W.cell? ⟨b, 4, none⟩ = some u4
theorem At5.new (w : World) (t : TypeId) (u0 u1 u2 u3 u4 : Value) : At5 (w.alloc (.cells #[u0, u1, u2, u3, u4] t)) w.heap.size u0 u1 u2 u3 u4 := by
  unfold At5
  refine ⟨by simp, fun o => by simp [go_sem], ?_, ?_, ?_, ?_, ?_⟩ <;> simp [go_sem]
theorem At5.kept {W W' : World} {b B : Nat} {u0 u1 u2 u3 u4 : Value} (h : At5 W b u0 u1 u2 u3 u4) (hb : Below B W W') (hB : b < B) : At5 W' b u0 u1 u2 u3 u4 := by
  obtain ⟨h1, h2, c0, c1, c2, c3, c4⟩ := h
  exact ⟨Nat.lt_of_lt_of_le h1 hb.size, fun o => (hb.frozen (p := ⟨b, o, none⟩) hB).trans (h2 o), (hb.cell (p := ⟨b, 0, none⟩) hB).trans c0, (hb.cell (p := ⟨b, 1, none⟩) hB).trans c1, (hb.cell (p := ⟨b, 2, none⟩) hB).trans c2, (hb.cell (p := ⟨b, 3, none⟩) hB).trans c3, (hb.cell (p := ⟨b, 4, none⟩) hB).trans c4⟩

/-- A block of 3 cells, none frozen. -/
def At3 (W : World) (b : Nat) (u0 u1 u2 : Value) : Prop := b < W.heap.size ∧ (∀ o, W.frozen? ⟨b, o, none⟩ = false) ∧ W.cell? ⟨b, 0, none⟩ = some u0 ∧ W.cell? ⟨b, 1, none⟩ = some u1 ∧ W.cell? ⟨b, 2, none⟩ = some u2
theorem At3.new (w : World) (t : TypeId) (u0 u1 u2 : Value) : At3 (w.alloc (.cells #[u0, u1, u2] t)) w.heap.size u0 u1 u2 := by
  unfold At3
  refine ⟨by simp, fun o => by simp [go_sem], ?_, ?_, ?_⟩ <;> simp [go_sem]
theorem At3.kept {W W' : World} {b B : Nat} {u0 u1 u2 : Value} (h : At3 W b u0 u1 u2) (hb : Below B W W') (hB : b < B) : At3 W' b u0 u1 u2 := by
  obtain ⟨h1, h2, c0, c1, c2⟩ := h
  exact ⟨Nat.lt_of_lt_of_le h1 hb.size, fun o => (hb.frozen (p := ⟨b, o, none⟩) hB).trans (h2 o), (hb.cell (p := ⟨b, 0, none⟩) hB).trans c0, (hb.cell (p := ⟨b, 1, none⟩) hB).trans c1, (hb.cell (p := ⟨b, 2, none⟩) hB).trans c2⟩
/-- Five stores, one behind the other, over a world. -/
def set5 (w : World) (b : Nat) (v0 v1 v2 v3 v4 : Value) : World := ((((w.setCell ⟨b, 0, none⟩ v0).setCell ⟨b, 1, none⟩ v1).setCell ⟨b, 2, none⟩ v2).setCell ⟨b, 3, none⟩ v3).setCell ⟨b, 4, none⟩ v4
theorem At5.set5 {W : World} {b : Nat} {u0 u1 u2 u3 u4 : Value} (h : At5 W b u0 u1 u2 u3 u4) (v0 v1 v2 v3 v4 : Value) : At5 (set5 W b v0 v1 v2 v3 v4) b v0 v1 v2 v3 v4 := by
  obtain ⟨h1, h2, c0, c1, c2, c3, c4⟩ := h
  unfold Ident.set5
  refine ⟨by simpa using h1, fun o => by simp [go_sem, h2], ?_, ?_, ?_, ?_, ?_⟩ <;> simp [go_sem, c0, c1, c2, c3, c4]
end Go.Proofs.YtgfbflnhjpbceaaGreatDoor.Ident

namespace Go.Proofs.YtgfbflnhjpbceaaGreatDoor.Ident
open Go.RowKit Num

/-- The identifiers with points between. -/
def joined (xs : List (List UInt8)) : List UInt8 := Lib.join xs [46]
theorem joinTail_snoc (r : List (List UInt8)) (x : List UInt8) : Lib.joinTail [46] (r ++ [x]) = Lib.joinTail [46] r ++ ([46] ++ x) := by
  simp [Lib.joinTail]
theorem joined_nil : joined [] = [] := rfl
theorem joined_one (x : List UInt8) : joined [x] = x := Lib.join_one x [46]
theorem joined_cons (x y : List UInt8) (r : List (List UInt8)) : joined (x :: y :: r) = x ++ 46 :: joined (y :: r) := by
  unfold joined
  rw [Lib.join_cons, Lib.join_cons]; simp [Lib.joinTail]
theorem joined_snoc (xs : List (List UInt8)) (x : List UInt8) (h : xs ≠ []) : joined (xs ++ [x]) = joined xs ++ [46] ++ x := by
  cases xs with
  | nil => exact absurd rfl h
  | cons a r =>
    unfold joined
    rw [List.cons_append, Lib.join_cons, Lib.join_cons, joinTail_snoc]; simp
theorem joined_le : ∀ (xs : List (List UInt8)), (∀ x ∈ xs, x.length ≤ 300) → (joined xs).length ≤ 301 * xs.length
  | [], _ => by simp [joined_nil]
  | [x], h => by rw [joined_one]; have := h x (by simp); simp; omega
  | x :: y :: r, h => by
    rw [joined_cons]
    have h1 := h x (by simp)
    have h2 := joined_le (y :: r) (fun z hz => h z (by simp [hz]))
    simp only [List.length_append, List.length_cons] at h2 ⊢
    omega
theorem mk_cat (t x : List UInt8) : mk t ++ mk x = mk (t ++ x) := by
  have : (mk t ++ mk x).data.toList = t ++ x := by
    rw [ByteArray.data_append, Array.toList_append]; rfl
  rw [← this]; rfl
end Go.Proofs.YtgfbflnhjpbceaaGreatDoor.Ident

namespace Go.Proofs.YtgfbflnhjpbceaaGreatDoor.Semver
open Go.RowKit Num Ident

/-- Are all three numbers held? -/
def heldB (x y z : Nat) : Bool := decide (x ≤ maxField ∧ y ≤ maxField ∧ z ≤ maxField)
theorem heldB_yes {x y z : Nat} (hx : x ≤ maxField) (hy : y ≤ maxField) (hz : z ≤ maxField) : heldB x y z = true := decide_eq_true ⟨hx, hy, hz⟩
theorem heldB_no {x y z : Nat} (h : ¬ (x ≤ maxField ∧ y ≤ maxField ∧ z ≤ maxField)) : heldB x y z = false := decide_eq_false h
/-- Is a version right? -/
def goodV (v : Ver) : Bool := heldB v.a v.b v.c && (goodFrom true v.pre 0 && goodFrom false v.build 0)
theorem field_le {x : Nat} (h : (x : Int) ≤ 9223372036854775807) : x ≤ maxField := by unfold maxField; omega
theorem field_no {x : Nat} (h : ¬ (x : Int) ≤ 9223372036854775807) : ¬ x ≤ maxField := by unfold maxField; omega
/-- Are two versions the same? -/
def sameV (u v : Ver) : Bool := decide (u.a = v.a ∧ u.b = v.b ∧ u.c = v.c) && (sameB u.pre v.pre && sameB u.build v.build)
theorem sameV_self (v : Ver) : sameV v v = true := by unfold sameV; rw [(sameB_iff _ _).2 rfl, (sameB_iff _ _).2 rfl]; simp
/-- A row's text behind its mark. -/
def rowText (m : UInt8) (xs : List (List UInt8)) : List UInt8 := if xs.length = 0 then [] else m :: joined xs
/-- A version's text. -/
def vtext (v : Ver) : List UInt8 := Lib.decDigits v.a ++ [46] ++ Lib.decDigits v.b ++ [46] ++ Lib.decDigits v.c ++ rowText 45 v.pre ++ rowText 43 v.build
theorem rowText_none {m : UInt8} {xs : List (List UInt8)} (h : xs.length = 0) : rowText m xs = [] := by unfold rowText; rw [if_pos h]
theorem rowText_some {m : UInt8} {xs : List (List UInt8)} (h : xs.length ≠ 0) : rowText m xs = [m] ++ joined xs := by unfold rowText; rw [if_neg h]; rfl
theorem short_joined {xs : List (List UInt8)} (h : shortB xs = true) : (joined xs).length ≤ 12040 := by
  rw [shortB_iff] at h
  have := joined_le xs h.2
  omega
theorem rowText_le {m : UInt8} {xs : List (List UInt8)} (h : shortB xs = true) : (rowText m xs).length ≤ 12041 := by
  unfold rowText
  split
  · simp
  · have := short_joined h
    simp; exact this
theorem dec_le (u : Nat) (h : u < 18446744073709551616) : (Lib.decDigits u).length ≤ 20 := by rw [Lib.decDigits_length]; exact Lib.nDigits_le20 u h
theorem held_not1 {x y z : Nat} (h : ¬ (x : Int) < 9223372036854775808) : heldB x y z = false := heldB_no fun hh => h (by have := hh.1; unfold maxField at this; omega)
theorem held_not2 {x y z : Nat} (h : ¬ (y : Int) < 9223372036854775808) : heldB x y z = false := heldB_no fun hh => h (by have := hh.2.1; unfold maxField at this; omega)
theorem held_not3 {x y z : Nat} (h : ¬ (z : Int) < 9223372036854775808) : heldB x y z = false := heldB_no fun hh => h (by have := hh.2.2; unfold maxField at this; omega)
theorem held_all {x y z : Nat} (h1 : (x : Int) < 9223372036854775808) (h2 : (y : Int) < 9223372036854775808) (h3 : (z : Int) < 9223372036854775808) : heldB x y z = true :=
  heldB_yes (by unfold maxField; omega) (by unfold maxField; omega) (by unfold maxField; omega)
end Go.Proofs.YtgfbflnhjpbceaaGreatDoor.Semver

namespace Go.Proofs.YtgfbflnhjpbceaaGreatDoor.Range
open Num Ident Semver

/-- A range: its kind, its version, its ranges. -/
inductive Rng where
  | mk (kind : Int) (v : Ver) (l : List Rng)
def Rng.kind : Rng → Int
  | .mk k _ _ => k
def Rng.ver : Rng → Ver
  | .mk _ v _ => v
def Rng.subs : Rng → List Rng
  | .mk _ _ l => l
def noRng : Rng := .mk 0 noVer []
instance : Inhabited Rng := ⟨noRng⟩

/-- Is this byte a blank? -/
def blankB (b : UInt8) : Bool := b == 32 || b == 9
/-- What stands behind blanks. -/
def blanks : List UInt8 → List UInt8
  | [] => []
  | b :: s => if blankB b then blanks s else b :: s
/-- Does a text come next? -/
def stands (t s : List UInt8) : Bool := t.isPrefixOf s
/-- Is one of some bytes next? -/
def oneOf (some s : List UInt8) : Bool := match s with
  | [] => false
  | b :: _ => decide (b ∈ some)
/-- What is wrong, where something else is to come next. -/
def lackN (s : List UInt8) : Nat := if s = [] then 5 else 3
def digits : List UInt8 := [48, 49, 50, 51, 52, 53, 54, 55, 56, 57]
def starts : List UInt8 := [40, 33, 42, 62, 60, 61, 94, 126, 48, 49, 50, 51, 52, 53, 54, 55, 56, 57]
def ops : List (List UInt8) := [[62, 61], [62], [60, 61], [60], [61], [33, 61], [94], [126]]
/-- The first op from a place of the table on that comes next, and its kind. -/
def opFrom (s : List UInt8) : List (List UInt8) → Int → Int × List UInt8
  | [], _ => (5, [])
  | t :: r, k => if stands t s then (k, t) else opFrom s r (k + 1)
def opOf (s : List UInt8) : Int × List UInt8 := opFrom s ops 1
/-- What a reader answers: the error, what stands from its place on, the range. -/
abbrev Out := Nat × List UInt8 × Rng
/-- A version, and the blanks behind it. -/
def verAt (kind : Int) (s : List UInt8) : Out :=
  if oneOf digits s = true then
    if (vparse s 0).1 ≠ 0 then ((vparse s 0).1, s.drop (vparse s 0).2.1, noRng) else (0, blanks (s.drop (vparse s 0).2.1), .mk kind (vparse s 0).2.2 [])
  else (lackN s, s, noRng)
/-- Of one part it, else all of them. -/
def whole (kind : Int) (acc : List Rng) (r : Rng) : Rng := if acc = [] then r else .mk kind noVer (acc ++ [r])
/-- Parts as long as a further one is there. -/
def sev (pf : List UInt8 → Out) (ff : List UInt8 → Option (List UInt8)) (kind : Int) : Nat → List Rng → List UInt8 → Out
  | 0, _, s => (99, s, noRng)
  | n + 1, acc, s => if (pf s).1 ≠ 0 then ((pf s).1, (pf s).2.1, noRng) else
    match ff (pf s).2.1 with
    | some s' => sev pf ff kind n (acc ++ [(pf s).2.2]) s'
    | none => (0, (pf s).2.1, whole kind acc (pf s).2.2)
def furE (s : List UInt8) : Option (List UInt8) := if stands [124, 124] s = true then some (blanks (s.drop 2)) else none
def furO (s : List UInt8) : Option (List UInt8) := if stands [44] s = true then some (blanks (s.drop 1)) else if oneOf starts s = true then some s else none
/-- An every, of ones that pf reads. -/
def everyF (pf : List UInt8 → Out) (s : List UInt8) : Out := sev pf furO 9 (s.length + 1) [] s
/-- An expr, of ones that pf reads. -/
def exprF (pf : List UInt8 → Out) (s : List UInt8) : Out := sev (everyF pf) furE 10 (s.length + 1) [] s
/-- Behind what stands in brackets. -/
def shutF (t : Out) : Out := if t.1 ≠ 0 then (t.1, t.2.1, noRng) else if stands [41] t.2.1 = true then (0, blanks (t.2.1.drop 1), t.2.2) else (lackN t.2.1, t.2.1, noRng)
def notF (t : Out) : Out := if t.1 ≠ 0 then (t.1, t.2.1, noRng) else (0, t.2.1, .mk 11 noVer [t.2.2])
/-- A one; what reads the ones that stand one deeper, if they may. -/
def oneF (sub : Option (List UInt8 → Out)) (s : List UInt8) : Out :=
  if stands [42] s = true then (0, blanks (s.drop 1), noRng)
  else if stands [40] s = true then (match sub with
    | none => (8, s, noRng)
    | some f => shutF (exprF f (blanks (s.drop 1))))
  else if (opOf s).2 = [] ∧ stands [33] s = true then (match sub with
    | none => (8, s, noRng)
    | some f => notF (f (blanks (s.drop 1))))
  else verAt (opOf s).1 (blanks (s.drop (opOf s).2.length))
/-- A one that may stand so much deeper. -/
def pone : Nat → List UInt8 → Out
  | 0 => oneF none
  | k + 1 => oneF (some (pone k))
/-- What Parse answers from a place on: the error, the place, the range. -/
abbrev POut := Nat × Nat × Rng
def pparse (l : List UInt8) (p : Int) : POut :=
  if p < 0 ∨ (l.length : Int) < p then (1, 0, noRng) else
    ((exprF (pone 64) (blanks (l.drop p.toNat))).1, l.length - (exprF (pone 64) (blanks (l.drop p.toNat))).2.1.length, (exprF (pone 64) (blanks (l.drop p.toNat))).2.2)
def pread (l : List UInt8) : POut :=
  if (pparse l 0).1 ≠ 0 then ((pparse l 0).1, (pparse l 0).2.1, noRng) else if (pparse l 0).2.1 ≠ l.length then (13, (pparse l 0).2.1, noRng) else (0, 0, (pparse l 0).2.2)

/-- Does a one of a kind stand in brackets within a range of another? -/
def bracketed (outer kind : Int) : Bool := decide (kind = 10 ∨ kind = 9 ∧ outer ≠ 10)
def ofVersion (kind : Int) : Bool := decide (1 ≤ kind ∧ kind ≤ 8)
def opens (outer kind : Int) : Nat := (if outer = 11 then 1 else 0) + (if bracketed outer kind = true then 1 else 0)
/-- Is the version, and how many ranges there are, as the kind asks? -/
def fits (kind : Int) (v : Ver) (n : Nat) : Bool :=
  if ofVersion kind = true then goodV v && decide (n = 0)
  else if sameV v noVer = false then false
  else if kind = 0 then decide (n = 0) else if kind = 9 ∨ kind = 10 then decide (2 ≤ n) else if kind = 11 then decide (n = 1) else false
mutual
/-- Is a range right that stands so deep? -/
def goodR : Rng → Nat → Bool
  | .mk kind v l, deep => decide (deep ≤ 64) && fits kind v l.length && goodL kind l deep
def goodL (outer : Int) : List Rng → Nat → Bool
  | [], _ => true
  | r :: rs, deep => goodR r (deep + opens outer r.kind) && goodL outer rs deep
end
/-- What a range's text begins with. -/
def markR (kind : Int) (v : Ver) : List UInt8 :=
  if kind = 0 then [42] else if kind = 9 ∨ kind = 10 then [] else if kind = 11 then [33] else if ofVersion kind = true then ops.getD (kind - 1).toNat [] ++ vtext v else vtext v
/-- What stands ahead of a one, brackets apart. -/
def aheadR (outer kind : Int) (told : Nat) : List UInt8 :=
  if outer = 11 ∧ kind = 5 then [32] else if told = 0 then [] else if outer = 10 then [32, 124, 124, 32] else [44, 32]
def openR (outer kind : Int) : List UInt8 := if bracketed outer kind = true then [40] else []
def shutR (outer kind : Int) : List UInt8 := if bracketed outer kind = true then [41] else []
/-- How many ones are told. -/
def most (kind : Int) (n : Nat) : Nat := if kind = 9 ∨ kind = 10 then n else if kind = 11 then min 1 n else 0
mutual
/-- A range's text. -/
def textR : Rng → List UInt8
  | .mk kind v l => markR kind v ++ textL kind (most kind l.length) l 0
/-- The texts of the ones from a place on, at most so many. -/
def textL (outer : Int) (m : Nat) : List Rng → Nat → List UInt8
  | [], _ => []
  | r :: rs, i => if i < m then aheadR outer r.kind i ++ (openR outer r.kind ++ textR r ++ shutR outer r.kind) ++ textL outer m rs (i + 1) else []
end
theorem goodR_eq (kind : Int) (v : Ver) (l : List Rng) (deep : Nat) : goodR (.mk kind v l) deep = (decide (deep ≤ 64) && fits kind v l.length && goodL kind l deep) := rfl
theorem goodL_cons (outer : Int) (r : Rng) (rs : List Rng) (deep : Nat) : goodL outer (r :: rs) deep = (goodR r (deep + opens outer r.kind) && goodL outer rs deep) := rfl
theorem textR_eq (kind : Int) (v : Ver) (l : List Rng) : textR (.mk kind v l) = markR kind v ++ textL kind (most kind l.length) l 0 := rfl
theorem textL_cons (outer : Int) (m : Nat) (r : Rng) (rs : List Rng) (i : Nat) : textL outer m (r :: rs) i = if i < m then aheadR outer r.kind i ++ (openR outer r.kind ++ textR r ++ shutR outer r.kind) ++ textL outer m rs (i + 1) else [] := rfl
theorem pone_zero (s : List UInt8) : pone 0 s = oneF none s := rfl
theorem pone_succ (k : Nat) (s : List UInt8) : pone (k + 1) s = oneF (some (pone k)) s := rfl
end Go.Proofs.YtgfbflnhjpbceaaGreatDoor.Range

namespace Go.Proofs.YtgfbflnhjpbceaaGreatDoor.Range
open Num Ident Semver

theorem stands_nil (s : List UInt8) : stands [] s = true := by cases s <;> rfl
theorem stands_split {t s : List UInt8} (h : stands t s = true) : s = t ++ s.drop t.length := by
  unfold stands at h
  obtain ⟨u, rfl⟩ := List.isPrefixOf_iff_prefix.1 h
  simp
theorem stands_len {t s : List UInt8} (h : stands t s = true) : t.length ≤ s.length := by
  rw [stands_split h]; simp
theorem blanks_drop (s : List UInt8) : ∃ k, k ≤ s.length ∧ blanks s = s.drop k := by
  induction s with
  | nil => exact ⟨0, by simp, rfl⟩
  | cons b s ih =>
    rw [blanks]
    split
    · obtain ⟨k, h1, h2⟩ := ih
      exact ⟨k + 1, by simpa using h1, by rw [h2]; rfl⟩
    · exact ⟨0, by simp, rfl⟩
theorem blanks_len (s : List UInt8) : (blanks s).length ≤ s.length := by
  obtain ⟨k, _, h⟩ := blanks_drop s
  rw [h, List.length_drop]; omega
theorem blanks_yes {b : UInt8} (s : List UInt8) (h : blankB b = true) : blanks (b :: s) = blanks s := by rw [blanks, if_pos h]
theorem blanks_no {b : UInt8} (s : List UInt8) (h : blankB b = false) : blanks (b :: s) = b :: s := by rw [blanks, h]; simp
theorem lackN_ne (s : List UInt8) : lackN s ≠ 0 := by unfold lackN; split <;> decide
/-- A text that ends within another one. -/
def Piece (s' s : List UInt8) : Prop := ∃ k, s' = s.drop k
theorem Piece.refl (s : List UInt8) : Piece s s := ⟨0, rfl⟩
theorem Piece.trans {a b c : List UInt8} (h : Piece a b) (k : Piece b c) : Piece a c := by
  obtain ⟨i, rfl⟩ := h
  obtain ⟨j, rfl⟩ := k
  exact ⟨j + i, by rw [List.drop_drop]⟩
theorem Piece.drop (s : List UInt8) (k : Nat) : Piece (s.drop k) s := ⟨k, rfl⟩
theorem Piece.blanks (s : List UInt8) : Piece (blanks s) s := by
  obtain ⟨k, _, h⟩ := blanks_drop s
  exact ⟨k, h⟩
theorem Piece.len {a b : List UInt8} (h : Piece a b) : a.length ≤ b.length := by
  obtain ⟨k, rfl⟩ := h; rw [List.length_drop]; omega
/-- What is read takes a byte at least. -/
def Prog (pf : List UInt8 → Out) : Prop := ∀ s, (pf s).1 = 0 → (pf s).2.1.length < s.length
def Falls (ff : List UInt8 → Option (List UInt8)) : Prop := ∀ s s', ff s = some s' → s'.length ≤ s.length
def Pieces (pf : List UInt8 → Out) : Prop := ∀ s, Piece (pf s).2.1 s
def PiecesF (ff : List UInt8 → Option (List UInt8)) : Prop := ∀ s s', ff s = some s' → Piece s' s
theorem furE_piece : PiecesF furE := by
  intro s s' h
  unfold furE at h
  split at h
  · injection h with h; rw [← h]; exact (Piece.blanks _).trans (Piece.drop _ _)
  · cases h
theorem furO_piece : PiecesF furO := by
  intro s s' h
  unfold furO at h
  split at h
  · injection h with h; rw [← h]; exact (Piece.blanks _).trans (Piece.drop _ _)
  · split at h
    · injection h with h; rw [← h]; exact Piece.refl _
    · cases h
theorem PiecesF.falls {ff : List UInt8 → Option (List UInt8)} (h : PiecesF ff) : Falls ff := fun s s' e => (h s s' e).len
theorem sev_bad {pf : List UInt8 → Out} {ff : List UInt8 → Option (List UInt8)} {kind : Int} {n : Nat} {acc : List Rng} {s : List UInt8} (h : (pf s).1 ≠ 0) : sev pf ff kind (n + 1) acc s = ((pf s).1, (pf s).2.1, noRng) := by rw [sev, if_pos h]
theorem sev_on {pf : List UInt8 → Out} {ff : List UInt8 → Option (List UInt8)} {kind : Int} {n : Nat} {acc : List Rng} {s s' : List UInt8} (h : (pf s).1 = 0) (hf : ff (pf s).2.1 = some s') : sev pf ff kind (n + 1) acc s = sev pf ff kind n (acc ++ [(pf s).2.2]) s' := by
  rw [sev, if_neg (by simp [h]), hf]
theorem sev_end {pf : List UInt8 → Out} {ff : List UInt8 → Option (List UInt8)} {kind : Int} {n : Nat} {acc : List Rng} {s : List UInt8} (h : (pf s).1 = 0) (hf : ff (pf s).2.1 = none) : sev pf ff kind (n + 1) acc s = (0, (pf s).2.1, whole kind acc (pf s).2.2) := by
  rw [sev, if_neg (by simp [h]), hf]
theorem sev_prog {pf : List UInt8 → Out} {ff : List UInt8 → Option (List UInt8)} {kind : Int} (hp : Prog pf) (hf : Falls ff) : ∀ (n : Nat) (acc : List Rng) (s : List UInt8), (sev pf ff kind n acc s).1 = 0 → (sev pf ff kind n acc s).2.1.length < s.length
  | 0, _, _, h => by rw [sev] at h; exact absurd h (by simp)
  | n + 1, acc, s, h => by
    by_cases h0 : (pf s).1 = 0
    · have h1 := hp s h0
      cases h2 : ff (pf s).2.1 with
      | some s' =>
        rw [sev_on h0 h2] at h ⊢
        have := sev_prog hp hf n _ s' h
        have := hf _ _ h2
        omega
      | none => rw [sev_end h0 h2]; exact h1
    · rw [sev_bad h0] at h; exact absurd h h0
theorem sev_piece {pf : List UInt8 → Out} {ff : List UInt8 → Option (List UInt8)} {kind : Int} (hp : Pieces pf) (hf : PiecesF ff) : ∀ (n : Nat) (acc : List Rng) (s : List UInt8), Piece (sev pf ff kind n acc s).2.1 s
  | 0, _, _ => Piece.refl _
  | n + 1, acc, s => by
    by_cases h0 : (pf s).1 = 0
    · cases h2 : ff (pf s).2.1 with
      | some s' => rw [sev_on h0 h2]; exact ((sev_piece hp hf n _ s').trans (hf _ _ h2)).trans (hp s)
      | none => rw [sev_end h0 h2]; exact hp s
    · rw [sev_bad h0]; exact hp s
theorem everyF_prog {pf : List UInt8 → Out} (h : Prog pf) : Prog (everyF pf) := fun s => sev_prog h furO_piece.falls _ _ s
theorem exprF_prog {pf : List UInt8 → Out} (h : Prog pf) : Prog (exprF pf) := fun s => sev_prog (everyF_prog h) furE_piece.falls _ _ s
theorem everyF_piece {pf : List UInt8 → Out} (h : Pieces pf) : Pieces (everyF pf) := fun s => sev_piece h furO_piece _ _ s
theorem exprF_piece {pf : List UInt8 → Out} (h : Pieces pf) : Pieces (exprF pf) := fun s => sev_piece (everyF_piece h) furE_piece _ _ s
theorem ver_piece (kind : Int) : Pieces (verAt kind) := by
  intro s
  unfold verAt
  split
  · split
    · exact Piece.drop _ _
    · exact (Piece.blanks _).trans (Piece.drop _ _)
  · exact Piece.refl _
theorem shutF_piece {t : Out} {s : List UInt8} (h : Piece t.2.1 s) : Piece (shutF t).2.1 s := by
  unfold shutF
  split
  · exact h
  · split
    · exact ((Piece.blanks _).trans (Piece.drop _ _)).trans h
    · exact h
theorem notF_piece {t : Out} {s : List UInt8} (h : Piece t.2.1 s) : Piece (notF t).2.1 s := by
  unfold notF; split <;> exact h
theorem oneF_piece {sub : Option (List UInt8 → Out)} (h : ∀ f, sub = some f → Pieces f) : Pieces (oneF sub) := by
  intro s
  have hd : ∀ k, Piece (blanks (s.drop k)) s := fun k => (Piece.blanks _).trans (Piece.drop _ _)
  unfold oneF
  split
  · exact hd 1
  · split
    · cases sub with
      | none => exact Piece.refl _
      | some f => exact shutF_piece ((exprF_piece (h f rfl) _).trans (hd 1))
    · split
      · cases sub with
        | none => exact Piece.refl _
        | some f => exact notF_piece ((h f rfl _).trans (hd 1))
      · exact (ver_piece _ _).trans (hd _)
theorem pone_piece : ∀ k, Pieces (pone k)
  | 0 => oneF_piece fun f h => by cases h
  | k + 1 => oneF_piece fun f h => by injection h with h; rw [← h]; exact pone_piece k
theorem oneOf_cons {some s : List UInt8} (h : oneOf some s = true) : ∃ b r, s = b :: r ∧ b ∈ some := by
  cases s with
  | nil => cases h
  | cons b r => exact ⟨b, r, rfl, of_decide_eq_true h⟩
/-- A version that is read takes a byte at least. -/
theorem core2_ge {l : List UInt8} {x y p : Nat} (h : (core2 l x y p).1 = 0) : p ≤ (core2 l x y p).2.1 := by
  unfold core2 at h ⊢
  by_cases h0 : (parse l p).2.2 ≠ 0
  · rw [if_pos h0] at h; exact absurd h h0
  · rw [if_neg h0]; exact Nat.le_add_right _ _
theorem after2_gt {l : List UInt8} {x y q : Nat} (h : (after2 l x y q).1 = 0) : q < (after2 l x y q).2.1 := by
  unfold after2 at h ⊢
  by_cases h0 : point l q ≠ 0
  · rw [if_pos h0] at h; exact absurd h h0
  · rw [if_neg h0] at h ⊢; exact core2_ge h
theorem core1_ge {l : List UInt8} {x p : Nat} (h : (core1 l x p).1 = 0) : p ≤ (core1 l x p).2.1 := by
  unfold core1 at h ⊢
  by_cases h0 : (parse l p).2.2 ≠ 0
  · rw [if_pos h0] at h; exact absurd h h0
  · rw [if_neg h0] at h ⊢; have := after2_gt h; omega
theorem after1_gt {l : List UInt8} {x q : Nat} (h : (after1 l x q).1 = 0) : q < (after1 l x q).2.1 := by
  unfold after1 at h ⊢
  by_cases h0 : point l q ≠ 0
  · rw [if_pos h0] at h; exact absurd h h0
  · rw [if_neg h0] at h ⊢; exact core1_ge h
theorem core_gt {l : List UInt8} {p : Nat} (h : (core l p).1 = 0) : p < (core l p).2.1 := by
  unfold core at h ⊢
  by_cases h0 : (parse l p).2.2 ≠ 0
  · rw [if_pos h0] at h; exact absurd h h0
  · rw [if_neg h0] at h ⊢; have := after1_gt h; omega
theorem rowAt_ge (l : List UInt8) (p m : Nat) : p ≤ (Semver.rowAt l p m).2.1 := by
  unfold Semver.rowAt; split
  · exact Nat.le_refl _
  · show p ≤ p + 1 + _; omega
theorem inside_gt {l : List UInt8} {p : Nat} (h : (inside l p).1 = 0) : p < (inside l p).2.1 := by
  unfold inside at h ⊢
  by_cases h0 : (core l p).1 ≠ 0
  · rw [if_pos h0] at h; exact absurd h h0
  · rw [if_neg h0] at h ⊢
    have h1 := core_gt (l := l) (p := p) (by simpa using h0)
    unfold tail1 at h ⊢
    have h2 := rowAt_ge l (core l p).2.1 45
    by_cases h3 : (Semver.rowAt l (core l p).2.1 45).1 ≠ 0
    · rw [if_pos h3] at h; exact absurd h h3
    · rw [if_neg h3] at h ⊢
      unfold tail2 at h ⊢
      have h4 := rowAt_ge l (Semver.rowAt l (core l p).2.1 45).2.1 43
      split
      · rename_i h5; rw [if_pos h5] at h; exact absurd h h5
      · show p < (Semver.rowAt l (Semver.rowAt l (core l p).2.1 45).2.1 43).2.1; omega
theorem vparse_gt {l : List UInt8} (h : (vparse l 0).1 = 0) : 0 < (vparse l 0).2.1 := by
  unfold vparse at h ⊢
  rw [if_neg (by omega), Int.toNat_zero] at h ⊢
  exact inside_gt h
theorem ver_prog (kind : Int) : Prog (verAt kind) := by
  intro s h
  unfold verAt at h ⊢
  by_cases h0 : oneOf digits s = true
  · obtain ⟨b, r, rfl, _⟩ := oneOf_cons h0
    rw [if_pos h0] at h ⊢
    by_cases h1 : (vparse (b :: r) 0).1 ≠ 0
    · rw [if_pos h1] at h; exact absurd h h1
    · rw [if_neg h1]
      have h2 := vparse_gt (l := b :: r) (by simpa using h1)
      have h3 := blanks_len ((b :: r).drop (vparse (b :: r) 0).2.1)
      simp only [List.length_drop, List.length_cons] at h3 ⊢
      omega
  · rw [if_neg h0] at h; exact absurd h (lackN_ne s)
theorem shutF_prog {t : Out} (h : (shutF t).1 = 0) : t.1 = 0 ∧ stands [41] t.2.1 = true ∧ shutF t = (0, blanks (t.2.1.drop 1), t.2.2) := by
  unfold shutF at h ⊢
  by_cases h0 : t.1 ≠ 0
  · rw [if_pos h0] at h; exact absurd h h0
  · rw [if_neg h0] at h ⊢
    by_cases h1 : stands [41] t.2.1 = true
    · exact ⟨by simpa using h0, h1, by rw [if_pos h1]⟩
    · rw [if_neg h1] at h; exact absurd h (lackN_ne _)
theorem notF_prog {t : Out} (h : (notF t).1 = 0) : t.1 = 0 ∧ notF t = (0, t.2.1, .mk 11 noVer [t.2.2]) := by
  unfold notF at h ⊢
  by_cases h0 : t.1 ≠ 0
  · rw [if_pos h0] at h; exact absurd h h0
  · rw [if_neg h0]; exact ⟨by simpa using h0, rfl⟩
theorem oneF_prog {sub : Option (List UInt8 → Out)} (hs : ∀ f, sub = some f → Prog f) : Prog (oneF sub) := by
  intro s h
  have hd : ∀ k, 0 < k → k ≤ s.length → (blanks (s.drop k)).length < s.length := fun k h0 hk => by
    have := blanks_len (s.drop k); rw [List.length_drop] at this; omega
  unfold oneF at h ⊢
  by_cases h1 : stands [42] s = true
  · rw [if_pos h1]; exact hd 1 (by decide) (stands_len h1)
  · rw [if_neg h1] at h ⊢
    by_cases h2 : stands [40] s = true
    · rw [if_pos h2] at h ⊢
      have h3 := hd 1 (by decide) (stands_len h2)
      cases sub with
      | none => exact absurd h (show (8 : Nat) ≠ 0 by decide)
      | some f =>
        simp only at h ⊢
        obtain ⟨a1, a2, a3⟩ := shutF_prog h
        rw [a3]
        have h4 := exprF_prog (hs f rfl) _ a1
        have h5 := blanks_len ((exprF f (blanks (s.drop 1))).2.1.drop 1)
        rw [List.length_drop] at h5
        show (blanks _).length < _
        omega
    · rw [if_neg h2] at h ⊢
      by_cases h3 : (opOf s).2 = [] ∧ stands [33] s = true
      · rw [if_pos h3] at h ⊢
        have h4 := hd 1 (by decide) (stands_len h3.2)
        cases sub with
        | none => exact absurd h (show (8 : Nat) ≠ 0 by decide)
        | some f =>
          simp only at h ⊢
          obtain ⟨a1, a2⟩ := notF_prog h
          rw [a2]
          have h5 := hs f rfl _ a1
          show (f (blanks (s.drop 1))).2.1.length < _
          omega
      · rw [if_neg h3] at h ⊢
        have h4 := ver_prog _ _ h
        have h5 := blanks_len (s.drop (opOf s).2.length)
        rw [List.length_drop] at h5
        omega
theorem pone_prog : ∀ k, Prog (pone k)
  | 0 => oneF_prog fun f h => by cases h
  | k + 1 => oneF_prog fun f h => by injection h with h; rw [← h]; exact pone_prog k
end Go.Proofs.YtgfbflnhjpbceaaGreatDoor.Range

namespace Go.Proofs.YtgfbflnhjpbceaaGreatDoor.Semver
open Go.RowKit Num Ident

/-- A block of 7 cells, none frozen. -/
def At7 (W : World) (b : Nat) (u0 u1 u2 u3 u4 u5 u6 : Value) : Prop := b < W.heap.size ∧ (∀ o, W.frozen? ⟨b, o, none⟩ = false) ∧ W.cell? ⟨b, 0, none⟩ = some u0 ∧ W.cell? ⟨b, 1, none⟩ = some u1 ∧ W.cell? ⟨b, 2, none⟩ = some u2 ∧ W.cell? ⟨b, 3, none⟩ = some u3 ∧ W.cell? ⟨b, 4, none⟩ = some u4 ∧ W.cell? ⟨b, 5, none⟩ = some u5 ∧ W.cell? ⟨b, 6, none⟩ = some u6
theorem At7.new (w : World) (t : TypeId) (u0 u1 u2 u3 u4 u5 u6 : Value) : At7 (w.alloc (.cells #[u0, u1, u2, u3, u4, u5, u6] t)) w.heap.size u0 u1 u2 u3 u4 u5 u6 := by
  unfold At7
  refine ⟨by simp, fun o => by simp [go_sem], ?_, ?_, ?_, ?_, ?_, ?_, ?_⟩ <;> simp [go_sem]
theorem At7.kept {W W' : World} {b B : Nat} {u0 u1 u2 u3 u4 u5 u6 : Value} (h : At7 W b u0 u1 u2 u3 u4 u5 u6) (hb : Below B W W') (hB : b < B) : At7 W' b u0 u1 u2 u3 u4 u5 u6 := by
  obtain ⟨h1, h2, c0, c1, c2, c3, c4, c5, c6⟩ := h
  exact ⟨Nat.lt_of_lt_of_le h1 hb.size, fun o => (hb.frozen (p := ⟨b, o, none⟩) hB).trans (h2 o), (hb.cell (p := ⟨b, 0, none⟩) hB).trans c0, (hb.cell (p := ⟨b, 1, none⟩) hB).trans c1, (hb.cell (p := ⟨b, 2, none⟩) hB).trans c2, (hb.cell (p := ⟨b, 3, none⟩) hB).trans c3, (hb.cell (p := ⟨b, 4, none⟩) hB).trans c4, (hb.cell (p := ⟨b, 5, none⟩) hB).trans c5, (hb.cell (p := ⟨b, 6, none⟩) hB).trans c6⟩
/-- Seven stores, one behind the other. -/
theorem set7 {w : World} {A : Option Addr} {n : Nat} {xs : List (List UInt8)} (h : SRow w A n xs) {b : Nat} {u0 u1 u2 u3 u4 u5 u6 : Value} (k : At7 w b u0 u1 u2 u3 u4 u5 u6)
    (s0 : ∀ s, u0 ≠ .string s) (s1 : ∀ s, u1 ≠ .string s) (s2 : ∀ s, u2 ≠ .string s) (s3 : ∀ s, u3 ≠ .string s) (s4 : ∀ s, u4 ≠ .string s) (s5 : ∀ s, u5 ≠ .string s) (s6 : ∀ s, u6 ≠ .string s) (v0 v1 v2 v3 v4 v5 v6 : Value) :
    SRow (((((((w.setCell ⟨b, 0, none⟩ v0).setCell ⟨b, 1, none⟩ v1).setCell ⟨b, 2, none⟩ v2).setCell ⟨b, 3, none⟩ v3).setCell ⟨b, 4, none⟩ v4).setCell ⟨b, 5, none⟩ v5).setCell ⟨b, 6, none⟩ v6) A n xs := by
  obtain ⟨_, _, c0, c1, c2, c3, c4, c5, c6⟩ := k
  refine SRow.set (SRow.set (SRow.set (SRow.set (SRow.set (SRow.set (SRow.set h c0 s0 v0) (u := u1) ?_ s1 v1) (u := u2) ?_ s2 v2) (u := u3) ?_ s3 v3) (u := u4) ?_ s4 v4) (u := u5) ?_ s5 v5) (u := u6) ?_ s6 v6
  · exact (cell_beside _ _ _ _ _ (by omega)).trans (c1)
  · exact (cell_beside _ _ _ _ _ (by omega)).trans ((cell_beside _ _ _ _ _ (by omega)).trans (c2))
  · exact (cell_beside _ _ _ _ _ (by omega)).trans ((cell_beside _ _ _ _ _ (by omega)).trans ((cell_beside _ _ _ _ _ (by omega)).trans (c3)))
  · exact (cell_beside _ _ _ _ _ (by omega)).trans ((cell_beside _ _ _ _ _ (by omega)).trans ((cell_beside _ _ _ _ _ (by omega)).trans ((cell_beside _ _ _ _ _ (by omega)).trans (c4))))
  · exact (cell_beside _ _ _ _ _ (by omega)).trans ((cell_beside _ _ _ _ _ (by omega)).trans ((cell_beside _ _ _ _ _ (by omega)).trans ((cell_beside _ _ _ _ _ (by omega)).trans ((cell_beside _ _ _ _ _ (by omega)).trans (c5)))))
  · exact (cell_beside _ _ _ _ _ (by omega)).trans ((cell_beside _ _ _ _ _ (by omega)).trans ((cell_beside _ _ _ _ _ (by omega)).trans ((cell_beside _ _ _ _ _ (by omega)).trans ((cell_beside _ _ _ _ _ (by omega)).trans ((cell_beside _ _ _ _ _ (by omega)).trans (c6))))))

theorem At3.set1 {W : World} {b : Nat} {x y z : Value} (h : At3 W b x y z) (v : Value) : At3 (W.setCell ⟨b, 1, none⟩ v) b x v z := by
  obtain ⟨h1, h2, c0, c1, c2⟩ := h
  refine ⟨by simpa using h1, fun o => by simp [go_sem, h2], ?_, ?_, ?_⟩ <;> simp [go_sem, c0, c1, c2]
theorem At3.set2 {W : World} {b : Nat} {x y z : Value} (h : At3 W b x y z) (v : Value) : At3 (W.setCell ⟨b, 2, none⟩ v) b x y v := by
  obtain ⟨h1, h2, c0, c1, c2⟩ := h
  refine ⟨by simpa using h1, fun o => by simp [go_sem, h2], ?_, ?_, ?_⟩ <;> simp [go_sem, c0, c1, c2]


end Go.Proofs.YtgfbflnhjpbceaaGreatDoor.Semver

namespace Go.Proofs.YtgfbflnhjpbceaaGreatDoor.Semver
open Go.RowKit

theorem run_eq3 (n0 n1 n2 m0 m1 m2 : Int) (w : World) :
    (Op.equalIn 10000 99 (.agg #[.int .u64 n0, .int .u64 n1, .int .u64 n2]) (.agg #[.int .u64 m0, .int .u64 m1, .int .u64 m2])).run Tryz.prog w = .ok (n0 == m0 && (n1 == m1 && n2 == m2)) w := by
  obtain ⟨i, hi⟩ := Option.isSome_iff_exists.1 (show (Tryz.prog.info? 22).isSome = true by kernel_rfl)
  have hc : Tryz.prog.cellsOf 22 = 1 := by kernel_rfl
  have hp : Tryz.prog.plainKey 22 = true := by kernel_rfl
  have q0 := run_part_plain (P := Tryz.prog) w hp (xs := #[.int .u64 n0, .int .u64 n1, .int .u64 n2]) (off := 0) rfl
  have q1 := run_part_plain (P := Tryz.prog) w hp (xs := #[.int .u64 n0, .int .u64 n1, .int .u64 n2]) (off := 1) rfl
  have q2 := run_part_plain (P := Tryz.prog) w hp (xs := #[.int .u64 n0, .int .u64 n1, .int .u64 n2]) (off := 2) rfl
  have p0 := run_part_plain (P := Tryz.prog) w hp (xs := #[.int .u64 m0, .int .u64 m1, .int .u64 m2]) (off := 0) rfl
  have p1 := run_part_plain (P := Tryz.prog) w hp (xs := #[.int .u64 m0, .int .u64 m1, .int .u64 m2]) (off := 1) rfl
  have p2 := run_part_plain (P := Tryz.prog) w hp (xs := #[.int .u64 m0, .int .u64 m1, .int .u64 m2]) (off := 2) rfl
  have e := fun a b : Int => run_equalIn_int (P := Tryz.prog) w 9998 22 .u64 .u64 a b Tryz.underlying22
  rw [run_equalIn_array w 9999 _ _ Tryz.underlying99 hi, hc, show List.range 3 = [0, 1, 2] from rfl]
  simp only [Op.eqItems, Sem.run_bind, Nat.mul_one, q0, p0, Result.andThen_ok]
  cases h0 : n0 == m0 <;> cases h1 : n1 == m1 <;> cases h2 : n2 == m2 <;> simp [q1, q2, p1, p2, e, h0, h1, h2]
end Go.Proofs.YtgfbflnhjpbceaaGreatDoor.Semver

namespace Go.Proofs.YtgfbflnhjpbceaaGreatDoor.Semver
open Go.RowKit Num Ident

set_option maxRecDepth 100000 in
set_option maxHeartbeats 800000 in
theorem equal_any (A : Option Addr) (a ca : Nat) (xs : List (List UInt8)) (B : Option Addr) (b cb : Nat) (ys : List (List UInt8)) (w : World) (hA : SRow w A a xs) (hB : SRow w B b ys) (ha : a ≤ maxLen) (hb : b ≤ maxLen) :
    Calls Tryz.prog 92 #[.slice A a ca, .slice B b cb] w fun e w' => e = .returned (.bool (sameB xs ys)) ∧ Below w.heap.size w w' := by
  unfold maxLen at ha hb
  have HA := Lib.hid hA
  have HB := Lib.hid hB
  have HLA := Lib.hid hA.1
  have HLB := Lib.hid hB.1
  clear hA hB
  by_cases hab : a = b
  · subst hab
    go_enter Tryz.func92, Tryz.ntmps92
    go_wp2
    go_loopw [13] (fun i W => ∃ k : Nat, k ≤ a ∧ i = .int .i64 k ∧ Hid (∀ j, j < k → xs.getD j [] = ys.getD j []) ∧ Hid (Below w.heap.size w W)) (fun i _ => a - (intOf i).toNat)
    case atStart => exact ⟨0, Nat.zero_le _, rfl, (fun j hj => by omega), Below.refl _ _⟩
    case round =>
      obtain ⟨k, hk, rfl, HD, HW⟩ := hrel
      by_cases hlt : k < a
      · obtain ⟨g1, o1, rfl, hg1, hc1⟩ := (HA.out.kept HW.out).2 (by omega)
        obtain ⟨g2, o2, rfl, hg2, hc2⟩ := (HB.out.kept HW.out).2 (by omega)
        have hx1 := hc1 k hlt
        have hx2 := hc2 k hlt
        clear hc1 hc2
        obtain ⟨s, hs⟩ : ∃ s, mk (xs.getD k []) = s := ⟨_, rfl⟩
        obtain ⟨t, ht⟩ : ∃ t, mk (ys.getD k []) = t := ⟨_, rfl⟩
        have HS : Hid (s = t → xs.getD k [] = ys.getD k []) := fun h => by rw [← hs, ← ht] at h; have := congrArg (fun z : ByteArray => z.data.toList) h; exact this
        have HS2 : Hid (s ≠ t → xs ≠ ys) := fun h h2 => h (by rw [← hs, ← ht, h2])
        rw [hs] at hx1
        rw [ht] at hx2
        clear hs ht
        by_cases hst : s = t
        · have HS3 := Lib.hid (HS.out hst)
          subst hst
          have hq : (s.toList == s.toList) = true := by simp
          have hq2 : (s.toList != s.toList) = false := by simp
          go_wp2
          go_still (by kernel_rfl)
          have HW2 := Lib.hid HW.out.drew
          go_wp2
          refine ⟨⟨k + 1, by omega, by go_num, (fun j hj => ?_), HW2.out⟩, by simp [intOf]; omega⟩
          rcases Nat.lt_or_ge j k with hj1 | hj1
          · exact HD.out j hj1
          · obtain rfl : j = k := by omega
            exact HS3.out
        · have HS3 := Lib.hid (HS2.out hst)
          have hq : (s.toList == t.toList) = false := by
            rw [Lib.toList_data, Lib.toList_data, beq_eq_false_iff_ne]
            exact fun h => hst (by have := congrArg mk h; exact this)
          have hq2 : (s.toList != t.toList) = true := by rw [bne, hq]; rfl
          clear hst
          go_wp2
          go_still (by kernel_rfl)
          have HW2 := Lib.hid HW.out.drew
          go_wp2
          go_ret
          exact ⟨by rw [sameB_no HS3.out]; rfl, HW2.out⟩
      · have HF : Hid (sameB xs ys = true) := (sameB_iff xs ys).2 (List.ext_getElem (by rw [HLA.out, HLB.out]) fun j h1 h2 => by
          have := HD.out j (by rw [HLA.out] at h1; omega)
          simpa [List.getD, List.getElem?_eq_getElem h1, List.getElem?_eq_getElem h2] using this)
        go_wp2
        go_ret
        exact ⟨by rw [HF.out]; rfl, HW.out⟩
  · have HF : Hid (sameB xs ys = false) := sameB_no fun h => hab (by rw [← HLA.out, ← HLB.out, h])
    have hq : ((a : Int) == (b : Int)) = false := by simp; omega
    have hq2 : ((a : Int) != (b : Int)) = true := by simp; omega
    go_enter Tryz.func92, Tryz.ntmps92
    go_wp2
    go_ret
    exact ⟨by rw [HF.out]; rfl, Below.refl _ _⟩
set_option maxRecDepth 100000 in
set_option maxHeartbeats 800000 in
theorem coreOf_any (a b c : Int) (x y : Value) (w : World) :
    Calls Tryz.prog 71 #[.agg #[.int .u64 a, .int .u64 b, .int .u64 c, x, y]] w fun e w' => e = .returned (.agg #[.int .u64 a, .int .u64 b, .int .u64 c]) ∧ Below w.heap.size w w' := by
  go_enter Tryz.func71, Tryz.ntmps71
  go_wp2
  exact bodyPost_ret (v := .agg #[.int .u64 a, .int .u64 b, .int .u64 c]) (by simp [results, Tryz.results71, go_sem]) rfl ⟨rfl, ((Below.refl _ _).alloc (Nat.le_refl _) _).alloc (by simp) _⟩
set_option maxRecDepth 100000 in
set_option maxHeartbeats 3200000 in
theorem same_parts (A1 : Option Addr) (a1 c1 : Nat) (xs1 : List (List UInt8)) (A2 : Option Addr) (a2 c2 : Nat) (xs2 : List (List UInt8)) (B1 : Option Addr) (b1 d1 : Nat) (ys1 : List (List UInt8)) (B2 : Option Addr) (b2 d2 : Nat) (ys2 : List (List UInt8)) (n0 n1 n2 m0 m1 m2 : Nat) (w : World)
    (r1 : SRow w A1 a1 xs1) (r2 : SRow w A2 a2 xs2) (q1 : SRow w B1 b1 ys1) (q2 : SRow w B2 b2 ys2) (ha1 : a1 ≤ maxLen) (ha2 : a2 ≤ maxLen) (hb1 : b1 ≤ maxLen) (hb2 : b2 ≤ maxLen) :
    Calls Tryz.prog 56 #[.agg #[.int .u64 (n0 : Int), .int .u64 (n1 : Int), .int .u64 (n2 : Int), .slice A1 a1 c1, .slice A2 a2 c2], .agg #[.int .u64 (m0 : Int), .int .u64 (m1 : Int), .int .u64 (m2 : Int), .slice B1 b1 d1, .slice B2 b2 d2]] w fun e w' => e = .returned (.bool (sameV ⟨n0, n1, n2, xs1, xs2⟩ ⟨m0, m1, m2, ys1, ys2⟩)) ∧ Below w.heap.size w w' := by
  have R1 := Lib.hid r1
  have R2 := Lib.hid r2
  have Q1 := Lib.hid q1
  have Q2 := Lib.hid q2
  have HA1 := Lib.hid ha1
  have HA2 := Lib.hid ha2
  have HB1 := Lib.hid hb1
  have HB2s := Lib.hid hb2
  clear r1 r2 q1 q2 ha1 ha2 hb1 hb2
  have HB0 : Hid (Below w.heap.size w ((w.alloc (.cells #[.int .u64 (n0 : Int), .int .u64 (n1 : Int), .int .u64 (n2 : Int), .slice A1 a1 c1, .slice A2 a2 c2] 25)).alloc (.cells #[.int .u64 (m0 : Int), .int .u64 (m1 : Int), .int .u64 (m2 : Int), .slice B1 b1 d1, .slice B2 b2 d2] 25))) := ((Below.refl _ _).alloc (Nat.le_refl _) _).alloc (by simp) _
  have HP1 : Hid (At5 ((w.alloc (.cells #[.int .u64 (n0 : Int), .int .u64 (n1 : Int), .int .u64 (n2 : Int), .slice A1 a1 c1, .slice A2 a2 c2] 25)).alloc (.cells #[.int .u64 (m0 : Int), .int .u64 (m1 : Int), .int .u64 (m2 : Int), .slice B1 b1 d1, .slice B2 b2 d2] 25)) w.heap.size (.int .u64 (n0 : Int)) (.int .u64 (n1 : Int)) (.int .u64 (n2 : Int)) (.slice A1 a1 c1) (.slice A2 a2 c2)) := (At5.new w 25 _ _ _ _ _).kept ((Below.refl _ _).alloc (Nat.le_refl _) _) (by simp)
  have HP2 : Hid (At5 ((w.alloc (.cells #[.int .u64 (n0 : Int), .int .u64 (n1 : Int), .int .u64 (n2 : Int), .slice A1 a1 c1, .slice A2 a2 c2] 25)).alloc (.cells #[.int .u64 (m0 : Int), .int .u64 (m1 : Int), .int .u64 (m2 : Int), .slice B1 b1 d1, .slice B2 b2 d2] 25)) (w.heap.size + 1) (.int .u64 (m0 : Int)) (.int .u64 (m1 : Int)) (.int .u64 (m2 : Int)) (.slice B1 b1 d1) (.slice B2 b2 d2)) := by
    have := At5.new (w.alloc (.cells #[.int .u64 (n0 : Int), .int .u64 (n1 : Int), .int .u64 (n2 : Int), .slice A1 a1 c1, .slice A2 a2 c2] 25)) 25 (.int .u64 (m0 : Int)) (.int .u64 (m1 : Int)) (.int .u64 (m2 : Int)) (.slice B1 b1 d1) (.slice B2 b2 d2)
    rw [size_alloc] at this; exact this
  have HD := Lib.hid ((Below.refl ((w.alloc (.cells #[.int .u64 (n0 : Int), .int .u64 (n1 : Int), .int .u64 (n2 : Int), .slice A1 a1 c1, .slice A2 a2 c2] 25)).alloc (.cells #[.int .u64 (m0 : Int), .int .u64 (m1 : Int), .int .u64 (m2 : Int), .slice B1 b1 d1, .slice B2 b2 d2] 25)).heap.size ((w.alloc (.cells #[.int .u64 (n0 : Int), .int .u64 (n1 : Int), .int .u64 (n2 : Int), .slice A1 a1 c1, .slice A2 a2 c2] 25)).alloc (.cells #[.int .u64 (m0 : Int), .int .u64 (m1 : Int), .int .u64 (m2 : Int), .slice B1 b1 d1, .slice B2 b2 d2] 25))).drew)
  have HDw := Lib.hid (HD.out.mono (B' := w.heap.size) (by simp; omega))
  by_cases hn : n0 = m0 ∧ n1 = m1 ∧ n2 = m2
  · obtain ⟨rfl, rfl, rfl⟩ := hn
    have kq := fun W => run_eq3 n0 n1 n2 n0 n1 n2 W
    rw [show ((((n0 : Int) == (n0 : Int)) && (((n1 : Int) == (n1 : Int)) && ((n2 : Int) == (n2 : Int))))) = true by simp] at kq
    have HF : Hid (sameV ⟨n0, n1, n2, xs1, xs2⟩ ⟨n0, n1, n2, ys1, ys2⟩ = (sameB xs1 ys1 && sameB xs2 ys2)) := by unfold Hid sameV; simp
    go_enter Tryz.func56, Tryz.ntmps56
    go_upto_region 1 with (fail)
    refine wp_region_held_drew (S := fun w' => (w'.cell? ⟨w.heap.size, 0, none⟩ = some (.int .u64 (n0 : Int)) ∧ w'.cell? ⟨w.heap.size, 1, none⟩ = some (.int .u64 (n1 : Int)) ∧ w'.cell? ⟨w.heap.size, 2, none⟩ = some (.int .u64 (n2 : Int)) ∧ w'.cell? ⟨w.heap.size, 3, none⟩ = some (.slice A1 a1 c1) ∧ w'.cell? ⟨w.heap.size, 4, none⟩ = some (.slice A2 a2 c2)) ∧ (w'.cell? ⟨(w.heap.size + 1), 0, none⟩ = some (.int .u64 (n0 : Int)) ∧ w'.cell? ⟨(w.heap.size + 1), 1, none⟩ = some (.int .u64 (n1 : Int)) ∧ w'.cell? ⟨(w.heap.size + 1), 2, none⟩ = some (.int .u64 (n2 : Int)) ∧ w'.cell? ⟨(w.heap.size + 1), 3, none⟩ = some (.slice B1 b1 d1) ∧ w'.cell? ⟨(w.heap.size + 1), 4, none⟩ = some (.slice B2 b2 d2))) (by kernel_rfl) ⟨HP1.out.2.2, HP2.out.2.2⟩ (fun hHeld => ?_)
    refine wpAnyH_take (i := 0) (oi := { dst := some 5, op := Op.load 25 (Operand.tmp 2), type := 25, pos := _, after := _, guard := none }) (v := .agg #[.int .u64 (n0 : Int), .int .u64 (n1 : Int), .int .u64 (n2 : Int), .slice A1 a1 c1, .slice A2 a2 c2]) rfl (by kernel_rfl) (by kernel_rfl) (by kernel_rfl) (fun _ _ _ h => h) (Or.inl ⟨by rfl, fun w' hS' => by go_simp⟩) (by assumption) ?_
    simp only [Act.put, List.setIfInBounds_toArray, List.set_cons_zero, List.set_cons_succ]
    refine wpAnyH_take (i := 2) (oi := { dst := some 7, op := Op.load 25 (Operand.tmp 3), type := 25, pos := _, after := _, guard := none }) (v := .agg #[.int .u64 (n0 : Int), .int .u64 (n1 : Int), .int .u64 (n2 : Int), .slice B1 b1 d1, .slice B2 b2 d2]) rfl (by kernel_rfl) (by kernel_rfl) (by kernel_rfl) (fun _ _ _ h => h) (Or.inl ⟨by rfl, fun w' hS' => by go_simp⟩) (by assumption) ?_
    simp only [Act.put, List.setIfInBounds_toArray, List.set_cons_zero, List.set_cons_succ]
    refine wpAnyH_ready (rs := [1]) (by kernel_rfl) (by simp) ?_
    refine AllReadyH.cons (o := { dst := some 6, op := Op.call { callee := Callee.value (Operand.func 71), args := #[Operand.tmp 5], argTypes := #[25] }, type := 99, pos := _, after := _, guard := none }) rfl (fun K hK => ?_) AllReadyH.nil
    go_simp
    refine (coreOf_any _ _ _ _ _ _).mono ?_
    rintro e w2 ⟨rfl, hb2⟩
    have HK1 := Lib.hid ((HP1.out.kept HD.out (by simp; omega)).kept hb2 (by simp; omega))
    have HK2 := Lib.hid ((HP2.out.kept HD.out (by simp)).kept hb2 (by simp))
    have HB2 := Lib.hid ((HB0.out.trans HDw.out).trans (hb2.mono (by simp; omega)))
    have hz2 : w.heap.size + 2 ≤ w2.heap.size := by have := hb2.size; simpa using this
    clear hb2
    refine hK.out _ _ ⟨HK1.out.2.2, HK2.out.2.2⟩ (fun hHeld => ?_)
    clear hK K
    try simp only [Act.put, List.setIfInBounds_toArray, List.set_cons_zero, List.set_cons_succ]
    refine wpAnyH_ready (rs := [3]) (by kernel_rfl) (by simp) ?_
    refine AllReadyH.cons (o := { dst := some 8, op := Op.call { callee := Callee.value (Operand.func 71), args := #[Operand.tmp 7], argTypes := #[25] }, type := 99, pos := _, after := _, guard := none }) rfl (fun K hK => ?_) AllReadyH.nil
    go_simp
    refine (coreOf_any _ _ _ _ _ _).mono ?_
    rintro e w3 ⟨rfl, hb3⟩
    have HM1 := Lib.hid (HK1.out.kept hb3 (by omega))
    have HM2 := Lib.hid (HK2.out.kept hb3 (by omega))
    have HB3 := Lib.hid (HB2.out.trans (hb3.mono (by omega)))
    have hz3 := hb3.size
    clear hb3
    refine hK.out _ _ ⟨HM1.out.2.2, HM2.out.2.2⟩ (fun hHeld => ?_)
    clear hK K
    try simp only [Act.put, List.setIfInBounds_toArray, List.set_cons_zero, List.set_cons_succ]
    refine wpAnyH_take (i := 4) (oi := { dst := some 9, op := Op.binOp BinOp.eql 99 (Operand.tmp 6) (Operand.tmp 8) 99, type := 4, pos := _, after := _, guard := none }) (v := .bool true) rfl (by kernel_rfl) (by kernel_rfl) (by kernel_rfl) (fun _ _ _ h => h) (Or.inl ⟨by rfl, fun w' hS' => by go_simp⟩) (by assumption) ?_
    simp only [Act.put, List.setIfInBounds_toArray, List.set_cons_zero, List.set_cons_succ]
    refine wpAnyH_take (i := 5) (oi := { dst := some 10, op := Op.move (Operand.tmp 9), type := 4, pos := _, after := _, guard := none }) (v := .bool true) rfl (by kernel_rfl) (by kernel_rfl) (by kernel_rfl) (fun _ _ _ h => h) (Or.inl ⟨by rfl, fun w' hS' => by go_simp⟩) (by assumption) ?_
    simp only [Act.put, List.setIfInBounds_toArray, List.set_cons_zero, List.set_cons_succ]
    refine wpAnyH_take (i := 6) (oi := { dst := some 11, op := Op.fieldAddr 25 (Operand.tmp 2) 3, type := 0, pos := _, after := _, guard := some (5, true) }) (v := .pointer (some ⟨w.heap.size, 3, none⟩)) rfl (by kernel_rfl) (by kernel_rfl) (by kernel_rfl) (fun _ _ _ h => h) (Or.inl ⟨by rfl, fun w' hS' => by go_simp⟩) (by assumption) ?_
    simp only [Act.put, List.setIfInBounds_toArray, List.set_cons_zero, List.set_cons_succ]
    refine wpAnyH_take (i := 7) (oi := { dst := some 12, op := Op.load 23 (Operand.tmp 11), type := 23, pos := _, after := _, guard := some (5, true) }) (v := .slice A1 a1 c1) rfl (by kernel_rfl) (by kernel_rfl) (by kernel_rfl) (fun _ _ _ h => h) (Or.inl ⟨by rfl, fun w' hS' => by go_simp⟩) (by assumption) ?_
    simp only [Act.put, List.setIfInBounds_toArray, List.set_cons_zero, List.set_cons_succ]
    refine wpAnyH_take (i := 8) (oi := { dst := some 13, op := Op.fieldAddr 25 (Operand.tmp 3) 3, type := 0, pos := _, after := _, guard := some (5, true) }) (v := .pointer (some ⟨w.heap.size + 1, 3, none⟩)) rfl (by kernel_rfl) (by kernel_rfl) (by kernel_rfl) (fun _ _ _ h => h) (Or.inl ⟨by rfl, fun w' hS' => by go_simp⟩) (by assumption) ?_
    simp only [Act.put, List.setIfInBounds_toArray, List.set_cons_zero, List.set_cons_succ]
    refine wpAnyH_take (i := 9) (oi := { dst := some 14, op := Op.load 23 (Operand.tmp 13), type := 23, pos := _, after := _, guard := some (5, true) }) (v := .slice B1 b1 d1) rfl (by kernel_rfl) (by kernel_rfl) (by kernel_rfl) (fun _ _ _ h => h) (Or.inl ⟨by rfl, fun w' hS' => by go_simp⟩) (by assumption) ?_
    simp only [Act.put, List.setIfInBounds_toArray, List.set_cons_zero, List.set_cons_succ]
    refine wpAnyH_ready (rs := [10]) (by kernel_rfl) (by simp) ?_
    refine AllReadyH.cons (o := { dst := some 15, op := Op.call { callee := Callee.value (Operand.func 92), args := #[Operand.tmp 12, Operand.tmp 14], argTypes := #[23, 23] }, type := 4, pos := _, after := _, guard := some (5, true) }) rfl (fun K hK => ?_) AllReadyH.nil
    go_simp
    refine (equal_any _ _ _ xs1 _ _ _ ys1 _ (R1.out.kept HB3.out) (Q1.out.kept HB3.out) HA1.out HB1.out).mono ?_
    rintro e w4 ⟨rfl, hb4⟩
    have HN1 := Lib.hid (HM1.out.kept hb4 (by omega))
    have HN2 := Lib.hid (HM2.out.kept hb4 (by omega))
    have HB4 := Lib.hid (HB3.out.trans (hb4.mono (by omega)))
    have hz4 := hb4.size
    clear hb4
    refine hK.out _ _ ⟨HN1.out.2.2, HN2.out.2.2⟩ (fun hHeld => ?_)
    clear hK K
    try simp only [Act.put, List.setIfInBounds_toArray, List.set_cons_zero, List.set_cons_succ]
    generalize sameB xs1 ys1 = s1 at HF ⊢
    cases s1
    · refine wpAnyH_take (i := 11) (oi := { dst := some 16, op := Op.pick (Operand.tmp 10) (Operand.tmp 15) (Operand.const (Value.bool false)), type := 4, pos := _, after := _, guard := none }) (v := .bool false) rfl (by kernel_rfl) (by kernel_rfl) (by kernel_rfl) (fun _ _ _ h => h) (Or.inl ⟨by rfl, fun w' hS' => by go_simp⟩) (by assumption) ?_
      simp only [Act.put, List.setIfInBounds_toArray, List.set_cons_zero, List.set_cons_succ]
      refine wpAnyH_take (i := 12) (oi := { dst := some 17, op := Op.move (Operand.tmp 16), type := 4, pos := _, after := _, guard := none }) (v := .bool false) rfl (by kernel_rfl) (by kernel_rfl) (by kernel_rfl) (fun _ _ _ h => h) (Or.inl ⟨by rfl, fun w' hS' => by go_simp⟩) (by assumption) ?_
      simp only [Act.put, List.setIfInBounds_toArray, List.set_cons_zero, List.set_cons_succ]
      refine wpAnyH_take (i := 13) (oi := { dst := some 18, op := Op.fieldAddr 25 (Operand.tmp 2) 4, type := 0, pos := _, after := _, guard := some (12, true) }) (v := undef) rfl (by kernel_rfl) (by kernel_rfl) (by kernel_rfl) (fun _ _ _ h => h) (Or.inr ⟨by rfl, rfl⟩) (by assumption) ?_
      simp only [Act.put, List.setIfInBounds_toArray, List.set_cons_zero, List.set_cons_succ]
      refine wpAnyH_take (i := 14) (oi := { dst := some 19, op := Op.load 23 (Operand.tmp 18), type := 23, pos := _, after := _, guard := some (12, true) }) (v := undef) rfl (by kernel_rfl) (by kernel_rfl) (by kernel_rfl) (fun _ _ _ h => h) (Or.inr ⟨by rfl, rfl⟩) (by assumption) ?_
      simp only [Act.put, List.setIfInBounds_toArray, List.set_cons_zero, List.set_cons_succ]
      refine wpAnyH_take (i := 15) (oi := { dst := some 20, op := Op.fieldAddr 25 (Operand.tmp 3) 4, type := 0, pos := _, after := _, guard := some (12, true) }) (v := undef) rfl (by kernel_rfl) (by kernel_rfl) (by kernel_rfl) (fun _ _ _ h => h) (Or.inr ⟨by rfl, rfl⟩) (by assumption) ?_
      simp only [Act.put, List.setIfInBounds_toArray, List.set_cons_zero, List.set_cons_succ]
      refine wpAnyH_take (i := 16) (oi := { dst := some 21, op := Op.load 23 (Operand.tmp 20), type := 23, pos := _, after := _, guard := some (12, true) }) (v := undef) rfl (by kernel_rfl) (by kernel_rfl) (by kernel_rfl) (fun _ _ _ h => h) (Or.inr ⟨by rfl, rfl⟩) (by assumption) ?_
      simp only [Act.put, List.setIfInBounds_toArray, List.set_cons_zero, List.set_cons_succ]
      refine wpAnyH_take (i := 17) (oi := { dst := some 22, op := Op.call { callee := Callee.value (Operand.func 92), args := #[Operand.tmp 19, Operand.tmp 21], argTypes := #[23, 23] }, type := 4, pos := _, after := _, guard := some (12, true) }) (v := undef) rfl (by kernel_rfl) (by kernel_rfl) (by kernel_rfl) (fun _ _ _ h => h) (Or.inr ⟨by rfl, rfl⟩) (by assumption) ?_
      simp only [Act.put, List.setIfInBounds_toArray, List.set_cons_zero, List.set_cons_succ]
      refine wpAnyH_take (i := 18) (oi := { dst := some 23, op := Op.pick (Operand.tmp 17) (Operand.tmp 22) (Operand.const (Value.bool false)), type := 4, pos := _, after := _, guard := none }) (v := .bool false) rfl (by kernel_rfl) (by kernel_rfl) (by kernel_rfl) (fun _ _ _ h => h) (Or.inl ⟨by rfl, fun w' hS' => by go_simp⟩) (by assumption) ?_
      simp only [Act.put, List.setIfInBounds_toArray, List.set_cons_zero, List.set_cons_succ]
      refine wpAnyH_take (i := 19) (oi := { dst := some 4, op := Op.assign (Operand.tmp 23), type := 4, pos := _, after := _, guard := none }) (v := .bool false) rfl (by kernel_rfl) (by kernel_rfl) (by kernel_rfl) (fun _ _ _ h => h) (Or.inl ⟨by rfl, fun w' hS' => by go_simp⟩) (by assumption) ?_
      simp only [Act.put, List.setIfInBounds_toArray, List.set_cons_zero, List.set_cons_succ]
      refine wpAnyH_done (by kernel_rfl) ?_ _
      go_wp2
      go_ret
      exact ⟨by rw [HF.out]; rfl, HB4.out⟩
    · refine wpAnyH_take (i := 11) (oi := { dst := some 16, op := Op.pick (Operand.tmp 10) (Operand.tmp 15) (Operand.const (Value.bool false)), type := 4, pos := _, after := _, guard := none }) (v := .bool true) rfl (by kernel_rfl) (by kernel_rfl) (by kernel_rfl) (fun _ _ _ h => h) (Or.inl ⟨by rfl, fun w' hS' => by go_simp⟩) (by assumption) ?_
      simp only [Act.put, List.setIfInBounds_toArray, List.set_cons_zero, List.set_cons_succ]
      refine wpAnyH_take (i := 12) (oi := { dst := some 17, op := Op.move (Operand.tmp 16), type := 4, pos := _, after := _, guard := none }) (v := .bool true) rfl (by kernel_rfl) (by kernel_rfl) (by kernel_rfl) (fun _ _ _ h => h) (Or.inl ⟨by rfl, fun w' hS' => by go_simp⟩) (by assumption) ?_
      simp only [Act.put, List.setIfInBounds_toArray, List.set_cons_zero, List.set_cons_succ]
      refine wpAnyH_take (i := 13) (oi := { dst := some 18, op := Op.fieldAddr 25 (Operand.tmp 2) 4, type := 0, pos := _, after := _, guard := some (12, true) }) (v := .pointer (some ⟨w.heap.size, 4, none⟩)) rfl (by kernel_rfl) (by kernel_rfl) (by kernel_rfl) (fun _ _ _ h => h) (Or.inl ⟨by rfl, fun w' hS' => by go_simp⟩) (by assumption) ?_
      simp only [Act.put, List.setIfInBounds_toArray, List.set_cons_zero, List.set_cons_succ]
      refine wpAnyH_take (i := 14) (oi := { dst := some 19, op := Op.load 23 (Operand.tmp 18), type := 23, pos := _, after := _, guard := some (12, true) }) (v := .slice A2 a2 c2) rfl (by kernel_rfl) (by kernel_rfl) (by kernel_rfl) (fun _ _ _ h => h) (Or.inl ⟨by rfl, fun w' hS' => by go_simp⟩) (by assumption) ?_
      simp only [Act.put, List.setIfInBounds_toArray, List.set_cons_zero, List.set_cons_succ]
      refine wpAnyH_take (i := 15) (oi := { dst := some 20, op := Op.fieldAddr 25 (Operand.tmp 3) 4, type := 0, pos := _, after := _, guard := some (12, true) }) (v := .pointer (some ⟨w.heap.size + 1, 4, none⟩)) rfl (by kernel_rfl) (by kernel_rfl) (by kernel_rfl) (fun _ _ _ h => h) (Or.inl ⟨by rfl, fun w' hS' => by go_simp⟩) (by assumption) ?_
      simp only [Act.put, List.setIfInBounds_toArray, List.set_cons_zero, List.set_cons_succ]
      refine wpAnyH_take (i := 16) (oi := { dst := some 21, op := Op.load 23 (Operand.tmp 20), type := 23, pos := _, after := _, guard := some (12, true) }) (v := .slice B2 b2 d2) rfl (by kernel_rfl) (by kernel_rfl) (by kernel_rfl) (fun _ _ _ h => h) (Or.inl ⟨by rfl, fun w' hS' => by go_simp⟩) (by assumption) ?_
      simp only [Act.put, List.setIfInBounds_toArray, List.set_cons_zero, List.set_cons_succ]
      refine wpAnyH_ready (rs := [17]) (by kernel_rfl) (by simp) ?_
      refine AllReadyH.cons (o := { dst := some 22, op := Op.call { callee := Callee.value (Operand.func 92), args := #[Operand.tmp 19, Operand.tmp 21], argTypes := #[23, 23] }, type := 4, pos := _, after := _, guard := some (12, true) }) rfl (fun K hK => ?_) AllReadyH.nil
      go_simp
      refine (equal_any _ _ _ xs2 _ _ _ ys2 _ (R2.out.kept HB4.out) (Q2.out.kept HB4.out) HA2.out HB2s.out).mono ?_
      rintro e w5 ⟨rfl, hb5⟩
      have HO1 := Lib.hid (HN1.out.kept hb5 (by omega))
      have HO2 := Lib.hid (HN2.out.kept hb5 (by omega))
      have HB5 := Lib.hid (HB4.out.trans (hb5.mono (by omega)))
      clear hb5
      refine hK.out _ _ ⟨HO1.out.2.2, HO2.out.2.2⟩ (fun hHeld => ?_)
      clear hK K
      try simp only [Act.put, List.setIfInBounds_toArray, List.set_cons_zero, List.set_cons_succ]
      refine wpAnyH_take (i := 18) (oi := { dst := some 23, op := Op.pick (Operand.tmp 17) (Operand.tmp 22) (Operand.const (Value.bool false)), type := 4, pos := _, after := _, guard := none }) (v := .bool (sameB xs2 ys2)) rfl (by kernel_rfl) (by kernel_rfl) (by kernel_rfl) (fun _ _ _ h => h) (Or.inl ⟨by rfl, fun w' hS' => by go_simp⟩) (by assumption) ?_
      simp only [Act.put, List.setIfInBounds_toArray, List.set_cons_zero, List.set_cons_succ]
      refine wpAnyH_take (i := 19) (oi := { dst := some 4, op := Op.assign (Operand.tmp 23), type := 4, pos := _, after := _, guard := none }) (v := .bool (sameB xs2 ys2)) rfl (by kernel_rfl) (by kernel_rfl) (by kernel_rfl) (fun _ _ _ h => h) (Or.inl ⟨by rfl, fun w' hS' => by go_simp⟩) (by assumption) ?_
      simp only [Act.put, List.setIfInBounds_toArray, List.set_cons_zero, List.set_cons_succ]
      refine wpAnyH_done (by kernel_rfl) ?_ _
      go_wp2
      go_ret
      exact ⟨by rw [HF.out]; rfl, HB5.out⟩
  · have HF : Hid (sameV ⟨n0, n1, n2, xs1, xs2⟩ ⟨m0, m1, m2, ys1, ys2⟩ = false) := by unfold Hid sameV; rw [decide_eq_false hn]; rfl
    have hq : (((n0 : Int) == (m0 : Int)) && (((n1 : Int) == (m1 : Int)) && ((n2 : Int) == (m2 : Int)))) = false := by
      rw [← Bool.not_eq_true]; simp only [Bool.and_eq_true, beq_iff_eq]; omega
    have kq := fun W => run_eq3 n0 n1 n2 m0 m1 m2 W
    rw [hq] at kq
    clear hn hq
    go_enter Tryz.func56, Tryz.ntmps56
    go_upto_region 1 with (fail)
    refine wp_region_held_drew (S := fun w' => (w'.cell? ⟨w.heap.size, 0, none⟩ = some (.int .u64 (n0 : Int)) ∧ w'.cell? ⟨w.heap.size, 1, none⟩ = some (.int .u64 (n1 : Int)) ∧ w'.cell? ⟨w.heap.size, 2, none⟩ = some (.int .u64 (n2 : Int)) ∧ w'.cell? ⟨w.heap.size, 3, none⟩ = some (.slice A1 a1 c1) ∧ w'.cell? ⟨w.heap.size, 4, none⟩ = some (.slice A2 a2 c2)) ∧ (w'.cell? ⟨(w.heap.size + 1), 0, none⟩ = some (.int .u64 (m0 : Int)) ∧ w'.cell? ⟨(w.heap.size + 1), 1, none⟩ = some (.int .u64 (m1 : Int)) ∧ w'.cell? ⟨(w.heap.size + 1), 2, none⟩ = some (.int .u64 (m2 : Int)) ∧ w'.cell? ⟨(w.heap.size + 1), 3, none⟩ = some (.slice B1 b1 d1) ∧ w'.cell? ⟨(w.heap.size + 1), 4, none⟩ = some (.slice B2 b2 d2))) (by kernel_rfl) ⟨HP1.out.2.2, HP2.out.2.2⟩ (fun hHeld => ?_)
    refine wpAnyH_take (i := 0) (oi := { dst := some 5, op := Op.load 25 (Operand.tmp 2), type := 25, pos := _, after := _, guard := none }) (v := .agg #[.int .u64 (n0 : Int), .int .u64 (n1 : Int), .int .u64 (n2 : Int), .slice A1 a1 c1, .slice A2 a2 c2]) rfl (by kernel_rfl) (by kernel_rfl) (by kernel_rfl) (fun _ _ _ h => h) (Or.inl ⟨by rfl, fun w' hS' => by go_simp⟩) (by assumption) ?_
    simp only [Act.put, List.setIfInBounds_toArray, List.set_cons_zero, List.set_cons_succ]
    refine wpAnyH_take (i := 2) (oi := { dst := some 7, op := Op.load 25 (Operand.tmp 3), type := 25, pos := _, after := _, guard := none }) (v := .agg #[.int .u64 (m0 : Int), .int .u64 (m1 : Int), .int .u64 (m2 : Int), .slice B1 b1 d1, .slice B2 b2 d2]) rfl (by kernel_rfl) (by kernel_rfl) (by kernel_rfl) (fun _ _ _ h => h) (Or.inl ⟨by rfl, fun w' hS' => by go_simp⟩) (by assumption) ?_
    simp only [Act.put, List.setIfInBounds_toArray, List.set_cons_zero, List.set_cons_succ]
    refine wpAnyH_ready (rs := [1]) (by kernel_rfl) (by simp) ?_
    refine AllReadyH.cons (o := { dst := some 6, op := Op.call { callee := Callee.value (Operand.func 71), args := #[Operand.tmp 5], argTypes := #[25] }, type := 99, pos := _, after := _, guard := none }) rfl (fun K hK => ?_) AllReadyH.nil
    go_simp
    refine (coreOf_any _ _ _ _ _ _).mono ?_
    rintro e w2 ⟨rfl, hb2⟩
    have HK1 := Lib.hid ((HP1.out.kept HD.out (by simp; omega)).kept hb2 (by simp; omega))
    have HK2 := Lib.hid ((HP2.out.kept HD.out (by simp)).kept hb2 (by simp))
    have HB2 := Lib.hid ((HB0.out.trans HDw.out).trans (hb2.mono (by simp; omega)))
    have hz2 : w.heap.size + 2 ≤ w2.heap.size := by have := hb2.size; simpa using this
    clear hb2
    refine hK.out _ _ ⟨HK1.out.2.2, HK2.out.2.2⟩ (fun hHeld => ?_)
    clear hK K
    try simp only [Act.put, List.setIfInBounds_toArray, List.set_cons_zero, List.set_cons_succ]
    refine wpAnyH_ready (rs := [3]) (by kernel_rfl) (by simp) ?_
    refine AllReadyH.cons (o := { dst := some 8, op := Op.call { callee := Callee.value (Operand.func 71), args := #[Operand.tmp 7], argTypes := #[25] }, type := 99, pos := _, after := _, guard := none }) rfl (fun K hK => ?_) AllReadyH.nil
    go_simp
    refine (coreOf_any _ _ _ _ _ _).mono ?_
    rintro e w3 ⟨rfl, hb3⟩
    have HM1 := Lib.hid (HK1.out.kept hb3 (by omega))
    have HM2 := Lib.hid (HK2.out.kept hb3 (by omega))
    have HB3 := Lib.hid (HB2.out.trans (hb3.mono (by omega)))
    have hz3 := hb3.size
    clear hb3
    refine hK.out _ _ ⟨HM1.out.2.2, HM2.out.2.2⟩ (fun hHeld => ?_)
    clear hK K
    try simp only [Act.put, List.setIfInBounds_toArray, List.set_cons_zero, List.set_cons_succ]
    refine wpAnyH_take (i := 4) (oi := { dst := some 9, op := Op.binOp BinOp.eql 99 (Operand.tmp 6) (Operand.tmp 8) 99, type := 4, pos := _, after := _, guard := none }) (v := .bool false) rfl (by kernel_rfl) (by kernel_rfl) (by kernel_rfl) (fun _ _ _ h => h) (Or.inl ⟨by rfl, fun w' hS' => by go_simp⟩) (by assumption) ?_
    simp only [Act.put, List.setIfInBounds_toArray, List.set_cons_zero, List.set_cons_succ]
    refine wpAnyH_take (i := 5) (oi := { dst := some 10, op := Op.move (Operand.tmp 9), type := 4, pos := _, after := _, guard := none }) (v := .bool false) rfl (by kernel_rfl) (by kernel_rfl) (by kernel_rfl) (fun _ _ _ h => h) (Or.inl ⟨by rfl, fun w' hS' => by go_simp⟩) (by assumption) ?_
    simp only [Act.put, List.setIfInBounds_toArray, List.set_cons_zero, List.set_cons_succ]
    refine wpAnyH_take (i := 6) (oi := { dst := some 11, op := Op.fieldAddr 25 (Operand.tmp 2) 3, type := 0, pos := _, after := _, guard := some (5, true) }) (v := undef) rfl (by kernel_rfl) (by kernel_rfl) (by kernel_rfl) (fun _ _ _ h => h) (Or.inr ⟨by rfl, rfl⟩) (by assumption) ?_
    simp only [Act.put, List.setIfInBounds_toArray, List.set_cons_zero, List.set_cons_succ]
    refine wpAnyH_take (i := 7) (oi := { dst := some 12, op := Op.load 23 (Operand.tmp 11), type := 23, pos := _, after := _, guard := some (5, true) }) (v := undef) rfl (by kernel_rfl) (by kernel_rfl) (by kernel_rfl) (fun _ _ _ h => h) (Or.inr ⟨by rfl, rfl⟩) (by assumption) ?_
    simp only [Act.put, List.setIfInBounds_toArray, List.set_cons_zero, List.set_cons_succ]
    refine wpAnyH_take (i := 8) (oi := { dst := some 13, op := Op.fieldAddr 25 (Operand.tmp 3) 3, type := 0, pos := _, after := _, guard := some (5, true) }) (v := undef) rfl (by kernel_rfl) (by kernel_rfl) (by kernel_rfl) (fun _ _ _ h => h) (Or.inr ⟨by rfl, rfl⟩) (by assumption) ?_
    simp only [Act.put, List.setIfInBounds_toArray, List.set_cons_zero, List.set_cons_succ]
    refine wpAnyH_take (i := 9) (oi := { dst := some 14, op := Op.load 23 (Operand.tmp 13), type := 23, pos := _, after := _, guard := some (5, true) }) (v := undef) rfl (by kernel_rfl) (by kernel_rfl) (by kernel_rfl) (fun _ _ _ h => h) (Or.inr ⟨by rfl, rfl⟩) (by assumption) ?_
    simp only [Act.put, List.setIfInBounds_toArray, List.set_cons_zero, List.set_cons_succ]
    refine wpAnyH_take (i := 10) (oi := { dst := some 15, op := Op.call { callee := Callee.value (Operand.func 92), args := #[Operand.tmp 12, Operand.tmp 14], argTypes := #[23, 23] }, type := 4, pos := _, after := _, guard := some (5, true) }) (v := undef) rfl (by kernel_rfl) (by kernel_rfl) (by kernel_rfl) (fun _ _ _ h => h) (Or.inr ⟨by rfl, rfl⟩) (by assumption) ?_
    simp only [Act.put, List.setIfInBounds_toArray, List.set_cons_zero, List.set_cons_succ]
    refine wpAnyH_take (i := 11) (oi := { dst := some 16, op := Op.pick (Operand.tmp 10) (Operand.tmp 15) (Operand.const (Value.bool false)), type := 4, pos := _, after := _, guard := none }) (v := .bool false) rfl (by kernel_rfl) (by kernel_rfl) (by kernel_rfl) (fun _ _ _ h => h) (Or.inl ⟨by rfl, fun w' hS' => by go_simp⟩) (by assumption) ?_
    simp only [Act.put, List.setIfInBounds_toArray, List.set_cons_zero, List.set_cons_succ]
    refine wpAnyH_take (i := 12) (oi := { dst := some 17, op := Op.move (Operand.tmp 16), type := 4, pos := _, after := _, guard := none }) (v := .bool false) rfl (by kernel_rfl) (by kernel_rfl) (by kernel_rfl) (fun _ _ _ h => h) (Or.inl ⟨by rfl, fun w' hS' => by go_simp⟩) (by assumption) ?_
    simp only [Act.put, List.setIfInBounds_toArray, List.set_cons_zero, List.set_cons_succ]
    refine wpAnyH_take (i := 13) (oi := { dst := some 18, op := Op.fieldAddr 25 (Operand.tmp 2) 4, type := 0, pos := _, after := _, guard := some (12, true) }) (v := undef) rfl (by kernel_rfl) (by kernel_rfl) (by kernel_rfl) (fun _ _ _ h => h) (Or.inr ⟨by rfl, rfl⟩) (by assumption) ?_
    simp only [Act.put, List.setIfInBounds_toArray, List.set_cons_zero, List.set_cons_succ]
    refine wpAnyH_take (i := 14) (oi := { dst := some 19, op := Op.load 23 (Operand.tmp 18), type := 23, pos := _, after := _, guard := some (12, true) }) (v := undef) rfl (by kernel_rfl) (by kernel_rfl) (by kernel_rfl) (fun _ _ _ h => h) (Or.inr ⟨by rfl, rfl⟩) (by assumption) ?_
    simp only [Act.put, List.setIfInBounds_toArray, List.set_cons_zero, List.set_cons_succ]
    refine wpAnyH_take (i := 15) (oi := { dst := some 20, op := Op.fieldAddr 25 (Operand.tmp 3) 4, type := 0, pos := _, after := _, guard := some (12, true) }) (v := undef) rfl (by kernel_rfl) (by kernel_rfl) (by kernel_rfl) (fun _ _ _ h => h) (Or.inr ⟨by rfl, rfl⟩) (by assumption) ?_
    simp only [Act.put, List.setIfInBounds_toArray, List.set_cons_zero, List.set_cons_succ]
    refine wpAnyH_take (i := 16) (oi := { dst := some 21, op := Op.load 23 (Operand.tmp 20), type := 23, pos := _, after := _, guard := some (12, true) }) (v := undef) rfl (by kernel_rfl) (by kernel_rfl) (by kernel_rfl) (fun _ _ _ h => h) (Or.inr ⟨by rfl, rfl⟩) (by assumption) ?_
    simp only [Act.put, List.setIfInBounds_toArray, List.set_cons_zero, List.set_cons_succ]
    refine wpAnyH_take (i := 17) (oi := { dst := some 22, op := Op.call { callee := Callee.value (Operand.func 92), args := #[Operand.tmp 19, Operand.tmp 21], argTypes := #[23, 23] }, type := 4, pos := _, after := _, guard := some (12, true) }) (v := undef) rfl (by kernel_rfl) (by kernel_rfl) (by kernel_rfl) (fun _ _ _ h => h) (Or.inr ⟨by rfl, rfl⟩) (by assumption) ?_
    simp only [Act.put, List.setIfInBounds_toArray, List.set_cons_zero, List.set_cons_succ]
    refine wpAnyH_take (i := 18) (oi := { dst := some 23, op := Op.pick (Operand.tmp 17) (Operand.tmp 22) (Operand.const (Value.bool false)), type := 4, pos := _, after := _, guard := none }) (v := .bool false) rfl (by kernel_rfl) (by kernel_rfl) (by kernel_rfl) (fun _ _ _ h => h) (Or.inl ⟨by rfl, fun w' hS' => by go_simp⟩) (by assumption) ?_
    simp only [Act.put, List.setIfInBounds_toArray, List.set_cons_zero, List.set_cons_succ]
    refine wpAnyH_take (i := 19) (oi := { dst := some 4, op := Op.assign (Operand.tmp 23), type := 4, pos := _, after := _, guard := none }) (v := .bool false) rfl (by kernel_rfl) (by kernel_rfl) (by kernel_rfl) (fun _ _ _ h => h) (Or.inl ⟨by rfl, fun w' hS' => by go_simp⟩) (by assumption) ?_
    simp only [Act.put, List.setIfInBounds_toArray, List.set_cons_zero, List.set_cons_succ]
    refine wpAnyH_done (by kernel_rfl) ?_ _
    go_wp2
    go_ret
    exact ⟨by rw [HF.out]; rfl, HB3.out⟩
end Go.Proofs.YtgfbflnhjpbceaaGreatDoor.Semver

namespace Go.Proofs.YtgfbflnhjpbceaaGreatDoor.Ident
open Go.RowKit Num

def digB (x : Int) : Bool := decide (48 ≤ x ∧ x ≤ 57)
def letB (x : Int) : Bool := decide ((65 ≤ x ∧ x ≤ 90) ∨ (97 ≤ x ∧ x ≤ 122))
theorem digB_yes {x : Int} (h : 48 ≤ x ∧ x ≤ 57) : digB x = true := decide_eq_true h
theorem digB_no {x : Int} (h : ¬ (48 ≤ x ∧ x ≤ 57)) : digB x = false := decide_eq_false h
theorem letB_yes {x : Int} (h : (65 ≤ x ∧ x ≤ 90) ∨ (97 ≤ x ∧ x ≤ 122)) : letB x = true := decide_eq_true h
theorem letB_no {x : Int} (h : ¬ ((65 ≤ x ∧ x ≤ 90) ∨ (97 ≤ x ∧ x ≤ 122))) : letB x = false := decide_eq_false h
theorem digB_at (b : UInt8) : digB (b.toNat : Int) = isDig b := by
  rw [Bool.eq_iff_iff, isDig_iff]; unfold digB; rw [decide_eq_true_eq]; omega
theorem letB_at (b : UInt8) : letB (b.toNat : Int) = isLet b := by
  rw [Bool.eq_iff_iff, isLet_iff]; unfold letB; rw [decide_eq_true_eq]; omega
/-- Is this number an identifier's byte? -/
def idB (x : Int) : Bool := digB x || letB x || x == 45
theorem idB_at (b : UInt8) : idB (b.toNat : Int) = isId b := by
  unfold idB isId; rw [digB_at, letB_at]; congr 1; rw [Bool.eq_iff_iff]; simp; omega
theorem fault_5 {s : List UInt8} (i : Nat) (pre : Bool) (h : s.length = 0) : fault s i pre = 5 := by unfold fault; rw [if_pos h]
theorem fault_4 {s : List UInt8} {i : Nat} (pre : Bool) (h0 : s.length ≠ 0) (h : 255 < s.length ∨ 16 ≤ i) : fault s i pre = 4 := by unfold fault; rw [if_neg h0, if_pos h]
theorem fault_3 {s : List UInt8} {i : Nat} {pre : Bool} (h0 : s.length ≠ 0) (h1 : ¬ (255 < s.length ∨ 16 ≤ i)) (h : pre = true ∧ numeric s = true ∧ isNum s = false) : fault s i pre = 3 := by
  unfold fault; rw [if_neg h0, if_neg h1, if_pos h]
theorem fault_0 {s : List UInt8} {i : Nat} {pre : Bool} (h0 : s.length ≠ 0) (h1 : ¬ (255 < s.length ∨ 16 ≤ i)) (h : ¬ (pre = true ∧ numeric s = true ∧ isNum s = false)) : fault s i pre = 0 := by
  unfold fault; rw [if_neg h0, if_neg h1, if_neg h]
theorem empty_iff (s : ByteArray) : s.toList.isEmpty = true ↔ s.size = 0 := by
  rw [Lib.toList_data, List.isEmpty_iff_length_eq_zero, ← Lib.size_eq]
theorem empty_no (s : ByteArray) : s.toList.isEmpty = false ↔ s.size ≠ 0 := by
  rw [← Bool.not_eq_true, empty_iff]
end Go.Proofs.YtgfbflnhjpbceaaGreatDoor.Ident

namespace Go.Proofs.YtgfbflnhjpbceaaGreatDoor.Ident
open Go.RowKit Num

set_option maxRecDepth 100000 in
set_option maxHeartbeats 400000 in
theorem digit_any (x : Int) (w : World) (h0 : 0 ≤ x) (h1 : x ≤ 255) :
    Calls Tryz.prog 128 #[.int .u8 x] w fun e w' => e = .returned (.bool (digB x)) ∧ w = w' := by
  by_cases ha : 48 ≤ x
  · by_cases hb : x ≤ 57
    · have HF := Lib.hid (digB_yes ⟨ha, hb⟩)
      go_enter Tryz.func128, Tryz.ntmps128
      go_wp2
      go_ret
      exact ⟨by rw [HF.out]; rfl, rfl⟩
    · have HF := Lib.hid (digB_no (x := x) (by omega))
      go_enter Tryz.func128, Tryz.ntmps128
      go_wp2
      go_ret
      exact ⟨by rw [HF.out]; rfl, rfl⟩
  · have HF := Lib.hid (digB_no (x := x) (by omega))
    go_enter Tryz.func128, Tryz.ntmps128
    go_wp2
    go_ret
    exact ⟨by rw [HF.out]; rfl, rfl⟩
def NumcJ (w : World) (s : ByteArray) (a' : Act) (w' : World) : Prop :=
  w = w' ∧ ∃ (k : Nat) (u4 u5 u6 u7 u8 u9 u10 u11 u12 u13 u14 u15 u16 u17 u18 u19 u20 u21 u22 u23 : Value), k ≤ s.size ∧ (∀ j, j < k → isDig (s.data.toList.getD j 0) = true) ∧ a' = { tmps := #[.string s, undef, .bool false, .int .i64 k, u4, u5, u6, u7, u8, u9, u10, u11, u12, u13, u14, u15, u16, u17, u18, u19, u20, u21, u22, u23], defers := [] }
def NumcM (n : Nat) (a' : Act) (_ : World) : Nat := n - (intOf (a'.tmps.getD 3 undef)).toNat
set_option maxRecDepth 100000 in
set_option maxHeartbeats 800000 in
theorem numeric_any (s : ByteArray) (w : World) (hs : s.size ≤ maxLen) :
    Calls Tryz.prog 126 #[.string s] w fun e w' => e = .returned (.bool (numeric s.data.toList)) ∧ w = w' := by
  unfold maxLen at hs
  have HL := Lib.hid (Lib.size_eq s)
  go_enter Tryz.func126, Tryz.ntmps126
  go_wp2
  refine wp_scope_back 0 (NumcJ w s) (NumcM s.size) rfl ?_ ?_
  · rintro a' w' ⟨rfl, k, u4, u5, u6, u7, u8, u9, u10, u11, u12, u13, u14, u15, u16, u17, u18, u19, u20, u21, u22, u23, hk, hd, rfl⟩
    have HD := Lib.hid hd; clear hd
    by_cases hlt : k < s.size
    · have hbd := byteAt_bd s.data.toList k
      have HX := Lib.hid (at_text s k hlt)
      have HI : Hid (isDig (s.data.toList.getD k 0) = digB (byteAt s.data.toList k)) := (digB_at _).symm
      rw [← HX.out] at hbd HI
      obtain ⟨hx0, hx1⟩ := hbd
      go_wp2_with fail
      refine (digit_any _ _ hx0 hx1).mono ?_
      rintro e w' ⟨rfl, rfl⟩
      cases h1 : digB (s[k].toNat : Int)
      · have HS : Hid (run s.data.toList = k) := run_stop _ k (by rw [← HL.out]; omega) HD.out (.inr (by rw [HI.out]; exact h1))
        have HF : Hid (numeric s.data.toList = false) := (numeric_no _).2 fun hh => by rw [HS.out, ← HL.out] at hh; omega
        have H1 := Lib.hid h1; clear h1
        have hne : ((k : Int) == (s.size : Int)) = false := by simp; omega
        by_cases h0 : 0 < k
        · go_wp2
          simp only [Exit.jump]
          go_ret
          exact ⟨by rw [HF.out]; rfl, rfl⟩
        · go_wp2
          simp only [Exit.jump]
          go_ret
          exact ⟨by rw [HF.out]; rfl, rfl⟩
      · have HN : Hid (∀ j, j < k + 1 → isDig (s.data.toList.getD j 0) = true) := fun j hj => by
          rcases Nat.lt_or_ge j k with hj1 | hj1
          · exact HD.out j hj1
          · obtain rfl : j = k := by omega
            rw [HI.out]; exact h1
        have H1 := Lib.hid h1; clear h1
        go_wp2
        go_step3
        rw [show ((k : Int) + 1) = ((k + 1 : Nat) : Int) from rfl]
        refine ⟨rfl, ⟨rfl, k + 1, _, _, _, _, _, _, _, _, _, _, _, _, _, _, _, _, _, _, _, _, by omega, HN.out, rfl⟩, ?_⟩
        simp [NumcM, intOf]; omega
    · obtain rfl : k = s.size := by omega
      have HS : Hid (run s.data.toList = s.size) := run_stop _ s.size (by rw [← HL.out]; omega) HD.out (.inl HL.out)
      by_cases h0 : 0 < s.size
      · have HF : Hid (numeric s.data.toList = true) := (numeric_iff _).2 ⟨by rw [← HL.out]; exact h0, by rw [HS.out, HL.out]⟩
        go_wp2
        simp only [Exit.jump]
        go_ret
        exact ⟨by rw [HF.out]; rfl, rfl⟩
      · have HF : Hid (numeric s.data.toList = false) := (numeric_no _).2 fun hh => h0 (by rw [HL.out]; exact hh.1)
        go_wp2
        simp only [Exit.jump]
        go_ret
        exact ⟨by rw [HF.out]; rfl, rfl⟩
  · intro HP
    go_wp2
    go_step3
    rename_i hK
    exact hK _ _ (HP.out _ _ ⟨rfl, 0, _, _, _, _, _, _, _, _, _, _, _, _, _, _, _, _, _, _, _, _, by omega, (fun j hj => by omega), rfl⟩)
end Go.Proofs.YtgfbflnhjpbceaaGreatDoor.Ident
