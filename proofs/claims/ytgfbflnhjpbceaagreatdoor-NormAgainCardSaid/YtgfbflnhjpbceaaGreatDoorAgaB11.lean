/-
  What the theorem of the last text needs of these: RgExt, RgFore, RgGood. Conditions: as each theorem states.
-/
import Derived.Test.YtgfbflnhjpbceaaGreatDoorAgaB1
import Derived.Test.YtgfbflnhjpbceaaGreatDoorAgaB8
import Derived.Test.YtgfbflnhjpbceaaGreatDoorAgaB9
import Derived.Test.YtgfbflnhjpbceaaGreatDoorAgaB10
set_option maxRecDepth 100000
set_option maxHeartbeats 25600000
namespace Go.Proofs.YtgfbflnhjpbceaaGreatDoor.Range
open Num Ident Semver

def Stop (B : List UInt8) : Prop := ∀ b t, B = b :: t → isId b = false ∧ b.toNat ≠ 46 ∧ b.toNat ≠ 43
theorem Stop.nil : Stop [] := fun b t h => by cases h
theorem Stop.cons {b : UInt8} {t : List UInt8} (h : isId b = false ∧ b.toNat ≠ 46 ∧ b.toNat ≠ 43) : Stop (b :: t) := fun b' t' e => by injection e with e _; rw [← e]; exact h
theorem id_dig {b : UInt8} (h : isId b = false) : isDig b = false := by
 cases hd : isDig b with
 | false => rfl
 | true => unfold isId at h; rw [hd] at h; simp at h
theorem id_45 {b : UInt8} (h : isId b = false) : b.toNat ≠ 45 := by
 intro e
 have e2 : b = 45 := UInt8.toNat_inj.1 e
 rw [e2] at h
 exact absurd h (by decide)
theorem run_ext {B : List UInt8} (hB : Stop B) : ∀ x : List UInt8, run (x ++ B) = run x
 | [] => by
  cases B with
  | nil => rfl
  | cons b t =>
   have h := id_dig (hB b t rfl).1
   show run (b :: t) = 0
   unfold run; rw [h]; rfl
 | b :: x => by rw [List.cons_append, run, run, run_ext hB x]
theorem parse_ext {B : List UInt8} (hB : Stop B) {l : List UInt8} {p : Nat} (hp : p ≤ l.length) : parse (l ++ B) p = parse l p := by
 have a1 : ¬ ((p : Int) < 0 ∨ ((l ++ B).length : Int) < (p : Int)) := by rw [List.length_append]; omega
 have a2 : ¬ ((p : Int) < 0 ∨ (l.length : Int) < (p : Int)) := by omega
 unfold parse
 rw [if_neg a1, if_neg a2, Int.toNat_natCast, List.drop_append_of_le_length hp]
 simp only [run_ext hB, List.take_append_of_le_length (run_le (l.drop p))]
theorem go_ext {B : List UInt8} (hB : Stop B) (pre : Bool) : ∀ (x w : List UInt8) (acc : List (List UInt8)) (n : Nat), go pre (x ++ B) w acc n = go pre x w acc n
 | [], w, acc, n => by
  cases B with
  | nil => rfl
  | cons b t => rw [List.nil_append, go_else (hB b t rfl).1 (hB b t rfl).2.1, go]
 | b :: x, w, acc, n => by rw [List.cons_append, go, go, go_ext hB pre x, go_ext hB pre x]
theorem row_ext {B : List UInt8} (hB : Stop B) {l : List UInt8} {p : Nat} (pre : Bool) (hp : p ≤ l.length) : row (l ++ B) (p : Int) pre = row l (p : Int) pre := by
 have a1 : ¬ ((p : Int) < 0 ∨ ((l ++ B).length : Int) < (p : Int)) := by rw [List.length_append]; omega
 have a2 : ¬ ((p : Int) < 0 ∨ (l.length : Int) < (p : Int)) := by omega
 unfold row
 rw [if_neg a1, if_neg a2, Int.toNat_natCast, List.drop_append_of_le_length hp, go_ext hB]
theorem byte_in (l B : List UInt8) {q : Nat} (hq : q < l.length) : byteAt (l ++ B) q = byteAt l q := by
 unfold byteAt List.getD
 rw [List.getElem?_append_left hq]
theorem byte_end (l : List UInt8) {B : List UInt8} (hB : Stop B) : byteAt (l ++ B) l.length ≠ 46 ∧ byteAt (l ++ B) l.length ≠ 45 ∧ byteAt (l ++ B) l.length ≠ 43 := by
 have := byteAt_place l B 0
 rw [Nat.add_zero] at this
 rw [this]
 cases B with
 | nil => decide
 | cons b t =>
  have h := hB b t rfl
  have h2 := id_45 h.1
  unfold byteAt
  simp only [List.getD_cons_zero]
  omega
theorem point_ext {B : List UInt8} (hB : Stop B) {l : List UInt8} {q : Nat} (hq : q ≤ l.length) : point (l ++ B) q = 0 ↔ point l q = 0 := by
 by_cases h : q = l.length
 ·subst h
  rw [point_end rfl]
  by_cases h2 : l.length = (l ++ B).length
  ·rw [point_end h2]
  ·rw [Semver.point_no h2 (byte_end l hB).1]; simp
 ·unfold point
  rw [byte_in l B (by omega), if_neg h, if_neg (by rw [List.length_append]; omega)]
theorem rowAt_ext {B : List UInt8} (hB : Stop B) {l : List UInt8} {p m : Nat} (hm : m = 45 ∨ m = 43) (hp : p ≤ l.length) : Semver.rowAt (l ++ B) p m = Semver.rowAt l p m := by
 by_cases h : p = l.length
 ·rw [rowAt_none (.inl h), rowAt_none]
  right
  rw [h]
  have := byte_end l hB
  rcases hm with rfl | rfl
  ·exact this.2.1
  ·exact this.2.2
 ·unfold Semver.rowAt
  rw [byte_in l B (by omega), row_ext hB _ (by omega)]
  have e : (p = (l ++ B).length ∨ byteAt l p ≠ (m : Int)) ↔ (p = l.length ∨ byteAt l p ≠ (m : Int)) := by
   rw [List.length_append]
   constructor
   ·rintro (h1 | h1)
    ·omega
    ·exact .inr h1
   ·rintro (h1 | h1)
    ·omega
    ·exact .inr h1
  simp only [e]
def Alike {α : Type} (a b : Nat × α) : Prop := (a.1 = 0 ↔ b.1 = 0) ∧ a.2 = b.2
theorem Alike.refl {α : Type} (a : Nat × α) : Alike a a := ⟨Iff.rfl, rfl⟩
theorem core2_ext {B : List UInt8} (hB : Stop B) {l : List UInt8} (x y : Nat) {p : Nat} (hp : p ≤ l.length) : core2 (l ++ B) x y p = core2 l x y p := by
 unfold core2; rw [parse_ext hB hp]
theorem after2_ext {B : List UInt8} (hB : Stop B) {l : List UInt8} (x y : Nat) {q : Nat} (hq : q ≤ l.length) : Alike (after2 (l ++ B) x y q) (after2 l x y q) := by
 have h := point_ext hB hq
 unfold after2
 by_cases h0 : point l q = 0
 ·rw [if_neg (by simp [h.2 h0]), if_neg (by simp [h0]), core2_ext hB x y (point_lt hq h0)]
  exact Alike.refl _
 ·have h1 : point (l ++ B) q ≠ 0 := fun e => h0 (h.1 e)
  rw [if_pos h1, if_pos h0]
  exact ⟨⟨fun e => absurd e h1, fun e => absurd e h0⟩, rfl⟩
theorem core1_ext {B : List UInt8} (hB : Stop B) {l : List UInt8} (x : Nat) {p : Nat} (hp : p ≤ l.length) : Alike (core1 (l ++ B) x p) (core1 l x p) := by
 unfold core1
 rw [parse_ext hB hp]
 split
 ·exact Alike.refl _
 ·exact after2_ext hB _ _ (parse_end l p hp)
theorem after1_ext {B : List UInt8} (hB : Stop B) {l : List UInt8} (x : Nat) {q : Nat} (hq : q ≤ l.length) : Alike (after1 (l ++ B) x q) (after1 l x q) := by
 have h := point_ext hB hq
 unfold after1
 by_cases h0 : point l q = 0
 ·rw [if_neg (by simp [h.2 h0]), if_neg (by simp [h0])]
  exact core1_ext hB x (point_lt hq h0)
 ·have h1 : point (l ++ B) q ≠ 0 := fun e => h0 (h.1 e)
  rw [if_pos h1, if_pos h0]
  exact ⟨⟨fun e => absurd e h1, fun e => absurd e h0⟩, rfl⟩
theorem core_ext {B : List UInt8} (hB : Stop B) {l : List UInt8} {p : Nat} (hp : p ≤ l.length) : Alike (core (l ++ B) p) (core l p) := by
 unfold core
 rw [parse_ext hB hp]
 split
 ·exact Alike.refl _
 ·exact after1_ext hB _ (parse_end l p hp)
theorem vparse_ext {B : List UInt8} (hB : Stop B) (l : List UInt8) : Alike (vparse (l ++ B) 0) (vparse l 0) := by
 unfold vparse
 rw [if_neg (by omega), if_neg (by omega), Int.toNat_zero]
 obtain ⟨h1, h2⟩ := core_ext hB (Nat.zero_le l.length)
 have hce := core_end l 0 (Nat.zero_le _)
 unfold inside
 rw [h2]
 by_cases h0 : (core l 0).1 = 0
 ·rw [if_neg (by simp [h1.2 h0]), if_neg (by simp [h0])]
  have hre := rowAt_end l (core l 0).2.1 45 hce
  unfold tail1
  rw [rowAt_ext hB (.inl rfl) hce]
  split
  ·exact Alike.refl _
  ·unfold tail2
   rw [rowAt_ext hB (.inr rfl) hre]
   exact Alike.refl _
 ·have h3 : (core (l ++ B) 0).1 ≠ 0 := fun e => h0 (h1.1 e)
  rw [if_pos h3, if_pos h0]
  exact ⟨⟨fun e => absurd e h3, fun e => absurd e h0⟩, rfl⟩
theorem vparse_cat {v : Ver} (h : goodV v = true) {B : List UInt8} (hB : Stop B) : vparse (vtext v ++ B) 0 = (0, (vtext v).length, v) := by
 have h1 := text_read h
 obtain ⟨e1, e2⟩ := vparse_ext hB (vtext v)
 unfold vread at h1
 generalize vparse (vtext v ++ B) 0 = t at e1 e2 ⊢
 generalize vparse (vtext v) 0 = u at e1 e2 h1
 generalize (vtext v).length = n at h1 ⊢
 obtain ⟨x, y, z⟩ := t
 obtain ⟨f, q, r⟩ := u
 simp only at e1 e2 h1
 by_cases h0 : f ≠ 0
 ·rw [if_pos h0] at h1
  exact absurd (congrArg Prod.fst h1) h0
 ·rw [if_neg h0] at h1
  have hf : f = 0 := by simpa using h0
  by_cases h2 : q ≠ n
  ·rw [if_pos h2] at h1
   exact absurd (congrArg Prod.fst h1) (show (13 : Nat) ≠ 0 by decide)
  ·rw [if_neg h2] at h1
   have hq : q = n := by simpa using h2
   have hr : r = v := congrArg (fun t => t.2.2) h1
   have hx : x = 0 := e1.2 hf
   have hy : y = q := congrArg Prod.fst e2
   have hz : z = r := congrArg Prod.snd e2
   rw [hx, hy, hz, hq, hr]
end Go.Proofs.YtgfbflnhjpbceaaGreatDoor.Range
namespace Go.Proofs.YtgfbflnhjpbceaaGreatDoor.Range
open Num Ident Semver

theorem sameV_eq {u v : Ver} (h : sameV u v = true) : u = v := by
 unfold sameV at h
 rw [Bool.and_eq_true, Bool.and_eq_true, decide_eq_true_eq, sameB_iff, sameB_iff] at h
 obtain ⟨a, b, c, p, q⟩ := u
 obtain ⟨a', b', c', p', q'⟩ := v
 obtain ⟨⟨h1, h2, h3⟩, h4, h5⟩ := h
 simp only at h1 h2 h3 h4 h5
 rw [h1, h2, h3, h4, h5]
theorem dig_mem {b : UInt8} (h : isDig b = true) : b ∈ digits := by
 rw [isDig_iff] at h
 have h2 : b.toNat = 48 ∨ b.toNat = 49 ∨ b.toNat = 50 ∨ b.toNat = 51 ∨ b.toNat = 52 ∨ b.toNat = 53 ∨ b.toNat = 54 ∨ b.toNat = 55 ∨ b.toNat = 56 ∨ b.toNat = 57 := by omega
 have e : ∀ k : UInt8, b.toNat = k.toNat → b = k := fun k hk => UInt8.toNat_inj.1 hk
 unfold digits
 rcases h2 with h | h | h | h | h | h | h | h | h | h
 ·rw [e 48 h]; decide
 ·rw [e 49 h]; decide
 ·rw [e 50 h]; decide
 ·rw [e 51 h]; decide
 ·rw [e 52 h]; decide
 ·rw [e 53 h]; decide
 ·rw [e 54 h]; decide
 ·rw [e 55 h]; decide
 ·rw [e 56 h]; decide
 ·rw [e 57 h]; decide
theorem dig_no {b : UInt8} (h : isDig b = true) (k : UInt8) (hk : isDig k = false) : (k == b) = false := by
 rw [beq_eq_false_iff_ne]; intro e; rw [e, h] at hk; cases hk
theorem vtext_head (v : Ver) : ∃ b t, vtext v = b :: t ∧ isDig b = true := by
 have h := (isNum_iff (Lib.decDigits v.a)).1 (dec_num v.a)
 cases hd : Lib.decDigits v.a with
 | nil => rw [hd] at h; simp at h
 | cons b t =>
  refine ⟨b, t ++ [46] ++ Lib.decDigits v.b ++ [46] ++ Lib.decDigits v.c ++ rowText 45 v.pre ++ rowText 43 v.build, ?_, ?_⟩
  ·unfold vtext; rw [hd]; simp
  ·have h2 := run_dig (Lib.decDigits v.a) 0 (by rw [h.2.1]; exact h.1)
   rw [hd] at h2
   simpa using h2
theorem dig_blank {b : UInt8} (h : isDig b = true) : blankB b = false := by
 unfold blankB
 rw [isDig_iff] at h
 have h1 : b ≠ 32 := fun e => by rw [e] at h; exact absurd h.1 (by decide)
 have h2 : b ≠ 9 := fun e => by rw [e] at h; exact absurd h.1 (by decide)
 simp [h1, h2]
theorem op_at {kind : Int} (h1 : 1 ≤ kind) (h2 : kind ≤ 8) {b : UInt8} (hb : isDig b = true) (t : List UInt8) :
  opOf (ops.getD (kind - 1).toNat [] ++ b :: t) = (kind, ops.getD (kind - 1).toNat []) ∧ ops.getD (kind - 1).toNat [] ≠ [] ∧ stands [42] (ops.getD (kind - 1).toNat [] ++ b :: t) = false ∧ stands [40] (ops.getD (kind - 1).toNat [] ++ b :: t) = false := by
 have e61 : ¬ (61 : UInt8) = b := by have := dig_no hb 61 (by decide); simpa using this
 have hk : kind = 1 ∨ kind = 2 ∨ kind = 3 ∨ kind = 4 ∨ kind = 5 ∨ kind = 6 ∨ kind = 7 ∨ kind = 8 := by omega
 rcases hk with rfl | rfl | rfl | rfl | rfl | rfl | rfl | rfl <;> simp [opOf, ops, opFrom, stands_cons, stands_nil, e61]
theorem verAt_cat {v : Ver} (hv : goodV v = true) (kind : Int) {rest : List UInt8} (hr : Stop rest) : verAt kind (vtext v ++ rest) = (0, blanks rest, .mk kind v []) := by
 obtain ⟨b, t, e, hb⟩ := vtext_head v
 have h1 : oneOf digits (vtext v ++ rest) = true := by rw [e]; exact decide_eq_true (dig_mem hb)
 have h2 := vparse_cat hv hr
 unfold verAt
 rw [if_pos h1, h2]
 simp
theorem oneF_ver {sub : Option (List UInt8 → Out)} {kind : Int} (h1 : 1 ≤ kind) (h2 : kind ≤ 8) {v : Ver} (hv : goodV v = true) {rest : List UInt8} (hr : Stop rest) : oneF sub (textR (.mk kind v []) ++ rest) = (0, blanks rest, .mk kind v []) := by
 obtain ⟨b, t, e, hb⟩ := vtext_head v
 have e1 : textR (.mk kind v []) ++ rest = ops.getD (kind - 1).toNat [] ++ b :: (t ++ rest) := by rw [text_ver h1 h2, e]; simp
 have e2 : b :: (t ++ rest) = vtext v ++ rest := by rw [e]; rfl
 obtain ⟨a1, a2, a3, a4⟩ := op_at h1 h2 hb (t ++ rest)
 have e3 : blanks ((ops.getD (kind - 1).toNat [] ++ b :: (t ++ rest)).drop (ops.getD (kind - 1).toNat []).length) = vtext v ++ rest := by
  rw [List.drop_left, blanks_no _ (dig_blank hb), e2]
 rw [e1]
 unfold oneF
 rw [a3, a4, a1]
 simp only [a2, false_and, if_false, Bool.false_eq_true]
 rw [e3]
 exact verAt_cat hv kind hr
theorem oneF_all {sub : Option (List UInt8 → Out)} (rest : List UInt8) : oneF sub (textR noRng ++ rest) = (0, blanks rest, noRng) := by
 have e : textR noRng ++ rest = 42 :: rest := rfl
 rw [e]
 unfold oneF
 rw [stands_cons, stands_nil]
 rfl
theorem good_cases {kind : Int} {v : Ver} {l : List Rng} {d : Nat} (h : goodR (.mk kind v l) d = true) :
  d ≤ 64 ∧ goodL kind l d = true ∧ ((1 ≤ kind ∧ kind ≤ 8 ∧ goodV v = true ∧ l = []) ∨ (v = noVer ∧ ((kind = 0 ∧ l = []) ∨ ((kind = 9 ∨ kind = 10) ∧ 2 ≤ l.length) ∨ (kind = 11 ∧ ∃ x, l = [x])))) := by
 rw [goodR_eq, Bool.and_eq_true, Bool.and_eq_true, decide_eq_true_eq] at h
 refine ⟨h.1.1, h.2, ?_⟩
 have hf := h.1.2
 unfold fits at hf
 by_cases h1 : ofVersion kind = true
 ·rw [if_pos h1, Bool.and_eq_true, decide_eq_true_eq] at hf
  unfold ofVersion at h1
  rw [decide_eq_true_eq] at h1
  exact .inl ⟨h1.1, h1.2, hf.1, List.eq_nil_of_length_eq_zero hf.2⟩
 ·rw [if_neg h1] at hf
  by_cases h2 : sameV v noVer = false
  ·rw [if_pos h2] at hf; cases hf
  ·rw [if_neg h2] at hf
   refine .inr ⟨sameV_eq (by simpa using h2), ?_⟩
   by_cases h3 : kind = 0
   ·rw [if_pos h3, decide_eq_true_eq] at hf; exact .inl ⟨h3, List.eq_nil_of_length_eq_zero hf⟩
   ·rw [if_neg h3] at hf
    by_cases h4 : kind = 9 ∨ kind = 10
    ·rw [if_pos h4, decide_eq_true_eq] at hf; exact .inr (.inl ⟨h4, hf⟩)
    ·rw [if_neg h4] at hf
     by_cases h5 : kind = 11
     ·rw [if_pos h5, decide_eq_true_eq] at hf
      exact .inr (.inr ⟨h5, List.length_eq_one_iff.1 hf⟩)
     ·rw [if_neg h5] at hf; cases hf
theorem oneOf_at (some : List UInt8) (b : UInt8) (s : List UInt8) : oneOf some (b :: s) = decide (b ∈ some) := rfl
def Bare (s : List UInt8) : Prop := ∃ b t, s = b :: t ∧ blankB b = false
theorem Bare.blanks {s : List UInt8} (h : Bare s) (r : List UInt8) : blanks (s ++ r) = s ++ r := by
 obtain ⟨b, t, rfl, hb⟩ := h
 exact blanks_no _ hb
theorem Bare.cat {s : List UInt8} (h : Bare s) (r : List UInt8) : Bare (s ++ r) := by
 obtain ⟨b, t, rfl, hb⟩ := h
 exact ⟨b, t ++ r, rfl, hb⟩
def elt (o : Int) (x : Rng) : List UInt8 := openR o x.kind ++ textR x ++ shutR o x.kind
theorem elt_bare {o : Int} {x : Rng} (h : Bare (textR x)) : Bare (elt o x) := by
 unfold elt openR
 split
 ·exact ⟨40, _, rfl, by decide⟩
 ·rw [List.nil_append]; exact h.cat _
theorem op_bare {kind : Int} (h1 : 1 ≤ kind) (h2 : kind ≤ 8) : ∃ b t, ops.getD (kind - 1).toNat [] = b :: t ∧ blankB b = false ∧ (kind ≠ 5 → (61 == b) = false) := by
 have hk : kind = 1 ∨ kind = 2 ∨ kind = 3 ∨ kind = 4 ∨ kind = 5 ∨ kind = 6 ∨ kind = 7 ∨ kind = 8 := by omega
 rcases hk with rfl | rfl | rfl | rfl | rfl | rfl | rfl | rfl <;> exact ⟨_, _, rfl, by decide, by decide⟩
theorem text_many {kind : Int} (h : kind = 9 ∨ kind = 10) (v : Ver) (l : List Rng) : textR (.mk kind v l) = textL kind l.length l 0 := by
 rw [textR_eq]
 have e1 : markR kind v = [] := by unfold markR; rw [if_neg (by omega), if_pos h]
 have e2 : most kind l.length = l.length := by unfold most; rw [if_pos h]
 rw [e1, e2]; rfl
theorem text_not (v : Ver) (x : Rng) : textR (.mk 11 v [x]) = 33 :: (aheadR 11 x.kind 0 ++ elt 11 x) := by
 rw [textR_eq, textL_cons]; simp [markR, most, textL, elt]
theorem size_mem {x : Rng} {kind : Int} {v : Ver} {l : List Rng} (h : x ∈ l) : SizeOf.sizeOf x < SizeOf.sizeOf (Rng.mk kind v l) := by
 have := List.sizeOf_lt_of_mem h
 rw [Rng.mk.sizeOf_spec]; omega
theorem goodL_mem {o : Int} {x : Rng} : ∀ {l : List Rng} {d : Nat}, goodL o l d = true → x ∈ l → goodR x (d + opens o x.kind) = true
 | [], _, _, h => by cases h
 | r :: rs, d, hg, h => by
  rw [goodL_cons, Bool.and_eq_true] at hg
  rcases List.mem_cons.1 h with rfl | h
  ·exact hg.1
  ·exact goodL_mem hg.2 h
theorem text_bare : ∀ (n : Nat) (r : Rng), SizeOf.sizeOf r ≤ n → ∀ d, goodR r d = true → Bare (textR r) := by
 intro n
 induction n with
 | zero => intro r h; cases r; rw [Rng.mk.sizeOf_spec] at h; omega
 | succ n ih =>
  rintro ⟨kind, v, l⟩ hn d hg
  obtain ⟨_, hl, h⟩ := good_cases hg
  rcases h with ⟨h1, h2, h3, rfl⟩ | ⟨rfl, ⟨rfl, rfl⟩ | ⟨h1, h2⟩ | ⟨rfl, x, rfl⟩⟩
  ·obtain ⟨b, t, e, hb, _⟩ := op_bare h1 h2
   rw [text_ver h1 h2, e]; exact ⟨b, _, rfl, hb⟩
  ·exact ⟨42, [], rfl, by decide⟩
  ·cases l with
   | nil => simp at h2
   | cons x xs =>
    have hx := ih x (by have := size_mem (kind := kind) (v := noVer) (l := x :: xs) (x := x) (by simp); omega) _ (goodL_mem (x := x) hl (by simp))
    rw [text_many h1, textL_cons, if_pos (by simp), ahead_first _ h1, List.nil_append]
    exact (elt_bare hx).cat _
  ·rw [text_not]; exact ⟨33, _, rfl, by decide⟩
theorem bare_of {r : Rng} {d : Nat} (h : goodR r d = true) : Bare (textR r) := text_bare _ r (Nat.le_refl _) d h

def sep (kind : Int) : List UInt8 := if kind = 10 then [32, 124, 124, 32] else [44, 32]
def seps (kind : Int) (xs : List Rng) : List UInt8 := xs.flatMap fun y => sep kind ++ elt kind y
theorem textL_seps {kind : Int} (h : kind = 9 ∨ kind = 10) (m : Nat) : ∀ (xs : List Rng) (i : Nat), i + 1 + xs.length ≤ m → textL kind m xs (i + 1) = seps kind xs
 | [], _, _ => by simp [textL, seps]
 | x :: xs, i, hm => by
  rw [List.length_cons] at hm
  have e : aheadR kind x.kind (i + 1) = sep kind := by
   unfold aheadR sep
   rw [if_neg (by rintro ⟨h1, _⟩; omega), if_neg (by omega)]
  rw [textL_cons, if_pos (by omega), e, textL_seps h m xs (i + 1) (by omega)]
  simp [seps, elt]
theorem text_list {kind : Int} (h : kind = 9 ∨ kind = 10) (v : Ver) (x : Rng) (xs : List Rng) : textR (.mk kind v (x :: xs)) = elt kind x ++ seps kind xs := by
 rw [text_many h, textL_cons, if_pos (by simp), ahead_first _ h, textL_seps h _ xs 0 (by simp; omega)]; rfl
theorem sev_list {pf : List UInt8 → Out} {ff : List UInt8 → Option (List UInt8)} {kind : Int} (Cond : List UInt8 → Prop)
  (hsep : ∀ (x : Rng) (Z : List UInt8), Bare (textR x) → Cond (sep kind ++ (elt kind x ++ Z)) ∧ ff (blanks (sep kind ++ (elt kind x ++ Z))) = some (elt kind x ++ Z)) : ∀ (xs : List Rng) (x : Rng) (acc : List Rng) (rest : List UInt8) (n : Nat), xs.length < n →
  (∀ y, y ∈ x :: xs → Bare (textR y) ∧ ∀ R, Cond R → pf (elt kind y ++ R) = (0, blanks R, y)) → Cond rest → ff (blanks rest) = none →
  sev pf ff kind n acc (elt kind x ++ (seps kind xs ++ rest)) = (0, blanks rest, if acc = [] ∧ xs = [] then x else .mk kind noVer (acc ++ x :: xs))
 | _, _, _, _, 0, h, _, _, _ => absurd h (Nat.not_lt_zero _)
 | [], x, acc, rest, n + 1, _, hy, hc, hf => by
  have h1 := (hy x (by simp)).2 rest hc
  have e : elt kind x ++ (seps kind [] ++ rest) = elt kind x ++ rest := by simp [seps]
  rw [e, sev_end (by rw [h1]) (by rw [h1]; exact hf), h1]
  unfold whole
  by_cases h0 : acc = []
  ·rw [if_pos h0, if_pos ⟨h0, rfl⟩]
  ·rw [if_neg h0, if_neg (fun h => h0 h.1)]
 | y :: xs, x, acc, rest, n + 1, hn, hy, hc, hf => by
  have e : seps kind (y :: xs) ++ rest = sep kind ++ (elt kind y ++ (seps kind xs ++ rest)) := by simp [seps]
  obtain ⟨s1, s2⟩ := hsep y (seps kind xs ++ rest) (hy y (by simp)).1
  rw [e]
  have h1 := (hy x (by simp)).2 _ s1
  rw [sev_on (by rw [h1]) (by rw [h1]; exact s2), h1]
  rw [sev_list Cond hsep xs y _ rest n (by simpa using hn) (fun z hz => hy z (List.mem_cons_of_mem _ hz)) hc hf]
  rw [if_neg (by rintro ⟨h, _⟩; simp at h), if_neg (by rintro ⟨_, h⟩; cases h), List.append_assoc]
  rfl
theorem sep_stop (kind : Int) (Z : List UInt8) : Stop (sep kind ++ Z) := by
 unfold sep; split
 ·exact Stop.cons (by decide)
 ·exact Stop.cons (by decide)
theorem sep_9 {x : Rng} (hx : Bare (textR x)) (Z : List UInt8) : furO (blanks (sep 9 ++ (elt 9 x ++ Z))) = some (elt 9 x ++ Z) := by
 have h2 : sep 9 ++ (elt 9 x ++ Z) = 44 :: 32 :: (elt 9 x ++ Z) := rfl
 rw [h2, blanks_no _ (by decide)]
 unfold furO
 rw [stands_cons, stands_nil]
 show some (blanks (32 :: (elt 9 x ++ Z))) = _
 rw [blanks_yes _ (by decide), (elt_bare hx).blanks]
theorem sep_10 {x : Rng} (hx : Bare (textR x)) (Z : List UInt8) : furO (blanks (sep 10 ++ (elt 10 x ++ Z))) = none ∧ furE (blanks (sep 10 ++ (elt 10 x ++ Z))) = some (elt 10 x ++ Z) := by
 have h2 : sep 10 ++ (elt 10 x ++ Z) = 32 :: 124 :: 124 :: 32 :: (elt 10 x ++ Z) := rfl
 rw [h2, blanks_yes _ (by decide), blanks_no _ (by decide)]
 refine ⟨?_, ?_⟩
 ·unfold furO
  rw [stands_cons, if_neg (by simp), oneOf_at, if_neg (by decide)]
 ·unfold furE
  rw [stands_cons, stands_cons, stands_nil]
  show some (blanks (32 :: (elt 10 x ++ Z))) = _
  rw [blanks_yes _ (by decide), (elt_bare hx).blanks]
theorem fuel_9 {pf : List UInt8 → Out} (h : Prog pf) (s : List UInt8) (m : Nat) (hm : s.length < m) : everyF pf s = sev pf furO 9 m [] s := sev_fuel h furO_piece.falls _ _ _ _ (Nat.lt_succ_self _) hm
theorem fuel_10 {pf : List UInt8 → Out} (h : Prog pf) (s : List UInt8) (m : Nat) (hm : s.length < m) : exprF pf s = sev (everyF pf) furE 10 m [] s := sev_fuel (everyF_prog h) furE_piece.falls _ _ _ _ (Nat.lt_succ_self _) hm
structure Reads (r : Rng) (k : Nat) (rest : List UInt8) : Prop where
 one : r.kind ≠ 9 → r.kind ≠ 10 → pone k (textR r ++ rest) = (0, blanks rest, r)
 every : r.kind ≠ 10 → furO (blanks rest) = none → everyF (pone k) (textR r ++ rest) = (0, blanks rest, r)
 expr : furO (blanks rest) = none → furE (blanks rest) = none → exprF (pone k) (textR r ++ rest) = (0, blanks rest, r)
theorem stop_41 (rest : List UInt8) : Stop (41 :: rest) := Stop.cons (by decide)
theorem end_41 (rest : List UInt8) : blanks (41 :: rest) = 41 :: rest ∧ furO (41 :: rest) = none ∧ furE (41 :: rest) = none := by
 refine ⟨blanks_no _ (by decide), ?_, ?_⟩
 ·unfold furO; rw [stands_cons, if_neg (by simp), oneOf_at, if_neg (by decide)]
 ·unfold furE; rw [stands_cons, if_neg (by simp)]
theorem one_shut {x : Rng} {k : Nat} (hb : Bare (textR x)) (h : ∀ rest, Stop rest → Reads x k rest) (rest : List UInt8) : pone (k + 1) (40 :: (textR x ++ 41 :: rest)) = (0, blanks rest, x) := by
 have h1 := (h (41 :: rest) (stop_41 rest)).expr (by rw [(end_41 rest).1]; exact (end_41 rest).2.1) (by rw [(end_41 rest).1]; exact (end_41 rest).2.2)
 rw [(end_41 rest).1] at h1
 rw [pone_succ]
 unfold oneF
 rw [stands_cons, stands_cons, stands_nil, if_neg (by simp), if_pos (by decide)]
 show shutF (exprF (pone k) (blanks (textR x ++ 41 :: rest))) = _
 rw [hb.blanks, h1]
 unfold shutF
 rw [if_neg (by simp), if_pos (by rw [stands_cons, stands_nil]; rfl)]
 rfl
theorem elt_one {o : Int} (ho : o ≠ 10) {x : Rng} {d k : Nat} (hdk : d + k = 64) (hg : goodR x (d + (if bracketed o x.kind = true then 1 else 0)) = true) (h : ∀ (d k : Nat), d + k = 64 → goodR x d = true → ∀ rest, Stop rest → Reads x k rest) (rest : List UInt8) (hr : Stop rest) : pone k (elt o x ++ rest) = (0, blanks rest, x) := by
 by_cases hb : bracketed o x.kind = true
 ·rw [if_pos hb] at hg
  have hd : d + 1 ≤ 64 := by
   obtain ⟨kind, v, l⟩ := x
   exact (good_cases hg).1
  obtain ⟨k, rfl⟩ : ∃ j, k = j + 1 := ⟨k - 1, by omega⟩
  have e : elt o x ++ rest = 40 :: (textR x ++ 41 :: rest) := by unfold elt openR shutR; rw [if_pos hb, if_pos hb]; simp
  rw [e]
  exact one_shut (bare_of hg) (h (d + 1) k (by omega) hg) rest
 ·rw [if_neg hb] at hg
  have e : elt o x ++ rest = textR x ++ rest := by unfold elt openR shutR; rw [if_neg hb, if_neg hb]; simp
  rw [e]
  refine (h d k hdk hg rest hr).one ?_ ?_
  ·intro e; apply hb; unfold bracketed; simp [e, ho]
  ·intro e; apply hb; unfold bracketed; simp [e]
theorem opens_9 (k : Int) : opens 9 k = if bracketed 9 k = true then 1 else 0 := by unfold opens; simp
theorem opens_10 (k : Int) : opens 10 k = if bracketed 10 k = true then 1 else 0 := by unfold opens; simp
theorem opens_11 (k : Int) : opens 11 k = 1 + if bracketed 11 k = true then 1 else 0 := by unfold opens; simp
theorem reads : ∀ (n : Nat) (r : Rng), SizeOf.sizeOf r ≤ n → ∀ (d k : Nat), d + k = 64 → goodR r d = true → ∀ rest, Stop rest → Reads r k rest := by
 intro n
 induction n with
 | zero => intro r h; cases r; rw [Rng.mk.sizeOf_spec] at h; omega
 | succ n ih =>
  rintro ⟨kind, v, l⟩ hn d k hdk hg rest hr
  obtain ⟨_, hl, h⟩ := good_cases hg
  have ihl : ∀ x, x ∈ l → ∀ (d k : Nat), d + k = 64 → goodR x d = true → ∀ rest, Stop rest → Reads x k rest := fun x hx => ih x (by have := size_mem (kind := kind) (v := v) hx; omega)
  have bl : ∀ x, x ∈ l → Bare (textR x) := fun x hx => bare_of (goodL_mem hl hx)
  have h1 : kind ≠ 9 → kind ≠ 10 → pone k (textR (.mk kind v l) ++ rest) = (0, blanks rest, .mk kind v l) := by
   intro n9 n10
   rcases h with ⟨h1, h2, h3, rfl⟩ | ⟨rfl, ⟨rfl, rfl⟩ | ⟨h1, h2⟩ | ⟨rfl, x, rfl⟩⟩
   ·cases k with
    | zero => exact oneF_ver h1 h2 h3 hr
    | succ k => exact oneF_ver h1 h2 h3 hr
   ·cases k with
    | zero => exact oneF_all rest
    | succ k => exact oneF_all rest
   ·omega
   ·have hx := goodL_mem (x := x) hl (by simp)
    rw [opens_11] at hx
    have hd : d + 1 ≤ 64 := by
     obtain ⟨kd, vd, ld⟩ := x
     have := (good_cases hx).1; omega
    obtain ⟨k, rfl⟩ : ∃ j, k = j + 1 := ⟨k - 1, by omega⟩
    have hel := elt_one (o := 11) (by decide) (d := d + 1) (k := k) (by omega) (by rw [Nat.add_assoc]; exact hx) (ihl x (by simp)) rest hr
    have hbx := bl x (by simp)
    obtain ⟨b, t, eb, hbb⟩ := elt_bare (o := 11) hbx
    have e : textR (.mk 11 noVer [x]) ++ rest = 33 :: (aheadR 11 x.kind 0 ++ (elt 11 x ++ rest)) := by rw [text_not]; simp
    have hin : blanks (aheadR 11 x.kind 0 ++ (elt 11 x ++ rest)) = elt 11 x ++ rest := by
     unfold aheadR
     split
     ·show blanks (32 :: (elt 11 x ++ rest)) = _
      rw [blanks_yes _ (by decide), (elt_bare hbx).blanks]
     ·rw [if_pos rfl, List.nil_append, (elt_bare hbx).blanks]
    have hop : opOf (33 :: (aheadR 11 x.kind 0 ++ (elt 11 x ++ rest))) = (5, []) := by
     obtain ⟨c, u, ec, hc⟩ : ∃ c u, aheadR 11 x.kind 0 ++ (elt 11 x ++ rest) = c :: u ∧ ¬ (61 : UInt8) = c := by
      unfold aheadR
      split
      ·exact ⟨32, elt 11 x ++ rest, rfl, by decide⟩
      ·rename_i h5
       have h5' : x.kind ≠ 5 := fun e => h5 ⟨rfl, e⟩
       rw [if_pos rfl, List.nil_append, eb]
       refine ⟨b, t ++ rest, rfl, ?_⟩
       intro e61
       subst e61
       unfold elt openR at eb
       split at eb
       ·injection eb with eb _; exact absurd eb (by decide)
       ·rename_i hbr
        rw [List.nil_append] at eb
        obtain ⟨kd, vd, ld⟩ := x
        obtain ⟨_, _, hk⟩ := good_cases hx
        rcases hk with ⟨k1, k2, _, rfl⟩ | ⟨rfl, ⟨rfl, rfl⟩ | ⟨k1, _⟩ | ⟨rfl, y, rfl⟩⟩
        ·obtain ⟨c, u, ec, _, hc⟩ := op_bare k1 k2
         rw [text_ver k1 k2, ec] at eb
         injection eb with eb _
         have := hc h5'
         rw [eb] at this
         exact absurd this (by decide)
        ·injection eb with eb _; exact absurd eb (by decide)
        ·apply hbr
         unfold bracketed
         rw [decide_eq_true_eq]
         rcases k1 with k1 | k1
         ·exact .inr ⟨k1, by decide⟩
         ·exact .inl k1
        ·rw [text_not] at eb
         injection eb with eb _; exact absurd eb (by decide)
     rw [ec]
     simp [opOf, ops, opFrom, stands_cons, stands_nil, hc]
    rw [e, pone_succ]
    unfold oneF
    rw [hop, stands_cons, stands_cons, stands_cons, stands_nil, if_neg (by simp), if_neg (by simp), if_pos ⟨rfl, rfl⟩]
    show notF (pone k (blanks (aheadR 11 x.kind 0 ++ (elt 11 x ++ rest)))) = _
    rw [hin, hel]
    rfl
  have h2 : kind ≠ 10 → furO (blanks rest) = none → everyF (pone k) (textR (.mk kind v l) ++ rest) = (0, blanks rest, .mk kind v l) := by
   intro n10 hf
   by_cases n9 : kind = 9
   ·subst n9
    rcases h with ⟨_, h2, _⟩ | ⟨rfl, ⟨h2, _⟩ | ⟨_, h2⟩ | ⟨h2, _⟩⟩
    ·omega
    ·omega
    ·cases l with
     | nil => simp at h2
     | cons x xs =>
      rw [text_list (.inl rfl), List.append_assoc, fuel_9 (pone_prog k) _ ((elt 9 x ++ (seps 9 xs ++ rest)).length + 1 + xs.length) (by omega)]
      rw [sev_list Stop (fun y Z hy => ⟨sep_stop 9 _, sep_9 hy Z⟩) xs x [] rest _ (by omega) (fun y hy => ⟨bl y hy, fun R hR => elt_one (by decide) hdk (by rw [← opens_9]; exact goodL_mem hl hy) (ihl y hy) R hR⟩) hr hf]
      rw [if_neg (by rintro ⟨_, h⟩; subst h; simp at h2)]
      rfl
    ·omega
   ·have e := h1 n9 n10
    unfold everyF
    rw [sev_end (by rw [e]) (by rw [e]; exact hf), e]
    rfl
  refine ⟨h1, h2, fun hf hf2 => ?_⟩
  by_cases n10 : kind = 10
  ·subst n10
   rcases h with ⟨_, h2, _⟩ | ⟨rfl, ⟨h2, _⟩ | ⟨_, h2⟩ | ⟨h2, _⟩⟩
   ·omega
   ·omega
   ·cases l with
    | nil => simp at h2
    | cons x xs =>
     rw [text_list (.inr rfl), List.append_assoc, fuel_10 (pone_prog k) _ ((elt 10 x ++ (seps 10 xs ++ rest)).length + 1 + xs.length) (by omega)]
     rw [sev_list (fun R => Stop R ∧ furO (blanks R) = none) (fun y Z hy => ⟨⟨sep_stop 10 _, (sep_10 hy Z).1⟩, (sep_10 hy Z).2⟩) xs x [] rest _ (by omega) (fun y hy => ⟨bl y hy, fun R hR => ?_⟩) ⟨hr, hf⟩ hf2]
     ·rw [if_neg (by rintro ⟨_, h⟩; subst h; simp at h2)]
      rfl
     ·have hgy := goodL_mem hl hy
      rw [opens_10] at hgy
      by_cases hb : bracketed 10 y.kind = true
      ·rw [if_pos hb] at hgy
       have hd : d + 1 ≤ 64 := by
        obtain ⟨kd, vd, ld⟩ := y
        exact (good_cases hgy).1
       obtain ⟨k, rfl⟩ : ∃ j, k = j + 1 := ⟨k - 1, by omega⟩
       have e : elt 10 y ++ R = 40 :: (textR y ++ 41 :: R) := by unfold elt openR shutR; rw [if_pos hb, if_pos hb]; simp
       have e2 := one_shut (bare_of hgy) (ihl y hy (d + 1) k (by omega) hgy) R
       rw [e]
       unfold everyF
       rw [sev_end (by rw [e2]) (by rw [e2]; exact hR.2), e2]
       rfl
      ·rw [if_neg hb] at hgy
       have e : elt 10 y ++ R = textR y ++ R := by unfold elt openR shutR; rw [if_neg hb, if_neg hb]; simp
       rw [e]
       exact (ihl y hy d k hdk hgy R hR.1).every (fun e => by apply hb; unfold bracketed; simp [e]) hR.2
   ·omega
  ·have e := h2 n10 hf
   unfold exprF
   rw [sev_end (by rw [e]) (by rw [e]; exact hf2), e]
   rfl
theorem text_back {r : Rng} (h : goodR r 0 = true) : pread (textR r) = (0, 0, r) := by
 have h1 := (reads _ r (Nat.le_refl _) 0 64 rfl h [] Stop.nil).expr rfl rfl
 have h2 := (bare_of h).blanks []
 rw [List.append_nil] at h1 h2
 have h3 : pparse (textR r) 0 = (0, (textR r).length, r) := by
  unfold pparse
  rw [if_neg (by omega)]
  show ((exprF (pone 64) (blanks (textR r))).1, (textR r).length - (exprF (pone 64) (blanks (textR r))).2.1.length, (exprF (pone 64) (blanks (textR r))).2.2) = _
  rw [h2, h1]; rfl
 unfold pread
 rw [h3, if_neg (by simp), if_neg (by simp)]
end Go.Proofs.YtgfbflnhjpbceaaGreatDoor.Range
namespace Go.Proofs.YtgfbflnhjpbceaaGreatDoor.Range
open Go.RowKit Num Ident Semver
theorem srow_none (w : World) (A : Option Addr) : SRow w A 0 [] := ⟨rfl, fun h => absurd h (Nat.lt_irrefl _)⟩
theorem wtL_len : ∀ l : List Rng, l.length ≤ wtL l
 | [] => Nat.le_refl _
 | r :: l => by rw [wtL_cons, wt_eq, List.length_cons]; have := wtL_len l; omega
theorem wt_mem {x : Rng} : ∀ {l : List Rng}, x ∈ l → wt x ≤ wtL l
 | [], h => by cases h
 | y :: l, h => by
  rw [wtL_cons]
  rcases List.mem_cons.1 h with rfl | h
  ·omega
  ·have := wt_mem h; omega
theorem right_at {w : World} {S : Nat → Prop} {r : Rng} {x : RV} {d : Nat} (hx : Lies w S r x) (hg : goodR r d = true) : d ≤ 64 ∧ goodL r.kind r.subs d = true ∧ r.subs.length = x.n ∧ r.kind = x.kind ∧
  ((1 ≤ x.kind ∧ x.kind ≤ 8 ∧ goodV x.v = true ∧ x.n = 0) ∨ (x.v = noVer ∧ ((x.kind = 0 ∧ x.n = 0) ∨ ((x.kind = 9 ∨ x.kind = 10) ∧ 2 ≤ x.n) ∨ (x.kind = 11 ∧ x.n = 1)))) := by
 have hs := hx.says
 obtain ⟨f, hl, _, _⟩ := hs.subs
 have hk := hs.kind
 have hv := hs.ver
 obtain ⟨kind, v, l⟩ := r
 obtain ⟨h1, h2, h3⟩ := good_cases hg
 simp only [Rng.kind, Rng.ver, Rng.subs] at hl hk hv ⊢
 subst hk; subst hv
 refine ⟨h1, h2, hl, rfl, ?_⟩
 rcases h3 with ⟨a, b, c, rfl⟩ | ⟨a, ⟨b, rfl⟩ | ⟨b, c⟩ | ⟨b, y, rfl⟩⟩
 ·exact .inl ⟨a, b, c, hl.symm⟩
 ·exact .inr ⟨a, .inl ⟨b, hl.symm⟩⟩
 ·exact .inr ⟨a, .inr (.inl ⟨b, hl ▸ c⟩)⟩
 ·exact .inr ⟨a, .inr (.inr ⟨b, hl.symm⟩)⟩
end Go.Proofs.YtgfbflnhjpbceaaGreatDoor.Range
