/-
  Names and tables of names, as plain mathematics: which bytes stand in a name, how long the name is that stands at a place, which texts are names; where a text stands among others; how the numbers of a list of texts stand, of which order there is just one. Conditions: as each theorem states.
-/
import Derived.Test.YtpgfolfhfhfdhaaNumMem
namespace Go.Proofs.Ytpgfolfhfhfdhaa.Name
open Go.RowKit Num
/-- May a byte begin a name? -/
def fstB (x : Int) : Bool := decide ((97 ≤ x ∧ x ≤ 122) ∨ (48 ≤ x ∧ x ≤ 57))
/-- May it stand at a name's place k? -/
def okB (k : Nat) (x : Int) : Bool := fstB x || (decide (0 < k) && decide (x = 45 ∨ x = 95 ∨ x = 46))
theorem fstB_iff (x : Int) : fstB x = true ↔ (97 ≤ x ∧ x ≤ 122) ∨ (48 ≤ x ∧ x ≤ 57) := by simp [fstB]
theorem fstB_no {x : Int} (h : ¬ ((97 ≤ x ∧ x ≤ 122) ∨ (48 ≤ x ∧ x ≤ 57))) : fstB x = false := by rw [← Bool.not_eq_true, fstB_iff]; exact h
theorem okB_iff (k : Nat) (x : Int) : okB k x = true ↔ fstB x = true ∨ (0 < k ∧ (x = 45 ∨ x = 95 ∨ x = 46)) := by simp [okB]
theorem okB_no {k : Nat} {x : Int} (h : fstB x = false) (h2 : k = 0 ∨ ¬ (x = 45 ∨ x = 95 ∨ x = 46)) : okB k x = false := by
  rw [← Bool.not_eq_true, okB_iff, h]
  rintro (h3 | ⟨h3, h4⟩)
  · cases h3
  · rcases h2 with h2 | h2
    · omega
    · exact h2 h4
theorem okB_up {k : Nat} {x : Int} (h : okB k x = true) (j : Nat) (hj : k ≤ j) : okB j x = true := by
  rw [okB_iff] at h ⊢
  rcases h with h | ⟨h, h2⟩
  · exact .inl h
  · exact .inr ⟨by omega, h2⟩
theorem okB_pos {j k : Nat} (x : Int) (hj : 0 < j) (hk : 0 < k) : okB j x = okB k x := by
  rw [Bool.eq_iff_iff, okB_iff, okB_iff]
  constructor <;> rintro (h | ⟨_, h⟩)
  · exact .inl h
  · exact .inr ⟨hk, h⟩
  · exact .inl h
  · exact .inr ⟨hj, h⟩
/-- How many bytes of a name go on from place k. -/
def nrun : Nat → List UInt8 → Nat
  | _, [] => 0
  | k, b :: l => if okB k b.toNat = true then nrun (k + 1) l + 1 else 0
theorem nrun_le : ∀ (k : Nat) (l : List UInt8), nrun k l ≤ l.length
  | _, [] => Nat.le_refl _
  | k, b :: l => by
      rw [nrun]; split
      · exact Nat.succ_le_succ (nrun_le (k + 1) l)
      · exact Nat.zero_le _
theorem nrun_stop : ∀ (l : List UInt8) (k m : Nat), m ≤ l.length → (∀ j, j < m → okB (k + j) (byteAt l j) = true) → (m = l.length ∨ okB (k + m) (byteAt l m) = false) → nrun k l = m
  | [], k, m, h, _, _ => by
      have : m = 0 := by simpa using h
      subst this; rfl
  | b :: l, k, 0, _, _, h => by
      rcases h with h | h
      · cases h
      · rw [nrun, if_neg]; rw [Bool.not_eq_true]; exact h
  | b :: l, k, m + 1, h, ha, h2 => by
      have h0 : okB k b.toNat = true := ha 0 (Nat.succ_pos _)
      rw [nrun, if_pos h0, nrun_stop l (k + 1) m (by simpa using h) (fun j hj => by rw [Nat.add_assoc, Nat.add_comm 1 j]; exact ha (j + 1) (Nat.succ_lt_succ hj)) (by
        rcases h2 with h2 | h2
        · exact .inl (by simpa using h2)
        · exact .inr (by rw [Nat.add_assoc, Nat.add_comm 1 m]; exact h2))]
theorem nrun_ok : ∀ (l : List UInt8) (k j : Nat), j < nrun k l → okB (k + j) (byteAt l j) = true
  | [], _, _, h => by simp [nrun] at h
  | b :: l, k, j, h => by
      rw [nrun] at h
      split at h
      next h0 =>
        cases j with
        | zero => exact h0
        | succ j =>
          have := nrun_ok l (k + 1) j (by omega)
          rw [Nat.add_assoc, Nat.add_comm 1 j] at this
          exact this
      next => omega
theorem nrun_end (l : List UInt8) (k : Nat) (h : nrun k l < l.length) : okB (k + nrun k l) (byteAt l (nrun k l)) = false := by
  rw [← Bool.not_eq_true]
  intro h2
  have := nrun_more l k (nrun k l + 1) (by omega) (fun j hj => by
    rcases Nat.lt_or_ge j (nrun k l) with h3 | h3
    · exact nrun_ok l k j h3
    · obtain rfl : j = nrun k l := by omega
      exact h2)
  omega
where
  nrun_more : ∀ (l : List UInt8) (k m : Nat), m ≤ l.length → (∀ j, j < m → okB (k + j) (byteAt l j) = true) → m ≤ nrun k l
    | _, _, 0, _, _ => Nat.zero_le _
    | [], _, m + 1, h, _ => by simp at h
    | b :: l, k, m + 1, h, ha => by
        have h0 : okB k b.toNat = true := ha 0 (Nat.succ_pos _)
        rw [nrun, if_pos h0]
        exact Nat.succ_le_succ (nrun_more l (k + 1) m (by simpa using h) (fun j hj => by rw [Nat.add_assoc, Nat.add_comm 1 j]; exact ha (j + 1) (Nat.succ_lt_succ hj)))
/-- How many bytes the name has that stands at a list's beginning: 0: none stands there. -/
def nlen (l : List UInt8) : Nat := nrun 0 l
/-- P8.1: how many bytes the name has that stands at a place, or what is wrong (an error's number). -/
def nscan (l : List UInt8) (at_ : Int) : Int × Int :=
  if at_ < 0 ∨ (l.length : Int) < at_ then (0, 1)
  else if nlen (l.drop at_.toNat) = 0 ∨ 255 < nlen (l.drop at_.toNat) then (0, 12) else ((nlen (l.drop at_.toNat) : Nat), 0)
/-- Is a text a name? -/
def isName (s : List UInt8) : Bool := decide (nlen s = s.length ∧ 0 < s.length ∧ s.length ≤ 255)
theorem isName_iff (s : List UInt8) : isName s = true ↔ nlen s = s.length ∧ 0 < s.length ∧ s.length ≤ 255 := by simp [isName]
theorem nscan_arg {l : List UInt8} {p : Int} (h : p < 0 ∨ (l.length : Int) < p) : nscan l p = (0, 1) := if_pos h
theorem nscan_bad {l : List UInt8} {p : Int} (h : ¬ (p < 0 ∨ (l.length : Int) < p)) (h2 : nlen (l.drop p.toNat) = 0 ∨ 255 < nlen (l.drop p.toNat)) : nscan l p = (0, 12) := by
  unfold nscan; rw [if_neg h, if_pos h2]
theorem nscan_good {l : List UInt8} {p : Int} (h : ¬ (p < 0 ∨ (l.length : Int) < p)) (h2 : ¬ (nlen (l.drop p.toNat) = 0 ∨ 255 < nlen (l.drop p.toNat))) : nscan l p = (((nlen (l.drop p.toNat) : Nat) : Int), 0) := by
  unfold nscan; rw [if_neg h, if_neg h2]
theorem nscan_whole (s : List UInt8) : ((nscan s 0).2 = 0 ∧ (nscan s 0).1 = s.length) ↔ isName s = true := by
  have h0 : ¬ ((0 : Int) < 0 ∨ (s.length : Int) < 0) := by omega
  rw [isName_iff]
  by_cases h : nlen (s.drop (0 : Int).toNat) = 0 ∨ 255 < nlen (s.drop (0 : Int).toNat)
  · rw [nscan_bad h0 h]
    rw [show (0 : Int).toNat = 0 from rfl, List.drop_zero] at h
    constructor
    · rintro ⟨h1, _⟩; simp at h1
    · rintro ⟨h1, h2, h3⟩; omega
  · rw [nscan_good h0 h]
    rw [show (0 : Int).toNat = 0 from rfl, List.drop_zero] at h ⊢
    constructor
    · rintro ⟨_, h1⟩
      have h1 : nlen s = s.length := by simp at h1; omega
      omega
    · rintro ⟨h1, h2, h3⟩; exact ⟨rfl, by simp [h1]⟩
/-- What goes on from a place, byte by byte: a walk's stop. -/
theorem byteAt_drop (l : List UInt8) (p j : Nat) : byteAt (l.drop p) j = byteAt l (p + j) := by simp [byteAt]
theorem nlen_stop (l : List UInt8) (p m : Nat) (h : p + m ≤ l.length) (ha : ∀ j, j < m → okB j (byteAt l (p + j)) = true) (h2 : p + m = l.length ∨ okB m (byteAt l (p + m)) = false) : nlen (l.drop p) = m := by
  refine nrun_stop _ 0 m (by rw [List.length_drop]; omega) (fun j hj => ?_) ?_
  · rw [Nat.zero_add, byteAt_drop]; exact ha j hj
  · rw [Nat.zero_add, byteAt_drop, List.length_drop]
    rcases h2 with h2 | h2
    · exact .inl (by omega)
    · exact .inr h2
/-- A name's beginning is a name. -/
theorem isName_take {s : List UInt8} (h : isName s = true) (k : Nat) (h0 : 0 < k) (hk : k ≤ s.length) : isName (s.take k) = true := by
  rw [isName_iff] at h ⊢
  have hl : (s.take k).length = k := by rw [List.length_take]; omega
  refine ⟨?_, by omega, by omega⟩
  rw [hl]
  refine nrun_stop _ 0 k (by omega) (fun j hj => ?_) (.inl hl.symm)
  have := nrun_ok s 0 j (by have := h.1; unfold nlen at this; omega)
  rwa [show byteAt (s.take k) j = byteAt s j from by simp [byteAt, List.getD_eq_getElem?_getD, hj]]
/-- A name with one more byte behind. -/
theorem nlen_snoc {s : List UInt8} (h : nlen s = s.length) (c : UInt8) : nlen (s ++ [c]) = if okB s.length c.toNat = true then s.length + 1 else s.length := by
  have ha : ∀ j, j < s.length → okB (0 + j) (byteAt (s ++ [c]) j) = true := fun j hj => by
    have := nrun_ok s 0 j (by unfold nlen at h; omega)
    rwa [show byteAt (s ++ [c]) j = byteAt s j from by simp [byteAt, List.getD_eq_getElem?_getD, List.getElem?_append_left hj]]
  have hc : byteAt (s ++ [c]) s.length = c.toNat := by simp [byteAt, List.getD_eq_getElem?_getD]
  split
  next h1 =>
    refine nrun_stop _ 0 _ (by simp) (fun j hj => ?_) (.inl (by simp))
    rcases Nat.lt_or_ge j s.length with h2 | h2
    · exact ha j h2
    · obtain rfl : j = s.length := by omega
      rw [Nat.zero_add, hc]; exact h1
  next h1 => exact nrun_stop _ 0 _ (by simp) ha (.inr (by rw [Nat.zero_add, hc]; exact Bool.eq_false_iff.2 h1))
theorem getD_pre {α : Type} (x y : List α) (d : α) (k : Nat) (h : k < x.length) : (x ++ y).getD k d = x.getD k d := by
  rw [List.getD_eq_getElem?_getD, List.getElem?_append_left h, ← List.getD_eq_getElem?_getD]
/-- Where a text stands among others: the first place; how many there are: it is none of them. -/
def find : List (List UInt8) → List UInt8 → Nat
  | [], _ => 0
  | t :: x, s => if t = s then 0 else find x s + 1
theorem find_stop : ∀ (x : List (List UInt8)) (s : List UInt8) (k : Nat), k ≤ x.length → (∀ j, j < k → x.getD j [] ≠ s) → (k = x.length ∨ x.getD k [] = s) → find x s = k
  | [], _, k, h, _, _ => by
      have : k = 0 := by simpa using h
      subst this; rfl
  | t :: x, s, 0, _, _, h => by
      rcases h with h | h
      · cases h
      · exact if_pos h
  | t :: x, s, k + 1, h, ha, h2 => by
      have h0 : t ≠ s := ha 0 (Nat.succ_pos _)
      rw [find, if_neg h0, find_stop x s k (by simpa using h) (fun j hj => ha (j + 1) (Nat.succ_lt_succ hj)) (by simpa using h2)]
theorem find_le : ∀ (x : List (List UInt8)) (s : List UInt8), find x s ≤ x.length
  | [], _ => Nat.le_refl _
  | t :: x, s => by
      rw [find]; split
      · exact Nat.zero_le _
      · exact Nat.succ_le_succ (find_le x s)
theorem find_at : ∀ {x : List (List UInt8)} {s : List UInt8}, find x s < x.length → x.getD (find x s) [] = s
  | [], _, h => by simp [find] at h
  | t :: x, s, h => by
      rw [find] at h ⊢
      split at h
      next e => rw [if_pos e]; exact e
      next e => rw [if_neg e]; exact find_at (x := x) (by simpa using h)
theorem find_lt {x : List (List UInt8)} {s : List UInt8} : find x s < x.length ↔ s ∈ x := by
  induction x with
  | nil => simp [find]
  | cons t x ih =>
    rw [find]
    split
    next e => simp [e]
    next e => simp [ih, Ne.symm e]
theorem find_not {x : List (List UInt8)} {s : List UInt8} (h : s ∉ x) : find x s = x.length := by
  have h1 := find_le x s
  rcases Nat.lt_or_ge (find x s) x.length with h2 | h2
  · exact absurd (find_lt.1 h2) h
  · omega
theorem find_before : ∀ {x : List (List UInt8)} {s : List UInt8} (j : Nat), j < find x s → x.getD j [] ≠ s
  | [], _, _, h => by simp [find] at h
  | t :: x, s, j, h => by
      rw [find] at h
      split at h
      · omega
      next e =>
        cases j with
        | zero => exact e
        | succ j => exact find_before (x := x) j (by omega)
/-- Of texts of which no two are like, the place is told by the text. -/
theorem find_of {x : List (List UInt8)} (hn : x.Nodup) (k : Nat) (hk : k < x.length) : find x (x.getD k []) = k := by
  refine find_stop _ _ _ (Nat.le_of_lt hk) (fun j hj e => ?_) (.inr rfl)
  rw [List.getD_eq_getElem?_getD, List.getElem?_eq_getElem (by omega), List.getD_eq_getElem?_getD, List.getElem?_eq_getElem hk] at e
  exact List.pairwise_iff_getElem.1 hn j k (by omega) hk hj (by simpa using e)
theorem find_snoc_old {x : List (List UInt8)} {s t : List UInt8} (h : find x s < x.length) : find (x ++ [t]) s = find x s := by
  refine find_stop _ _ _ (by simp; omega) (fun j hj => ?_) (.inr ?_)
  · rw [getD_pre _ _ _ _ (by omega)]; exact find_before j hj
  · rw [getD_pre _ _ _ _ h]; exact find_at h
theorem find_snoc_new {x : List (List UInt8)} {s : List UInt8} (h : s ∉ x) : find (x ++ [s]) s = x.length := by
  refine find_stop _ _ _ (by simp) (fun j hj e => h ?_) (.inr (by simp))
  rw [getD_pre _ _ _ _ hj, List.getD_eq_getElem?_getD, List.getElem?_eq_getElem hj] at e
  rw [← e]; exact List.getElem_mem hj
/-- The numbers of a list of texts, as their texts stand. -/
structure Ordered (x : List (List UInt8)) (o : List Nat) : Prop where
  perm : o.Perm (List.range x.length)
  up : o.Pairwise fun a b => x.getD a [] < x.getD b []
theorem less_asymm {a b : List UInt8} (h : a < b) (h2 : b < a) : False := List.lt_irrefl a (List.lt_trans h h2)
theorem Ordered.one {x : List (List UInt8)} {o p : List Nat} (h : Ordered x o) (g : Ordered x p) : o = p :=
  List.Perm.eq_of_pairwise (fun _ _ _ _ h1 h2 => (less_asymm h1 h2).elim) h.up g.up (h.perm.trans g.perm.symm)
theorem Ordered.length {x : List (List UInt8)} {o : List Nat} (h : Ordered x o) : o.length = x.length := by rw [h.perm.length_eq, List.length_range]
theorem Ordered.lt {x : List (List UInt8)} {o : List Nat} (h : Ordered x o) {a : Nat} (ha : a ∈ o) : a < x.length := List.mem_range.1 (h.perm.mem_iff.1 ha)
theorem Ordered.nil : Ordered [] [] := ⟨List.Perm.refl _, List.Pairwise.nil⟩
/-- One more, put where those stop that stand ahead of it. -/
theorem Ordered.insert {x : List (List UInt8)} {o : List Nat} {t : List UInt8} (h : Ordered x o) (k : Nat) (hk : k ≤ o.length)
    (ha : ∀ j, j < k → x.getD (o.getD j 0) [] < t) (hb : k = o.length ∨ ¬ x.getD (o.getD k 0) [] < t) (hn : t ∉ x) : Ordered (x ++ [t]) (o.take k ++ x.length :: o.drop k) := by
  have hx : ∀ a, a ∈ o → (x ++ [t]).getD a [] = x.getD a [] := fun a g => getD_pre _ _ _ _ (h.lt g)
  have ht : (x ++ [t]).getD x.length [] = t := by simp
  have hto : ∀ a, a ∈ o.take k → x.getD a [] < t := fun a g => by
    obtain ⟨j, hj, e⟩ := List.mem_take_iff_getElem.1 g
    have := ha j (by omega)
    rwa [List.getD_eq_getElem?_getD (l := o), List.getElem?_eq_getElem (by omega), Option.getD_some, e] at this
  have hdo : ∀ a, a ∈ o.drop k → t < x.getD a [] := fun a g => by
    rcases hb with hb | hb
    · rw [List.drop_of_length_le (by omega)] at g; cases g
    · obtain ⟨j, hj, e⟩ := List.mem_drop_iff_getElem.1 g
      have hm : x.getD a [] ≠ t := fun e2 => hn (by
        rw [← e2, List.getD_eq_getElem?_getD, List.getElem?_eq_getElem (h.lt (List.mem_of_mem_drop g))]
        exact List.getElem_mem _)
      have hkl : k < o.length := by omega
      have h1 : ¬ x.getD a [] < t := by
        intro g2
        apply hb
        cases j with
        | zero =>
          rw [List.getD_eq_getElem?_getD (l := o), List.getElem?_eq_getElem hkl, Option.getD_some]
          have e : o[k] = a := by simpa using e
          rw [e]; exact g2
        | succ j =>
          have := List.pairwise_iff_getElem.1 h.up k (k + (j + 1)) hkl (by omega) (by omega)
          rw [List.getD_eq_getElem?_getD (l := o), List.getElem?_eq_getElem hkl, Option.getD_some]
          rw [e] at this
          exact List.lt_trans this g2
      exact Std.lt_of_le_of_ne (Std.not_lt.1 h1) (Ne.symm hm)
  refine ⟨?_, ?_⟩
  · rw [List.length_append, List.length_singleton, List.range_succ]
    refine (List.perm_middle).trans ?_
    rw [List.take_append_drop]
    exact ((List.Perm.cons _ h.perm)).trans (List.perm_append_singleton _ _).symm
  · rw [List.pairwise_append, List.pairwise_cons]
    have hup := h.up
    rw [← List.take_append_drop k o, List.pairwise_append] at hup
    refine ⟨?_, ⟨fun a g => ?_, ?_⟩, fun a g b g2 => ?_⟩
    · exact hup.1.imp_of_mem fun {a b} g1 g2 g3 => by rw [hx a (List.mem_of_mem_take g1), hx b (List.mem_of_mem_take g2)]; exact g3
    · rw [ht, hx a (List.mem_of_mem_drop g)]; exact hdo a g
    · exact hup.2.1.imp_of_mem fun {a b} g1 g2 g3 => by rw [hx a (List.mem_of_mem_drop g1), hx b (List.mem_of_mem_drop g2)]; exact g3
    · rw [hx a (List.mem_of_mem_take g)]
      rcases List.mem_cons.1 g2 with rfl | g2
      · rw [ht]; exact hto a g
      · rw [hx b (List.mem_of_mem_drop g2)]; exact hup.2.2 a g b g2
end Go.Proofs.Ytpgfolfhfhfdhaa.Name
