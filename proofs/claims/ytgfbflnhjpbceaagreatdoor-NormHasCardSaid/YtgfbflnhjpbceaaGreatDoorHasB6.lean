/-
  What the theorem of the last text needs of these: RgBack, RgWeight, RgFore, PrMath, PrEq, NumCmp, IdCmp, IdRows. Conditions: as each theorem states.
-/
import Derived.Test.YtgfbflnhjpbceaaGreatDoorHasB1
import Derived.Test.YtgfbflnhjpbceaaGreatDoorHasB2
import Derived.Test.YtgfbflnhjpbceaaGreatDoorHasB3
import Derived.Test.YtgfbflnhjpbceaaGreatDoorHasB5
import Derived.Test.YtgfbflnhjpbceaaGreatDoorChecked
import Derived.WalkKit
import Derived.ChangeKeysEq
import Derived.Laws.StructEq
import Derived.Test.YtgfbflnhjpbceaaGreatDoorShelfTrim
import Derived.StillTailTactics
set_option maxRecDepth 100000
set_option maxHeartbeats 25600000
namespace Go.Proofs.YtgfbflnhjpbceaaGreatDoor.Range
open Num Ident Semver

theorem vparse_read {l : List UInt8} {q : Nat} {v : Ver} (h : vparse l 0 = (0, q, v)) : goodV v = true ∧ l = vtext v ++ l.drop q := by
 unfold vparse at h
 rw [if_neg (by omega), Int.toNat_zero] at h
 unfold inside at h
 by_cases h2 : (core l 0).1 ≠ 0
 ·rw [if_pos h2] at h; injection h with h; exact absurd h h2
 ·rw [if_neg h2] at h
  have hce := core_end l 0 (Nat.zero_le _)
  obtain ⟨⟨f, q1, x, y, z⟩, hk⟩ : ∃ t, core l 0 = t := ⟨_, rfl⟩
  rw [hk] at h2 h hce
  simp only at h2 h hce
  have h2' : f = 0 := by simpa using h2
  subst h2'
  obtain ⟨c1, c2, c3, c4⟩ := core_read (Nat.zero_le _) hk
  unfold tail1 at h
  by_cases h3 : (Semver.rowAt l q1 45).1 ≠ 0
  ·rw [if_pos h3] at h; injection h with h; exact absurd h h3
  ·rw [if_neg h3] at h
   have hre := rowAt_end l q1 45 hce
   obtain ⟨⟨f, q2, xs⟩, hr⟩ : ∃ t, Semver.rowAt l q1 45 = t := ⟨_, rfl⟩
   rw [hr] at h3 h hre
   simp only at h3 h hre
   have h3' : f = 0 := by simpa using h3
   subst h3'
   obtain ⟨r1, r2⟩ := rowAt_read (mb := 45) rfl hce hr
   unfold tail2 at h
   by_cases h4 : (Semver.rowAt l q2 43).1 ≠ 0
   ·rw [if_pos h4] at h; injection h with h; exact absurd h h4
   ·rw [if_neg h4] at h
    obtain ⟨⟨f, q3, ys⟩, hr3⟩ : ∃ t, Semver.rowAt l q2 43 = t := ⟨_, rfl⟩
    rw [hr3] at h4 h
    simp only at h4 h
    have h4' : f = 0 := by simpa using h4
    subst h4'
    obtain ⟨s1, s2⟩ := rowAt_read (mb := 43) rfl hre hr3
    injection h with _ h
    injection h with hq hv
    subst hq; subst hv
    refine ⟨?_, ?_⟩
    ·unfold goodV
     rw [heldB_yes c2 c3 c4]
     have r2' : goodFrom true xs 0 = true := r2
     have s2' : goodFrom false ys 0 = true := s2
     simp [r2', s2']
    ·have e : l = Lib.decDigits x ++ 46 :: (Lib.decDigits y ++ 46 :: (Lib.decDigits z ++ (rowText 45 xs ++ (rowText 43 ys ++ l.drop q3)))) := by
      rw [← s1, ← r1, ← c1]; rfl
     generalize l.drop q3 = t at e ⊢
     rw [e]
     unfold vtext
     simp

theorem fits_many {kind : Int} (h : kind = 9 ∨ kind = 10) {n : Nat} (hn : 2 ≤ n) : fits kind noVer n = true := by
 have h1 : ofVersion kind = false := by unfold ofVersion; rcases h with rfl | rfl <;> decide
 have h2 : kind ≠ 0 := by omega
 unfold fits
 rw [h1, sameV_self, if_neg (by simp), if_neg (by simp), if_neg h2, if_pos h, decide_eq_true hn]
theorem opFrom_kind (s : List UInt8) : (opOf s).1 = 1 ∧ (opOf s).2 = [62, 61] ∨ (opOf s).1 = 2 ∧ (opOf s).2 = [62] ∨ (opOf s).1 = 3 ∧ (opOf s).2 = [60, 61] ∨ (opOf s).1 = 4 ∧ (opOf s).2 = [60] ∨ (opOf s).1 = 5 ∧ (opOf s).2 = [61] ∨ (opOf s).1 = 6 ∧ (opOf s).2 = [33, 61] ∨ (opOf s).1 = 7 ∧ (opOf s).2 = [94] ∨ (opOf s).1 = 8 ∧ (opOf s).2 = [126] ∨ (opOf s).1 = 5 ∧ (opOf s).2 = [] := by
 unfold opOf ops opFrom
 split
 ·simp
 ·unfold opFrom; split
  ·simp
  ·unfold opFrom; split
   ·simp
   ·unfold opFrom; split
    ·simp
    ·unfold opFrom; split
     ·simp
     ·unfold opFrom; split
      ·simp
      ·unfold opFrom; split
       ·simp
       ·unfold opFrom; split
        ·simp
        ·unfold opFrom; simp
theorem zero_good {d : Nat} (hd : d ≤ 64) : goodR noRng (d + opens 9 noRng.kind) = true := by
 show goodR (.mk 0 noVer []) (d + opens 9 0) = true
 rw [goodR_eq, decide_eq_true (show d + opens 9 0 ≤ 64 from hd)]; rfl

end Go.Proofs.YtgfbflnhjpbceaaGreatDoor.Range
namespace Go.Proofs.YtgfbflnhjpbceaaGreatDoor.Range
open Go.RowKit Num Ident Semver
mutual
def wt : Rng → Nat
 | .mk _ _ l => 1 + wtL l
def wtL : List Rng → Nat
 | [] => 0
 | r :: rs => wt r + wtL rs
end
theorem wt_eq (r : Rng) : wt r = 1 + wtL r.subs := by cases r; rfl
theorem wtL_cons (r : Rng) (rs : List Rng) : wtL (r :: rs) = wt r + wtL rs := rfl
theorem wtL_drop (l : List Rng) (i : Nat) (h : i < l.length) : wtL (l.drop i) = 1 + wtL (l.getD i noRng).subs + wtL (l.drop (i + 1)) := by
 rw [List.drop_eq_getElem_cons h, wtL_cons, wt_eq]
 simp [List.getD, List.getElem?_eq_getElem h]
theorem least {p : Nat → Prop} (h : ∃ n, p n) : ∃ m, p m ∧ ∀ k, p k → m ≤ k := by
 obtain ⟨n, hn⟩ := h
 induction n using Nat.strongRecOn with
 | _ n ih =>
  by_cases hk : ∃ k, k < n ∧ p k
  ·obtain ⟨k, hlt, hp⟩ := hk; exact ih k hlt hp
  ·exact ⟨n, hn, fun k hp => Nat.le_of_not_lt fun hlt => hk ⟨k, hlt, hp⟩⟩
open Classical in
noncomputable def leastOf (p : Nat → Prop) : Nat := if h : ∃ n, p n then Classical.choose (least h) else 0
theorem leastOf_at {p : Nat → Prop} (h : ∃ n, p n) : p (leastOf p) := by unfold leastOf; rw [dif_pos h]; exact (Classical.choose_spec (least h)).1
theorem leastOf_le {p : Nat → Prop} {k : Nat} (h : p k) : leastOf p ≤ k := by unfold leastOf; rw [dif_pos ⟨k, h⟩]; exact (Classical.choose_spec (least ⟨k, h⟩)).2 k h
theorem wp_scope_back_of {P : Program} {a : Act} {w : World} {Q : Exit → Act → World → Prop} {c rest : Code} (l : Nat) (J : Nat → Act → World → Prop) (hf : findLabel c l = some (Code.skip.seq rest))
  (pass : ∀ m a w, J m a w → rest.wp P (Exit.jump l (fun a' w' => ∃ k, J k a' w' ∧ k < m) Q) a w)
  (first : Hid (∀ m a w, J m a w → rest.wp P (Exit.jump l (fun a' w' => ∃ k, J k a' w') Q) a w) → c.wp P (Exit.jump l (fun a' w' => ∃ k, J k a' w') Q) a w) : (Code.scope c).wp P Q a w := by
 refine wp_scope_back l (fun a w => ∃ k, J k a w) (fun a w => leastOf fun k => J k a w) hf (fun a w h => ?_) (fun H => first fun m a w h => H.out a w ⟨m, h⟩)
 refine wp_mono (pass _ a w (leastOf_at h)) fun e _ _ hq => ?_
 cases e <;> first
  | exact hq
  | (obtain ⟨he, k, hk, hlt⟩ := hq; exact ⟨he, ⟨k, hk⟩, Nat.lt_of_le_of_lt (leastOf_le hk) hlt⟩)
end Go.Proofs.YtgfbflnhjpbceaaGreatDoor.Range
namespace Go.Proofs.YtgfbflnhjpbceaaGreatDoor.Range
open Num Ident Semver

theorem sameV_eq {u v : Ver} (h : sameV u v = true) : u = v := by
 unfold sameV at h
 rw [Bool.and_eq_true, Bool.and_eq_true, decide_eq_true_eq, sameB_iff, sameB_iff] at h
 obtain ⟨a, b, c, p, q⟩ := u
 obtain ⟨a', b', c', p', q'⟩ := v
 obtain ⟨⟨h1, h2, h3⟩, h4, h5⟩ := h
 simp only at h1 h2 h3 h4 h5
 rw [h1, h2, h3, h4, h5]
theorem good_cases {kind : Int} {v : Ver} {l : List Rng} {d : Nat} (h : goodR (.mk kind v l) d = true) :
  d ≤ 64 ∧ goodL kind l d = true ∧ ((1 ≤ kind ∧ kind ≤ 8 ∧ goodV v = true ∧ l = []) ∨ (v = noVer ∧ ((kind = 0 ∧ l = []) ∨ ((kind = 9 ∨ kind = 10) ∧ 2 ≤ l.length) ∨ (kind = 11 ∧ ∃ x, l = [x])))) := by
 rw [goodR_eq, Bool.and_eq_true, Bool.and_eq_true, decide_eq_true_eq] at h
 refine ⟨h.1.1, h.2, ?_⟩
 have hf := h.1.2
 unfold fits at hf
 by_cases h1 : ofVersion kind = true
 ·rw [if_pos h1, Bool.and_eq_true, decide_eq_true_eq] at hf
  unfold ofVersion at h1
  rw [decide_eq_true_eq] at h1
  exact .inl ⟨h1.1, h1.2, hf.1, List.eq_nil_of_length_eq_zero hf.2⟩
 ·rw [if_neg h1] at hf
  by_cases h2 : sameV v noVer = false
  ·rw [if_pos h2] at hf; cases hf
  ·rw [if_neg h2] at hf
   refine .inr ⟨sameV_eq (by simpa using h2), ?_⟩
   by_cases h3 : kind = 0
   ·rw [if_pos h3, decide_eq_true_eq] at hf; exact .inl ⟨h3, List.eq_nil_of_length_eq_zero hf⟩
   ·rw [if_neg h3] at hf
    by_cases h4 : kind = 9 ∨ kind = 10
    ·rw [if_pos h4, decide_eq_true_eq] at hf; exact .inr (.inl ⟨h4, hf⟩)
    ·rw [if_neg h4] at hf
     by_cases h5 : kind = 11
     ·rw [if_pos h5, decide_eq_true_eq] at hf
      exact .inr (.inr ⟨h5, List.length_eq_one_iff.1 hf⟩)
     ·rw [if_neg h5] at hf; cases hf
theorem size_mem {x : Rng} {kind : Int} {v : Ver} {l : List Rng} (h : x ∈ l) : SizeOf.sizeOf x < SizeOf.sizeOf (Rng.mk kind v l) := by
 have := List.sizeOf_lt_of_mem h
 rw [Rng.mk.sizeOf_spec]; omega
theorem goodL_mem {o : Int} {x : Rng} : ∀ {l : List Rng} {d : Nat}, goodL o l d = true → x ∈ l → goodR x (d + opens o x.kind) = true
 | [], _, _, h => by cases h
 | r :: rs, d, hg, h => by
  rw [goodL_cons, Bool.and_eq_true] at hg
  rcases List.mem_cons.1 h with rfl | h
  ·exact hg.1
  ·exact goodL_mem hg.2 h

structure Reads (r : Rng) (k : Nat) (rest : List UInt8) : Prop where
 one : r.kind ≠ 9 → r.kind ≠ 10 → pone k (textR r ++ rest) = (0, blanks rest, r)
 every : r.kind ≠ 10 → furO (blanks rest) = none → everyF (pone k) (textR r ++ rest) = (0, blanks rest, r)
 expr : furO (blanks rest) = none → furE (blanks rest) = none → exprF (pone k) (textR r ++ rest) = (0, blanks rest, r)
end Go.Proofs.YtgfbflnhjpbceaaGreatDoor.Range
namespace Go.Proofs.YtgfbflnhjpbceaaGreatDoor.Prec
open Go.RowKit Num Ident Semver

structure Ordr {T : Type} (f : T → T → Int) : Prop where
 flip : ∀ x y, f y x = 0 - f x y
 trans : ∀ x y z, f x y ≤ 0 → f y z ≤ 0 → f x z ≤ 0
theorem Ordr.self {T : Type} {f : T → T → Int} (h : Ordr f) (x : T) : f x x = 0 := by have := h.flip x x; omega
def lex {T : Type} (f g : T → T → Int) (x y : T) : Int := if f x y = 0 then g x y else f x y
theorem lex_no {T : Type} {f g : T → T → Int} {x y : T} (h : f x y ≠ 0) : lex f g x y = f x y := by unfold lex; rw [if_neg h]
theorem lex_yes {T : Type} {f g : T → T → Int} {x y : T} (h : f x y = 0) : lex f g x y = g x y := by unfold lex; rw [if_pos h]
theorem Ordr.lex {T : Type} {f g : T → T → Int} (hf : Ordr f) (hg : Ordr g) : Ordr (lex f g) := by
 refine ⟨fun x y => ?_, fun x y z h1 h2 => ?_⟩
 ·have e := hf.flip x y
  by_cases h : f x y = 0
  ·rw [lex_yes h, lex_yes (by omega)]; exact hg.flip x y
  ·rw [lex_no h, lex_no (by omega)]; exact e
 ·have a1 : f x y ≤ 0 := by
   by_cases h : f x y = 0
   ·omega
   ·rw [lex_no h] at h1; exact h1
  have a2 : f y z ≤ 0 := by
   by_cases h : f y z = 0
   ·omega
   ·rw [lex_no h] at h2; exact h2
  have a3 := hf.trans x y z a1 a2
  by_cases h : f x z = 0
  ·have e1 := hf.flip x z
   have e2 := hf.flip x y
   have e3 := hf.flip y z
   have b1 := hf.trans z x y (by omega) a1
   have b2 := hf.trans y z x a2 (by omega)
   rw [lex_yes h]
   rw [lex_yes (show f x y = 0 by omega)] at h1
   rw [lex_yes (show f y z = 0 by omega)] at h2
   exact hg.trans x y z h1 h2
  ·rw [lex_no h]; exact a3
theorem Ordr.on {T U : Type} {f : T → T → Int} (h : Ordr f) (k : U → T) : Ordr fun x y => f (k x) (k y) := ⟨fun _ _ => h.flip _ _, fun _ _ _ => h.trans _ _ _⟩

theorem ordN_ordr : Ordr ordN := by
 refine ⟨fun x y => ordN_flip x y, fun x y z h1 h2 => ?_⟩
 rcases ordN_cases x y with ⟨a, b⟩ | ⟨a, b⟩ | ⟨a, b⟩ <;> rcases ordN_cases y z with ⟨c, d⟩ | ⟨c, d⟩ | ⟨c, d⟩ <;> rcases ordN_cases x z with ⟨e, f⟩ | ⟨e, f⟩ | ⟨e, f⟩ <;> omega
theorem bytes_flip : ∀ a b : List UInt8, Lib.compareBytes b a = 0 - Lib.compareBytes a b
 | [], [] => rfl
 | [], _ :: _ => rfl
 | _ :: _, [] => rfl
 | x :: a, y :: b => by
  unfold Lib.compareBytes
  simp only [UInt8.lt_iff_toNat_lt]
  by_cases h1 : x.toNat < y.toNat
  ·rw [if_pos h1, if_neg (show ¬ y.toNat < x.toNat by omega), if_pos h1]; rfl
  ·by_cases h2 : y.toNat < x.toNat
   ·rw [if_pos h2, if_neg h1, if_pos h2]; rfl
   ·rw [if_neg h2, if_neg h1, if_neg h1, if_neg h2]; exact bytes_flip a b
theorem cmpId_flip (a b : List UInt8) : cmpId b a = 0 - cmpId a b := by
 unfold cmpId
 by_cases ha : numeric a = true
 ·by_cases hb : numeric b = true
  ·have e1 := ordN_flip (val a) (val b)
   have e2 := ordN_flip a.length b.length
   simp only [if_pos ha, if_pos hb]
   by_cases h : ordN (val a) (val b) = 0
   ·rw [if_pos h, if_pos (by omega)]; exact e2
   ·rw [if_neg h, if_neg (by omega)]; exact e1
  ·simp only [if_pos ha, if_neg hb]; rfl
 ·by_cases hb : numeric b = true
  ·simp only [if_neg ha, if_pos hb]; rfl
  ·simp only [if_neg ha, if_neg hb]; exact bytes_flip a b

theorem rows_flip : ∀ r s : List (List UInt8), cmpRows s r = 0 - cmpRows r s
 | [], s => by rw [cmpRows_nil, cmpRows_nil']; exact ordN_flip 0 s.length
 | a :: r, [] => by rw [cmpRows_nil, cmpRows_nil']; exact ordN_flip _ 0
 | a :: r, b :: s => by
  have e := cmpId_flip a b
  by_cases h : cmpId a b = 0
  ·rw [cmpRows_same h, cmpRows_same (by omega)]; exact rows_flip r s
  ·rw [cmpRows_diff h, cmpRows_diff (by omega)]; exact e
theorem rows_nil_le (s : List (List UInt8)) : cmpRows [] s ≤ 0 := by
 rw [cmpRows_nil]; rcases ordN_cases 0 s.length with h | h | h <;> omega
theorem rows_trans : ∀ r s t : List (List UInt8), cmpRows r s ≤ 0 → cmpRows s t ≤ 0 → cmpRows r t ≤ 0
 | [], _, t, _, _ => rows_nil_le t
 | a :: r, [], _, h, _ => by
  rw [cmpRows_nil'] at h
  rcases ordN_cases (a :: r).length 0 with h2 | h2 | h2
  ·exact absurd h2.1 (by simp)
  ·exact absurd h2.1 (by simp)
  ·omega
 | a :: r, b :: s, [], _, h => by
  rw [cmpRows_nil'] at h
  rcases ordN_cases (b :: s).length 0 with h2 | h2 | h2
  ·exact absurd h2.1 (by simp)
  ·exact absurd h2.1 (by simp)
  ·omega
 | a :: r, b :: s, c :: t, h1, h2 => by
  have a1 : cmpId a b ≤ 0 := by
   by_cases h : cmpId a b = 0
   ·omega
   ·rw [cmpRows_diff h] at h1; exact h1
  have a2 : cmpId b c ≤ 0 := by
   by_cases h : cmpId b c = 0
   ·omega
   ·rw [cmpRows_diff h] at h2; exact h2
  have a3 := cmpId_trans a b c a1 a2
  by_cases h : cmpId a c = 0
  ·have e1 := cmpId_flip a c
   have e2 := cmpId_flip a b
   have e3 := cmpId_flip b c
   have b1 := cmpId_trans c a b (by omega) a1
   have b2 := cmpId_trans b c a a2 (by omega)
   rw [cmpRows_same h]
   rw [cmpRows_same (show cmpId a b = 0 by omega)] at h1
   rw [cmpRows_same (show cmpId b c = 0 by omega)] at h2
   exact rows_trans r s t h1 h2
  ·rw [cmpRows_diff h]; exact a3
theorem rows_ordr : Ordr cmpRows := ⟨rows_flip, rows_trans⟩

def noneN (x : List (List UInt8)) : Nat := if x.length = 0 then 1 else 0
def cmpPre : List (List UInt8) → List (List UInt8) → Int := lex (fun x y => ordN (noneN x) (noneN y)) cmpRows
theorem cmpPre_one {x y : List (List UInt8)} (h1 : x.length = 0) (h2 : y.length ≠ 0) : cmpPre x y = 1 := by
 have e : ordN (noneN x) (noneN y) = 1 := by unfold noneN; rw [if_pos h1, if_neg h2]; rfl
 unfold cmpPre; rw [lex_no (by rw [e]; omega)]; exact e
theorem cmpPre_two {x y : List (List UInt8)} (h1 : x.length ≠ 0) (h2 : y.length = 0) : cmpPre x y = -1 := by
 have e : ordN (noneN x) (noneN y) = -1 := by unfold noneN; rw [if_neg h1, if_pos h2]; rfl
 unfold cmpPre; rw [lex_no (by rw [e]; omega)]; exact e
theorem cmpPre_rows {x y : List (List UInt8)} (h : x.length = 0 ↔ y.length = 0) : cmpPre x y = cmpRows x y := by
 have e : ordN (noneN x) (noneN y) = 0 := by
  unfold noneN
  by_cases h1 : x.length = 0
  ·rw [if_pos h1, if_pos (h.1 h1)]; rfl
  ·rw [if_neg h1, if_neg (fun h2 => h1 (h.2 h2))]; rfl
 unfold cmpPre; exact lex_yes e
def cmpCore : Ver → Ver → Int := lex (fun u v => ordN u.a v.a) (lex (fun u v => ordN u.b v.b) fun u v => ordN u.c v.c)
theorem ordN_zero_iff (x y : Nat) : ordN x y = 0 ↔ x = y := by rcases ordN_cases x y with h | h | h <;> omega
theorem cmpCore_1 {u v : Ver} (h : u.a ≠ v.a) : cmpCore u v = ordN u.a v.a := by
 unfold cmpCore; exact lex_no (fun e => h ((ordN_zero_iff _ _).1 e))
theorem cmpCore_2 {u v : Ver} (h1 : u.a = v.a) (h : u.b ≠ v.b) : cmpCore u v = ordN u.b v.b := by
 unfold cmpCore; refine (lex_yes (f := fun u v : Ver => ordN u.a v.a) ((ordN_zero_iff _ _).2 h1)).trans ?_; exact lex_no (fun e => h ((ordN_zero_iff _ _).1 e))
theorem cmpCore_3 {u v : Ver} (h1 : u.a = v.a) (h2 : u.b = v.b) : cmpCore u v = ordN u.c v.c := by
 unfold cmpCore; refine (lex_yes (f := fun u v : Ver => ordN u.a v.a) ((ordN_zero_iff _ _).2 h1)).trans ?_; exact lex_yes ((ordN_zero_iff _ _).2 h2)
def cmpV : Ver → Ver → Int := lex cmpCore fun u v => cmpPre u.pre v.pre
theorem core_ordr : Ordr cmpCore := (ordN_ordr.on Ver.a).lex ((ordN_ordr.on Ver.b).lex (ordN_ordr.on Ver.c))
theorem pre_ordr : Ordr cmpPre := (ordN_ordr.on noneN).lex rows_ordr
theorem cmpV_ordr : Ordr cmpV := core_ordr.lex (pre_ordr.on Ver.pre)

def bare (v : Ver) : Ver := { v with build := [] }

def firstV (x y z : Nat) : Ver := ⟨x, y, z, [[48]], []⟩
def endV (x y z i : Nat) : Option Ver :=
 if i = 0 then (if 9223372036854775807 ≤ x then none else some (firstV (x + 1) 0 0))
 else if i = 1 then (if 9223372036854775807 ≤ y then none else some (firstV x (y + 1) 0))
 else if 9223372036854775807 ≤ z then none else some (firstV x y (z + 1))
def placeV (x y : Nat) : Nat := if x ≠ 0 then 0 else if y ≠ 0 then 1 else 2
def caretV (v : Ver) : Option Ver := endV v.a v.b v.c (placeV v.a v.b)
def tildeV (v : Ver) : Option Ver := endV v.a v.b v.c 1
def verOf (o : Option Ver) : Ver := o.getD noVer
theorem end_ahead {v e : Ver} {i : Nat} (h : endV v.a v.b v.c i = some e) : cmpV v e = -1 := by
 have k : cmpCore v e = -1 := by
  unfold endV at h
  split at h
  ·split at h
   ·cases h
   ·cases h
    rw [cmpCore_1 (by show v.a ≠ v.a + 1; omega)]; exact ordN_lt (Nat.lt_succ_self v.a)
  ·split at h
   ·split at h
    ·cases h
    ·cases h
     exact (cmpCore_2 (u := v) (v := firstV v.a (v.b + 1) 0) rfl (by show v.b ≠ v.b + 1; omega)).trans (ordN_lt (Nat.lt_succ_self v.b))
   ·split at h
    ·cases h
    ·cases h
     exact (cmpCore_3 (u := v) (v := firstV v.a v.b (v.c + 1)) rfl rfl).trans (ordN_lt (Nat.lt_succ_self v.c))
 unfold cmpV
 rw [lex_no (by rw [k]; omega)]; exact k
end Go.Proofs.YtgfbflnhjpbceaaGreatDoor.Prec
namespace Go.Proofs.YtgfbflnhjpbceaaGreatDoor.Prec
open Go.RowKit

theorem run_eq3 (n0 n1 n2 m0 m1 m2 : Int) (w : World) :
  (Op.equalIn 10000 147 (.agg #[.int .u64 n0, .int .u64 n1, .int .u64 n2]) (.agg #[.int .u64 m0, .int .u64 m1, .int .u64 m2])).run Tryz.prog w = .ok (n0 == m0 && (n1 == m1 && n2 == m2)) w := by
 obtain ⟨i, hi⟩ := Option.isSome_iff_exists.1 (show (Tryz.prog.info? 22).isSome = true by kernel_rfl)
 have hc : Tryz.prog.cellsOf 22 = 1 := by kernel_rfl
 have hp : Tryz.prog.plainKey 22 = true := by kernel_rfl
 have q0 := run_part_plain (P := Tryz.prog) w hp (xs := #[.int .u64 n0, .int .u64 n1, .int .u64 n2]) (off := 0) rfl
 have q1 := run_part_plain (P := Tryz.prog) w hp (xs := #[.int .u64 n0, .int .u64 n1, .int .u64 n2]) (off := 1) rfl
 have q2 := run_part_plain (P := Tryz.prog) w hp (xs := #[.int .u64 n0, .int .u64 n1, .int .u64 n2]) (off := 2) rfl
 have p0 := run_part_plain (P := Tryz.prog) w hp (xs := #[.int .u64 m0, .int .u64 m1, .int .u64 m2]) (off := 0) rfl
 have p1 := run_part_plain (P := Tryz.prog) w hp (xs := #[.int .u64 m0, .int .u64 m1, .int .u64 m2]) (off := 1) rfl
 have p2 := run_part_plain (P := Tryz.prog) w hp (xs := #[.int .u64 m0, .int .u64 m1, .int .u64 m2]) (off := 2) rfl
 have e := fun a b : Int => run_equalIn_int (P := Tryz.prog) w 9998 22 .u64 .u64 a b Tryz.underlying22
 rw [run_equalIn_array w 9999 _ _ Tryz.underlying147 hi, hc, show List.range 3 = [0, 1, 2] from rfl]
 simp only [Op.eqItems, Sem.run_bind, Nat.mul_one, q0, p0, Result.andThen_ok]
 cases h0 : n0 == m0 <;> cases h1 : n1 == m1 <;> cases h2 : n2 == m2 <;> simp [q1, q2, p1, p2, e, h0, h1, h2]
end Go.Proofs.YtgfbflnhjpbceaaGreatDoor.Prec
namespace Go.Proofs.YtgfbflnhjpbceaaGreatDoor.Num
open Go.RowKit

theorem cmp_any (x y : Nat) (w : World) :
  Calls Tryz.prog 80 #[.int .i64 x, .int .i64 y] w fun e w' => e = .returned (.int .i64 (ordN x y)) ∧ w = w' := by
 rcases Nat.lt_trichotomy x y with h | h | h
 ·have HF := Lib.hid (ordN_lt h)
  go_enter Tryz.func80, Tryz.ntmps80
  go_wp2
  go_ret
  exact ⟨by rw [HF.out]; rfl, rfl⟩
 ·have HF := Lib.hid (ordN_eq h)
  subst h
  go_enter Tryz.func80, Tryz.ntmps80
  go_wp2
  go_ret
  exact ⟨by rw [HF.out]; rfl, rfl⟩
 ·have HF := Lib.hid (ordN_gt h)
  go_enter Tryz.func80, Tryz.ntmps80
  go_wp2
  go_ret
  exact ⟨by rw [HF.out]; rfl, rfl⟩

theorem strcmp_any (s t : ByteArray) (w : World) :
  Calls Tryz.prog 180 #[.string s, .string t] w fun e w' => e = .returned (.int .i64 (Lib.compareBytes s.data.toList t.data.toList)) ∧ w = w' := by
 have hx : ∀ W, (callFunc 200 #[.string s, .string t]).run Tryz.prog W = .ok (.value (.int .i64 (Lib.compareBytes s.data.toList t.data.toList))) W := fun W => by
  rw [run_callFunc_extern Tryz.func200 (by kernel_rfl) (by kernel_rfl) (by kernel_rfl) (e := Extern.BytealgCompare.compare) (by kernel_rfl), Lib.run_compareString]
  rfl
 generalize Lib.compareBytes s.data.toList t.data.toList = r at hx ⊢
 go_enter Tryz.func180, Tryz.ntmps180
 go_wp2
 go_ret
 exact ⟨rfl, rfl⟩

theorem compare_anyD (s t : ByteArray) (w : World) (hs : s.size ≤ maxLen) (ht : t.size ≤ maxLen) :
  Calls Tryz.prog 189 #[.string s, .string t] w fun e w' => e = .returned (.int .i64 (cmpNum s.data.toList t.data.toList)) ∧ BelowD w.heap.size w w' := by
 have hs' := hs
 have ht' := ht
 unfold maxLen at hs' ht'
 have HS := Lib.hid hs
 have HT := Lib.hid ht
 clear hs ht
 have LS := Lib.hid (Lib.size_eq s)
 have LT := Lib.hid (Lib.size_eq t)
 cases ha : isNum s.data.toList
 ·have HF := Lib.hid (cmpNum_no (b := t.data.toList) (.inl ha))
  have HA := Lib.hid ha; clear ha
  go_enter Tryz.func189, Tryz.ntmps189
  go_wp2_with fail
  refine (is_anyD s _ HS.out).mono ?_
  rintro e w1 ⟨rfl, hb1⟩
  rw [HA.out]
  go_wp2
  go_ret
  exact ⟨by rw [HF.out]; rfl, hb1⟩
 ·cases hb : isNum t.data.toList
  ·have HF := Lib.hid (cmpNum_no (a := s.data.toList) (.inr hb))
   have HA := Lib.hid ha; clear ha
   have HB := Lib.hid hb; clear hb
   go_enter Tryz.func189, Tryz.ntmps189
   go_wp2_with fail
   refine (is_anyD s _ HS.out).mono ?_
   rintro e w1 ⟨rfl, hb1⟩
   rw [HA.out]
   go_wp2_with fail
   refine (is_anyD t _ HT.out).mono ?_
   rintro e w2 ⟨rfl, hb2⟩
   rw [HB.out]
   have hz1 := hb1.size
   go_wp2
   go_ret
   exact ⟨by rw [HF.out]; rfl, hb1.trans (hb2.mono hz1)⟩
  ·have HF := Lib.hid (cmpNum_yes ha hb)
   have HG := Lib.hid (fun h => ordN_lt (shorter ha hb h))
   have HG2 := Lib.hid (fun h => ordN_gt (shorter hb ha h))
   have HG3 := Lib.hid (fun h => alike_val ha hb h)
   have HA := Lib.hid ha; clear ha
   have HB := Lib.hid hb; clear hb
   go_enter Tryz.func189, Tryz.ntmps189
   go_wp2_with fail
   refine (is_anyD s _ HS.out).mono ?_
   rintro e w1 ⟨rfl, hb1⟩
   rw [HA.out]
   go_wp2_with fail
   refine (is_anyD t _ HT.out).mono ?_
   rintro e w2 ⟨rfl, hb2⟩
   rw [HB.out]
   have hz1 := hb1.size
   have HBB := Lib.hid (hb1.trans (hb2.mono hz1))
   go_wp2_with fail
   refine (cmp_any _ _ _).mono ?_
   rintro e w' ⟨rfl, rfl⟩
   rcases Nat.lt_trichotomy s.size t.size with h | h | h
   ·rw [ordN_lt h]
    go_wp2
    go_ret
    exact ⟨by rw [HF.out, HG.out (by rw [← LS.out, ← LT.out]; exact h)]; rfl, HBB.out⟩
   ·rw [ordN_eq h]
    have H := Lib.hid h; clear h
    go_wp2_with fail
    refine (strcmp_any _ _ _).mono ?_
    rintro e w' ⟨rfl, rfl⟩
    go_wp2
    go_ret
    exact ⟨by rw [HF.out, ← HG3.out (by rw [← LS.out, ← LT.out]; exact H.out)]; rfl, HBB.out⟩
   ·rw [ordN_gt h]
    go_wp2
    go_ret
    exact ⟨by rw [HF.out, HG2.out (by rw [← LS.out, ← LT.out]; exact h)]; rfl, HBB.out⟩
end Go.Proofs.YtgfbflnhjpbceaaGreatDoor.Num
namespace Go.Proofs.YtgfbflnhjpbceaaGreatDoor.Ident
open Go.RowKit Num

theorem trim_le (l : List UInt8) : (Lib.trimLeftB l 48).length ≤ l.length := (List.dropWhile_sublist _).length_le

theorem numeral_any (s : ByteArray) (w : World) :
  Calls Tryz.prog 190 #[.string s] w fun e w' => e = .returned (.string (mk (numeral s.data.toList))) ∧ w = w' := by
 obtain ⟨t, ht⟩ : ∃ t : ByteArray, (⟨(Lib.trimLeftB s.data.toList 48).toArray⟩ : ByteArray) = t := ⟨_, rfl⟩
 have HT := Lib.hid ht
 have hz : t.size = (Lib.trimLeftB s.data.toList 48).length := by rw [← ht]; rfl
 have HK : Hid (∀ W, Calls Tryz.prog 199 #[.string s, .string ⟨#[48]⟩] W fun e w' => e = .returned (.string t) ∧ w' = W) := fun W => by
  have := Tryz.strings_TrimLeft_one s 48 (by decide) W
  rw [ht] at this
  exact this
 clear ht
 by_cases h0 : t.size = 0
 ·have HF : Hid (numeral s.data.toList = [48]) := by unfold Hid numeral; rw [if_pos (by rw [← hz]; exact h0)]
  have hem := (empty_iff t).2 h0
  clear h0 hz
  go_enter Tryz.func190, Tryz.ntmps190
  go_wp2_with fail
  refine (HK.out _).mono ?_
  rintro e w' ⟨rfl, rfl⟩
  go_wp2
  go_ret
  exact ⟨by rw [HF.out]; rfl, rfl⟩
 ·have HF : Hid (numeral s.data.toList = Lib.trimLeftB s.data.toList 48) := by unfold Hid numeral; rw [if_neg (by rw [← hz]; exact h0)]
  have hem := (empty_no t).2 h0
  clear h0 hz
  go_enter Tryz.func190, Tryz.ntmps190
  go_wp2_with fail
  refine (HK.out _).mono ?_
  rintro e w' ⟨rfl, rfl⟩
  go_wp2
  go_ret
  exact ⟨by rw [HF.out, ← HT.out]; rfl, rfl⟩

theorem numeral_le (l : List UInt8) (h : 0 < l.length) : (numeral l).length ≤ l.length := by
 unfold numeral
 split
 ·simp; omega
 ·exact trim_le l

theorem numbers_anyD (s t : ByteArray) (w : World) (hs : s.size ≤ maxLen) (ht : t.size ≤ maxLen) (ha : numeric s.data.toList = true) (hb : numeric t.data.toList = true) :
  Calls Tryz.prog 179 #[.string s, .string t] w fun e w' => e = .returned (.int .i64 (cmpId s.data.toList t.data.toList)) ∧ BelowD w.heap.size w w' := by
 have HF : Hid (cmpId s.data.toList t.data.toList = if ordN (val s.data.toList) (val t.data.toList) = 0 then ordN s.data.toList.length t.data.toList.length else ordN (val s.data.toList) (val t.data.toList)) := by
  unfold Hid cmpId; rw [if_pos ha, if_pos hb]
 have HL := Lib.hid (Lib.size_eq s)
 have HM := Lib.hid (Lib.size_eq t)
 rw [numeric_iff] at ha hb
 have z1 : (mk (numeral s.data.toList)).size ≤ maxLen := by have := numeral_le _ ha.1; rw [mk_size]; rw [HL.out] at hs; omega
 have z2 : (mk (numeral t.data.toList)).size ≤ maxLen := by have := numeral_le _ hb.1; rw [mk_size]; rw [HM.out] at ht; omega
 have HC : Hid (∀ W, Calls Tryz.prog 189 #[.string (mk (numeral s.data.toList)), .string (mk (numeral t.data.toList))] W fun e w' => e = .returned (.int .i64 (ordN (val s.data.toList) (val t.data.toList))) ∧ BelowD W.heap.size W w') := fun W => by
  have := Num.compare_anyD (mk (numeral s.data.toList)) (mk (numeral t.data.toList)) W z1 z2
  rw [mk_list, mk_list, cmpNum_yes (numeral_num (all_of_run ha.2)) (numeral_num (all_of_run hb.2)), numeral_val, numeral_val] at this
  exact this
 clear z1 z2 ha hb
 unfold maxLen at hs ht
 generalize val s.data.toList = x at HC HF
 generalize val t.data.toList = y at HC HF
 rw [← HL.out, ← HM.out] at HF
 rcases ordN_cases x y with ⟨_, e⟩ | ⟨_, e⟩ | ⟨_, e⟩
 ·rw [e] at HC HF
  have HF2 : Hid (cmpId s.data.toList t.data.toList = -1) := by have := HF.out; rwa [if_neg (by omega)] at this
  clear e HF
  go_enter Tryz.func179, Tryz.ntmps179
  go_wp2_with fail
  refine (numeral_any s _).mono ?_
  rintro e w' ⟨rfl, rfl⟩
  go_wp2_with fail
  refine (numeral_any t _).mono ?_
  rintro e w' ⟨rfl, rfl⟩
  go_wp2_with fail
  refine (HC.out _).mono ?_
  rintro e w1 ⟨rfl, hb1⟩
  go_wp2
  go_ret
  exact ⟨by rw [HF2.out]; rfl, hb1⟩
 ·rw [e] at HC HF
  have HF2 : Hid (cmpId s.data.toList t.data.toList = ordN s.size t.size) := by have := HF.out; rwa [if_pos rfl] at this
  clear e HF
  go_enter Tryz.func179, Tryz.ntmps179
  go_wp2_with fail
  refine (numeral_any s _).mono ?_
  rintro e w' ⟨rfl, rfl⟩
  go_wp2_with fail
  refine (numeral_any t _).mono ?_
  rintro e w' ⟨rfl, rfl⟩
  go_wp2_with fail
  refine (HC.out _).mono ?_
  rintro e w1 ⟨rfl, hb1⟩
  go_wp2_with fail
  refine (cmp_any _ _ _).mono ?_
  rintro e w' ⟨rfl, rfl⟩
  go_wp2
  go_ret
  exact ⟨by rw [HF2.out]; rfl, hb1⟩
 ·rw [e] at HC HF
  have HF2 : Hid (cmpId s.data.toList t.data.toList = 1) := by have := HF.out; rwa [if_neg (by omega)] at this
  clear e HF
  go_enter Tryz.func179, Tryz.ntmps179
  go_wp2_with fail
  refine (numeral_any s _).mono ?_
  rintro e w' ⟨rfl, rfl⟩
  go_wp2_with fail
  refine (numeral_any t _).mono ?_
  rintro e w' ⟨rfl, rfl⟩
  go_wp2_with fail
  refine (HC.out _).mono ?_
  rintro e w1 ⟨rfl, hb1⟩
  go_wp2
  go_ret
  exact ⟨by rw [HF2.out]; rfl, hb1⟩

theorem cmpId_left {a b : List UInt8} (ha : numeric a = true) (hb : numeric b = false) : cmpId a b = -1 := by
 unfold cmpId; rw [if_pos ha, if_neg (by simp [hb])]
theorem cmpId_right {a b : List UInt8} (ha : numeric a = false) (hb : numeric b = true) : cmpId a b = 1 := by
 unfold cmpId; rw [if_neg (by simp [ha]), if_pos hb]
theorem cmpId_none {a b : List UInt8} (ha : numeric a = false) (hb : numeric b = false) : cmpId a b = Lib.compareBytes a b := by
 unfold cmpId; rw [if_neg (by simp [ha]), if_neg (by simp [hb])]

theorem idcmp_anyD (s t : ByteArray) (w : World) (hs : s.size ≤ maxLen) (ht : t.size ≤ maxLen) :
  Calls Tryz.prog 167 #[.string s, .string t] w fun e w' => e = .returned (.int .i64 (cmpId s.data.toList t.data.toList)) ∧ BelowD w.heap.size w w' := by
 have HS := Lib.hid hs; clear hs
 have HT := Lib.hid ht; clear ht
 cases ha : numeric s.data.toList
 ·cases hb : numeric t.data.toList
  ·have HF := Lib.hid (cmpId_none ha hb)
   have HA := Lib.hid ha; clear ha
   have HB := Lib.hid hb; clear hb
   go_enter Tryz.func167, Tryz.ntmps167
   go_wp2_with fail
   refine (numeric_any s _ HS.out).mono ?_
   rintro e w' ⟨rfl, rfl⟩
   rw [HA.out]
   go_wp2_with fail
   refine (numeric_any t _ HT.out).mono ?_
   rintro e w' ⟨rfl, rfl⟩
   rw [HB.out]
   go_wp2_with fail
   refine (strcmp_any _ _ _).mono ?_
   rintro e w' ⟨rfl, rfl⟩
   go_wp2
   go_ret
   exact ⟨by rw [HF.out]; rfl, BelowD.refl _ _⟩
  ·have HF := Lib.hid (cmpId_right ha hb)
   have HA := Lib.hid ha; clear ha
   have HB := Lib.hid hb; clear hb
   go_enter Tryz.func167, Tryz.ntmps167
   go_wp2_with fail
   refine (numeric_any s _ HS.out).mono ?_
   rintro e w' ⟨rfl, rfl⟩
   rw [HA.out]
   go_wp2_with fail
   refine (numeric_any t _ HT.out).mono ?_
   rintro e w' ⟨rfl, rfl⟩
   rw [HB.out]
   go_wp2
   go_ret
   exact ⟨by rw [HF.out]; rfl, BelowD.refl _ _⟩
 ·cases hb : numeric t.data.toList
  ·have HF := Lib.hid (cmpId_left ha hb)
   have HA := Lib.hid ha; clear ha
   have HB := Lib.hid hb; clear hb
   go_enter Tryz.func167, Tryz.ntmps167
   go_wp2_with fail
   refine (numeric_any s _ HS.out).mono ?_
   rintro e w' ⟨rfl, rfl⟩
   rw [HA.out]
   go_wp2_with fail
   refine (numeric_any t _ HT.out).mono ?_
   rintro e w' ⟨rfl, rfl⟩
   rw [HB.out]
   go_wp2
   go_ret
   exact ⟨by rw [HF.out]; rfl, BelowD.refl _ _⟩
  ·have HC := Lib.hid (fun W => numbers_anyD s t W HS.out HT.out ha hb)
   have HA := Lib.hid ha; clear ha
   have HB := Lib.hid hb; clear hb
   go_enter Tryz.func167, Tryz.ntmps167
   go_wp2_with fail
   refine (numeric_any s _ HS.out).mono ?_
   rintro e w' ⟨rfl, rfl⟩
   rw [HA.out]
   go_wp2_with fail
   refine (numeric_any t _ HT.out).mono ?_
   rintro e w' ⟨rfl, rfl⟩
   rw [HB.out]
   go_wp2_with fail
   refine (HC.out _).mono ?_
   rintro e w1 ⟨rfl, hb1⟩
   go_wp2
   go_ret
   exact ⟨rfl, hb1⟩
end Go.Proofs.YtgfbflnhjpbceaaGreatDoor.Ident
namespace Go.Proofs.YtgfbflnhjpbceaaGreatDoor.Ident
open Go.RowKit Num

theorem drop_texts (xs : List (List UInt8)) (k : Nat) (h : k < xs.length) : xs.drop k = xs.getD k [] :: xs.drop (k + 1) := by
 rw [List.drop_eq_getElem_cons h]; simp [List.getD, List.getElem?_eq_getElem h]
theorem getD_mem (xs : List (List UInt8)) (k : Nat) (h : k < xs.length) : xs.getD k [] ∈ xs := by
 simp [List.getD, List.getElem?_eq_getElem h]
theorem ordN_zero {a b : Nat} (h : a ≤ b) : ordN 0 (b - a) = ordN a b := by
 rcases Nat.lt_or_ge a b with h1 | h1
 ·rw [ordN_lt h1, ordN_lt (by omega)]
 ·rw [ordN_eq (by omega), ordN_eq (by omega)]
theorem ordN_zero' {a b : Nat} (h : b ≤ a) : ordN (a - b) 0 = ordN a b := by
 rcases Nat.lt_or_ge b a with h1 | h1
 ·rw [ordN_gt h1, ordN_gt (by omega)]
 ·rw [ordN_eq (by omega), ordN_eq (by omega)]
theorem rows_end {xs ys : List (List UInt8)} {k : Nat} (h1 : k ≤ xs.length) (h2 : k ≤ ys.length) (h : k = xs.length ∨ k = ys.length) : cmpRows (xs.drop k) (ys.drop k) = ordN xs.length ys.length := by
 rcases h with h | h
 ·subst h
  rw [List.drop_eq_nil_of_le (Nat.le_refl _), cmpRows_nil, List.length_drop]; exact ordN_zero h2
 ·subst h
  rw [List.drop_eq_nil_of_le (Nat.le_refl ys.length), cmpRows_nil', List.length_drop]; exact ordN_zero' h1

def RowsJ (w : World) (A : Option Addr) (a ca : Nat) (B : Option Addr) (b cb : Nat) (g : Value) (xs ys : List (List UInt8)) (a' : Act) (w' : World) : Prop :=
 ∃ (k : Nat) (u8 u9 u10 u11 u12 u13 u14 u15 u16 u17 u18 u19 u20 u21 u22 u23 u24 u25 u26 u27 u28 u29 u30 u31 u32 u33 u34 u35 u36 u37 u38 : Value), BelowD w.heap.size w w' ∧ k ≤ a ∧ k ≤ b ∧ cmpRows (xs.drop k) (ys.drop k) = cmpRows xs ys ∧
  a' = { tmps := #[.slice A a ca, .slice B b cb, g, undef, undef, undef, .int .i64 0, .int .i64 k, u8, u9, u10, u11, u12, u13, u14, u15, u16, u17, u18, u19, u20, u21, u22, u23, u24, u25, u26, u27, u28, u29, u30, u31, u32, u33, u34, u35, u36, u37, u38], defers := [] }
def RowsM (n : Nat) (a' : Act) (_ : World) : Nat := n - (intOf (a'.tmps.getD 7 undef)).toNat

theorem rowsG_anyD (A : Option Addr) (a ca : Nat) (xs : List (List UInt8)) (B : Option Addr) (b cb : Nat) (ys : List (List UInt8)) (w : World) (hA : SRow w A a xs) (hB : SRow w B b ys)
  (ha : a ≤ maxLen) (hb : b ≤ maxLen) (hx : ∀ x ∈ xs, x.length ≤ maxLen) (hy : ∀ y ∈ ys, y.length ≤ maxLen) :
  Calls Tryz.prog 166 #[.slice A a ca, .slice B b cb, .func (.func 167) #[] #[]] w fun e w' => e = .returned (.int .i64 (cmpRows xs ys)) ∧ BelowD w.heap.size w w' := by
 unfold maxLen at ha hb
 have HA := Lib.hid hA
 have HB := Lib.hid hB
 have HX := Lib.hid hx
 have HY := Lib.hid hy
 have HLA := Lib.hid hA.1
 have HLB := Lib.hid hB.1
 clear hA hB hx hy
 go_enter Tryz.func166, Tryz.ntmps166
 go_wp2
 refine wp_scope_back 0 (RowsJ w A a ca B b cb (.func (.func 167) #[] #[]) xs ys) (RowsM a) rfl ?_ ?_
 ·rintro a' w1 ⟨k, u8, u9, u10, u11, u12, u13, u14, u15, u16, u17, u18, u19, u20, u21, u22, u23, u24, u25, u26, u27, u28, u29, u30, u31, u32, u33, u34, u35, u36, u37, u38, hb1, hk1, hk2, hgo, rfl⟩
  have HB1 := Lib.hid hb1
  have HG := Lib.hid hgo
  clear hb1 hgo
  have hz1 := HB1.out.size
  have HE : Hid (k = a ∨ k = b → cmpRows xs ys = ordN a b) := fun h => by
   rw [← HG.out, rows_end (by rw [HLA.out]; exact hk1) (by rw [HLB.out]; exact hk2) (by rw [HLA.out, HLB.out]; exact h), HLA.out, HLB.out]
  by_cases h1 : k = a
  ·have HE2 := Lib.hid (HE.out (.inl h1))
   have hb1 : ((k : Int) == (a : Int)) = true := by simp [h1]
   clear h1 HE
   go_wp2_with fail
   refine (cmp_any _ _ _).mono ?_
   rintro e w' ⟨rfl, rfl⟩
   go_wp2
   simp only [Exit.jump]
   go_ret
   exact ⟨by rw [HE2.out]; rfl, HB1.out⟩
  by_cases h2 : k = b
  ·have HE2 := Lib.hid (HE.out (.inr h2))
   have hb1 : ((k : Int) == (a : Int)) = false := by simp; omega
   have hb2 : ((k : Int) == (b : Int)) = true := by simp [h2]
   clear h1 h2 HE
   go_wp2_with fail
   refine (cmp_any _ _ _).mono ?_
   rintro e w' ⟨rfl, rfl⟩
   go_wp2
   simp only [Exit.jump]
   go_ret
   exact ⟨by rw [HE2.out]; rfl, HB1.out⟩
  have hb1 : ((k : Int) == (a : Int)) = false := by simp; omega
  have hb2 : ((k : Int) == (b : Int)) = false := by simp; omega
  have hka : k < a := by omega
  have hkb : k < b := by omega
  clear h1 h2 HE
  obtain ⟨g1, o1, rfl, hg1, hc1⟩ := (HA.out.kept HB1.out.toBelow).2 (by omega)
  obtain ⟨g2, o2, rfl, hg2, hc2⟩ := (HB.out.kept HB1.out.toBelow).2 (by omega)
  have hx1 := hc1 k hka
  have hx2 := hc2 k hkb
  clear hc1 hc2
  have HZ1 := Lib.hid (HX.out _ (getD_mem xs k (by rw [HLA.out]; exact hka)))
  have HZ2 := Lib.hid (HY.out _ (getD_mem ys k (by rw [HLB.out]; exact hkb)))
  have HD : Hid (cmpRows xs ys = if cmpId (xs.getD k []) (ys.getD k []) = 0 then cmpRows (xs.drop (k + 1)) (ys.drop (k + 1)) else cmpId (xs.getD k []) (ys.getD k [])) := by
   unfold Hid
   rw [← HG.out, drop_texts xs k (by rw [HLA.out]; exact hka), drop_texts ys k (by rw [HLB.out]; exact hkb), cmpRows]
  generalize xs.getD k [] = s at hx1 HZ1 HD
  generalize ys.getD k [] = t at hx2 HZ2 HD
  go_wp2
  go_still_tail 9, (by kernel_rfl)
  change wpList _ _ _ _ _ w1.drew
  have HW := Lib.hid HB1.out.drew
  generalize w1.drew = w2 at HW
  have hz2 := HW.out.size
  obtain ⟨c, hc⟩ : ∃ c, cmpId s t = c := ⟨_, rfl⟩
  rw [hc] at HD
  have HC := Lib.hid hc; clear hc
  go_wp2_with fail
  refine (idcmp_anyD (mk s) (mk t) _ (by rw [mk_size]; exact HZ1.out) (by rw [mk_size]; exact HZ2.out)).mono ?_
  rw [mk_list, mk_list, HC.out]
  rintro e w3 ⟨rfl, hb3⟩
  have HB3 := Lib.hid (HW.out.trans (hb3.mono hz2))
  clear hb3
  by_cases hc0 : c = 0
  ·have HD2 : Hid (cmpRows (xs.drop (k + 1)) (ys.drop (k + 1)) = cmpRows xs ys) := by have := HD.out; rw [if_pos hc0] at this; exact this.symm
   subst hc0
   clear HD
   go_wp2
   go_step3
   rw [show ((k : Int) + 1) = ((k + 1 : Nat) : Int) from rfl]
   refine ⟨rfl, ⟨k + 1, _, _, _, _, _, _, _, _, _, _, _, _, _, _, _, _, _, _, _, _, _, _, _, _, _, _, _, _, _, _, _, HB3.out, by omega, by omega, HD2.out, rfl⟩, ?_⟩
   simp [RowsM, intOf]; omega
  ·have HD2 : Hid (cmpRows xs ys = c) := by have := HD.out; rw [if_neg hc0] at this; exact this
   have hn : (c == 0) = false := by simp [hc0]
   have hn2 : (c != 0) = true := by simp [hc0]
   clear HD hc0
   go_wp2
   simp only [Exit.jump]
   go_ret
   exact ⟨by rw [HD2.out]; rfl, HB3.out⟩
 ·intro HP
  go_wp2
  go_step3
  rename_i hK
  exact hK _ _ (HP.out _ _ ⟨0, _, _, _, _, _, _, _, _, _, _, _, _, _, _, _, _, _, _, _, _, _, _, _, _, _, _, _, _, _, _, _, BelowD.refl _ _, by omega, by omega, rfl, rfl⟩)
theorem rows_anyD (A : Option Addr) (a ca : Nat) (xs : List (List UInt8)) (B : Option Addr) (b cb : Nat) (ys : List (List UInt8)) (w : World) (hA : SRow w A a xs) (hB : SRow w B b ys)
  (ha : a ≤ maxLen) (hb : b ≤ maxLen) (hx : ∀ x ∈ xs, x.length ≤ maxLen) (hy : ∀ y ∈ ys, y.length ≤ maxLen) :
  Calls Tryz.prog 151 #[.slice A a ca, .slice B b cb] w fun e w' => e = .returned (.int .i64 (cmpRows xs ys)) ∧ BelowD w.heap.size w w' := by
 have HA := Lib.hid hA
 have HB := Lib.hid hB
 have HX := Lib.hid hx
 have HY := Lib.hid hy
 have HM := Lib.hid ha
 have HN := Lib.hid hb
 clear hA hB hx hy ha hb
 go_enter Tryz.func151, Tryz.ntmps151
 go_wp2_with fail
 refine (rowsG_anyD A a ca xs B b cb ys _ HA.out HB.out HM.out HN.out HX.out HY.out).mono ?_
 rintro e w1 ⟨rfl, hb1⟩
 go_wp2
 go_ret
 exact ⟨rfl, hb1⟩
end Go.Proofs.YtgfbflnhjpbceaaGreatDoor.Ident
