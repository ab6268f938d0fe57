/-
  What the theorem of the last text needs of these: IdRows, PrCores, PrCmp. Conditions: as each theorem states.
-/
import Derived.Test.YtgfbflnhjpbceaaGreatDoorAgaB1
import Derived.Test.YtgfbflnhjpbceaaGreatDoorAgaB3
import Derived.Test.YtgfbflnhjpbceaaGreatDoorAgaB12
import Derived.Test.YtgfbflnhjpbceaaGreatDoorAgaB13
import Derived.StillTailTactics
import Derived.Deep.CutBlock
import Derived.Deep.DeepCutAuto
import Derived.Deep.RegionHeld3
set_option maxRecDepth 100000
set_option maxHeartbeats 25600000
namespace Go.Proofs.YtgfbflnhjpbceaaGreatDoor.Ident
open Go.RowKit Num

theorem drop_texts (xs : List (List UInt8)) (k : Nat) (h : k < xs.length) : xs.drop k = xs.getD k [] :: xs.drop (k + 1) := by
 rw [List.drop_eq_getElem_cons h]; simp [List.getD, List.getElem?_eq_getElem h]
theorem getD_mem (xs : List (List UInt8)) (k : Nat) (h : k < xs.length) : xs.getD k [] ∈ xs := by
 simp [List.getD, List.getElem?_eq_getElem h]
theorem ordN_zero {a b : Nat} (h : a ≤ b) : ordN 0 (b - a) = ordN a b := by
 rcases Nat.lt_or_ge a b with h1 | h1
 ·rw [ordN_lt h1, ordN_lt (by omega)]
 ·rw [ordN_eq (by omega), ordN_eq (by omega)]
theorem ordN_zero' {a b : Nat} (h : b ≤ a) : ordN (a - b) 0 = ordN a b := by
 rcases Nat.lt_or_ge b a with h1 | h1
 ·rw [ordN_gt h1, ordN_gt (by omega)]
 ·rw [ordN_eq (by omega), ordN_eq (by omega)]
theorem rows_end {xs ys : List (List UInt8)} {k : Nat} (h1 : k ≤ xs.length) (h2 : k ≤ ys.length) (h : k = xs.length ∨ k = ys.length) : cmpRows (xs.drop k) (ys.drop k) = ordN xs.length ys.length := by
 rcases h with h | h
 ·subst h
  rw [List.drop_eq_nil_of_le (Nat.le_refl _), cmpRows_nil, List.length_drop]; exact ordN_zero h2
 ·subst h
  rw [List.drop_eq_nil_of_le (Nat.le_refl ys.length), cmpRows_nil', List.length_drop]; exact ordN_zero' h1

def RowsJ (w : World) (A : Option Addr) (a ca : Nat) (B : Option Addr) (b cb : Nat) (g : Value) (xs ys : List (List UInt8)) (a' : Act) (w' : World) : Prop :=
 ∃ (k : Nat) (u8 u9 u10 u11 u12 u13 u14 u15 u16 u17 u18 u19 u20 u21 u22 u23 u24 u25 u26 u27 u28 u29 u30 u31 u32 u33 u34 u35 u36 u37 u38 : Value), BelowD w.heap.size w w' ∧ k ≤ a ∧ k ≤ b ∧ cmpRows (xs.drop k) (ys.drop k) = cmpRows xs ys ∧
  a' = { tmps := #[.slice A a ca, .slice B b cb, g, undef, undef, undef, .int .i64 0, .int .i64 k, u8, u9, u10, u11, u12, u13, u14, u15, u16, u17, u18, u19, u20, u21, u22, u23, u24, u25, u26, u27, u28, u29, u30, u31, u32, u33, u34, u35, u36, u37, u38], defers := [] }
def RowsM (n : Nat) (a' : Act) (_ : World) : Nat := n - (intOf (a'.tmps.getD 7 undef)).toNat

theorem rowsG_anyD (A : Option Addr) (a ca : Nat) (xs : List (List UInt8)) (B : Option Addr) (b cb : Nat) (ys : List (List UInt8)) (w : World) (hA : SRow w A a xs) (hB : SRow w B b ys)
  (ha : a ≤ maxLen) (hb : b ≤ maxLen) (hx : ∀ x ∈ xs, x.length ≤ maxLen) (hy : ∀ y ∈ ys, y.length ≤ maxLen) :
  Calls Tryz.prog 166 #[.slice A a ca, .slice B b cb, .func (.func 167) #[] #[]] w fun e w' => e = .returned (.int .i64 (cmpRows xs ys)) ∧ BelowD w.heap.size w w' := by
 unfold maxLen at ha hb
 have HA := Lib.hid hA
 have HB := Lib.hid hB
 have HX := Lib.hid hx
 have HY := Lib.hid hy
 have HLA := Lib.hid hA.1
 have HLB := Lib.hid hB.1
 clear hA hB hx hy
 go_enter Tryz.func166, Tryz.ntmps166
 go_wp2
 refine wp_scope_back 0 (RowsJ w A a ca B b cb (.func (.func 167) #[] #[]) xs ys) (RowsM a) rfl ?_ ?_
 ·rintro a' w1 ⟨k, u8, u9, u10, u11, u12, u13, u14, u15, u16, u17, u18, u19, u20, u21, u22, u23, u24, u25, u26, u27, u28, u29, u30, u31, u32, u33, u34, u35, u36, u37, u38, hb1, hk1, hk2, hgo, rfl⟩
  have HB1 := Lib.hid hb1
  have HG := Lib.hid hgo
  clear hb1 hgo
  have hz1 := HB1.out.size
  have HE : Hid (k = a ∨ k = b → cmpRows xs ys = ordN a b) := fun h => by
   rw [← HG.out, rows_end (by rw [HLA.out]; exact hk1) (by rw [HLB.out]; exact hk2) (by rw [HLA.out, HLB.out]; exact h), HLA.out, HLB.out]
  by_cases h1 : k = a
  ·have HE2 := Lib.hid (HE.out (.inl h1))
   have hb1 : ((k : Int) == (a : Int)) = true := by simp [h1]
   clear h1 HE
   go_wp2_with fail
   refine (cmp_any _ _ _).mono ?_
   rintro e w' ⟨rfl, rfl⟩
   go_wp2
   simp only [Exit.jump]
   go_ret
   exact ⟨by rw [HE2.out]; rfl, HB1.out⟩
  by_cases h2 : k = b
  ·have HE2 := Lib.hid (HE.out (.inr h2))
   have hb1 : ((k : Int) == (a : Int)) = false := by simp; omega
   have hb2 : ((k : Int) == (b : Int)) = true := by simp [h2]
   clear h1 h2 HE
   go_wp2_with fail
   refine (cmp_any _ _ _).mono ?_
   rintro e w' ⟨rfl, rfl⟩
   go_wp2
   simp only [Exit.jump]
   go_ret
   exact ⟨by rw [HE2.out]; rfl, HB1.out⟩
  have hb1 : ((k : Int) == (a : Int)) = false := by simp; omega
  have hb2 : ((k : Int) == (b : Int)) = false := by simp; omega
  have hka : k < a := by omega
  have hkb : k < b := by omega
  clear h1 h2 HE
  obtain ⟨g1, o1, rfl, hg1, hc1⟩ := (HA.out.kept HB1.out.toBelow).2 (by omega)
  obtain ⟨g2, o2, rfl, hg2, hc2⟩ := (HB.out.kept HB1.out.toBelow).2 (by omega)
  have hx1 := hc1 k hka
  have hx2 := hc2 k hkb
  clear hc1 hc2
  have HZ1 := Lib.hid (HX.out _ (getD_mem xs k (by rw [HLA.out]; exact hka)))
  have HZ2 := Lib.hid (HY.out _ (getD_mem ys k (by rw [HLB.out]; exact hkb)))
  have HD : Hid (cmpRows xs ys = if cmpId (xs.getD k []) (ys.getD k []) = 0 then cmpRows (xs.drop (k + 1)) (ys.drop (k + 1)) else cmpId (xs.getD k []) (ys.getD k [])) := by
   unfold Hid
   rw [← HG.out, drop_texts xs k (by rw [HLA.out]; exact hka), drop_texts ys k (by rw [HLB.out]; exact hkb), cmpRows]
  generalize xs.getD k [] = s at hx1 HZ1 HD
  generalize ys.getD k [] = t at hx2 HZ2 HD
  go_wp2
  go_still_tail 9, (by kernel_rfl)
  change wpList _ _ _ _ _ w1.drew
  have HW := Lib.hid HB1.out.drew
  generalize w1.drew = w2 at HW
  have hz2 := HW.out.size
  obtain ⟨c, hc⟩ : ∃ c, cmpId s t = c := ⟨_, rfl⟩
  rw [hc] at HD
  have HC := Lib.hid hc; clear hc
  go_wp2_with fail
  refine (idcmp_anyD (mk s) (mk t) _ (by rw [mk_size]; exact HZ1.out) (by rw [mk_size]; exact HZ2.out)).mono ?_
  rw [mk_list, mk_list, HC.out]
  rintro e w3 ⟨rfl, hb3⟩
  have HB3 := Lib.hid (HW.out.trans (hb3.mono hz2))
  clear hb3
  by_cases hc0 : c = 0
  ·have HD2 : Hid (cmpRows (xs.drop (k + 1)) (ys.drop (k + 1)) = cmpRows xs ys) := by have := HD.out; rw [if_pos hc0] at this; exact this.symm
   subst hc0
   clear HD
   go_wp2
   go_step3
   rw [show ((k : Int) + 1) = ((k + 1 : Nat) : Int) from rfl]
   refine ⟨rfl, ⟨k + 1, _, _, _, _, _, _, _, _, _, _, _, _, _, _, _, _, _, _, _, _, _, _, _, _, _, _, _, _, _, _, _, HB3.out, by omega, by omega, HD2.out, rfl⟩, ?_⟩
   simp [RowsM, intOf]; omega
  ·have HD2 : Hid (cmpRows xs ys = c) := by have := HD.out; rw [if_neg hc0] at this; exact this
   have hn : (c == 0) = false := by simp [hc0]
   have hn2 : (c != 0) = true := by simp [hc0]
   clear HD hc0
   go_wp2
   simp only [Exit.jump]
   go_ret
   exact ⟨by rw [HD2.out]; rfl, HB3.out⟩
 ·intro HP
  go_wp2
  go_step3
  rename_i hK
  exact hK _ _ (HP.out _ _ ⟨0, _, _, _, _, _, _, _, _, _, _, _, _, _, _, _, _, _, _, _, _, _, _, _, _, _, _, _, _, _, _, _, BelowD.refl _ _, by omega, by omega, rfl, rfl⟩)
theorem rows_anyD (A : Option Addr) (a ca : Nat) (xs : List (List UInt8)) (B : Option Addr) (b cb : Nat) (ys : List (List UInt8)) (w : World) (hA : SRow w A a xs) (hB : SRow w B b ys)
  (ha : a ≤ maxLen) (hb : b ≤ maxLen) (hx : ∀ x ∈ xs, x.length ≤ maxLen) (hy : ∀ y ∈ ys, y.length ≤ maxLen) :
  Calls Tryz.prog 151 #[.slice A a ca, .slice B b cb] w fun e w' => e = .returned (.int .i64 (cmpRows xs ys)) ∧ BelowD w.heap.size w w' := by
 have HA := Lib.hid hA
 have HB := Lib.hid hB
 have HX := Lib.hid hx
 have HY := Lib.hid hy
 have HM := Lib.hid ha
 have HN := Lib.hid hb
 clear hA hB hx hy ha hb
 go_enter Tryz.func151, Tryz.ntmps151
 go_wp2_with fail
 refine (rowsG_anyD A a ca xs B b cb ys _ HA.out HB.out HM.out HN.out HX.out HY.out).mono ?_
 rintro e w1 ⟨rfl, hb1⟩
 go_wp2
 go_ret
 exact ⟨rfl, hb1⟩
end Go.Proofs.YtgfbflnhjpbceaaGreatDoor.Ident
namespace Go.Proofs.YtgfbflnhjpbceaaGreatDoor.Prec
open Go.RowKit Num Ident Semver

theorem cmpU_any (x y : Nat) (w : World) :
  Calls Tryz.prog 150 #[.int .u64 x, .int .u64 y] w fun e w' => e = .returned (.int .i64 (ordN x y)) ∧ w = w' := by
 rcases Nat.lt_trichotomy x y with h | h | h
 ·have HF := Lib.hid (ordN_lt h)
  go_enter Tryz.func150, Tryz.ntmps150
  go_wp2
  go_ret
  exact ⟨by rw [HF.out]; rfl, rfl⟩
 ·have HF := Lib.hid (ordN_eq h)
  subst h
  go_enter Tryz.func150, Tryz.ntmps150
  go_wp2
  go_ret
  exact ⟨by rw [HF.out]; rfl, rfl⟩
 ·have HF := Lib.hid (ordN_gt h)
  go_enter Tryz.func150, Tryz.ntmps150
  go_wp2
  go_ret
  exact ⟨by rw [HF.out]; rfl, rfl⟩

theorem coreOf_anyD (a b c : Int) (x y : Value) (w : World) :
  Calls Tryz.prog 123 #[.agg #[.int .u64 a, .int .u64 b, .int .u64 c, x, y]] w fun e w' => e = .returned (.agg #[.int .u64 a, .int .u64 b, .int .u64 c]) ∧ BelowD w.heap.size w w' := by
 go_enter Tryz.func123, Tryz.ntmps123
 go_wp2
 exact bodyPost_ret (v := .agg #[.int .u64 a, .int .u64 b, .int .u64 c]) (by simp [results, Tryz.results123, go_sem]) rfl ⟨rfl, ((BelowD.refl _ _).alloc (Nat.le_refl _) _).alloc (by simp) _⟩
theorem coreOf_any (a b c : Int) (x y : Value) (w : World) :
  Calls Tryz.prog 123 #[.agg #[.int .u64 a, .int .u64 b, .int .u64 c, x, y]] w fun e w' => e = .returned (.agg #[.int .u64 a, .int .u64 b, .int .u64 c]) ∧ Below w.heap.size w w' := dropD (coreOf_anyD a b c x y w)

def CoresAt (u v : Ver) (i : Nat) : Prop := i = 0 ∨ (i = 1 ∧ u.a = v.a) ∨ (i = 2 ∧ u.a = v.a ∧ u.b = v.b)
def CoresJ (w : World) (u v : Ver) (a' : Act) (w' : World) : Prop :=
 ∃ (i : Nat) (u6 u7 u8 u9 u10 u11 u12 u13 u14 u15 u16 u17 u18 u19 u20 u21 u22 u23 u24 : Value), BelowD w.heap.size w w' ∧ At3 w' w.heap.size (.int .u64 (u.a : Int)) (.int .u64 (u.b : Int)) (.int .u64 (u.c : Int)) ∧ At3 w' (w.heap.size + 1) (.int .u64 (v.a : Int)) (.int .u64 (v.b : Int)) (.int .u64 (v.c : Int)) ∧ CoresAt u v i ∧ ¬ (u.a = v.a ∧ u.b = v.b ∧ u.c = v.c) ∧
  a' = { tmps := #[.agg #[.int .u64 (u.a : Int), .int .u64 (u.b : Int), .int .u64 (u.c : Int)], .agg #[.int .u64 (v.a : Int), .int .u64 (v.b : Int), .int .u64 (v.c : Int)], .pointer (some ⟨w.heap.size, 0, none⟩), .pointer (some ⟨w.heap.size + 1, 0, none⟩), .int .i64 0, .int .i64 i, u6, u7, u8, u9, u10, u11, u12, u13, u14, u15, u16, u17, u18, u19, u20, u21, u22, u23, u24], defers := [] }
def CoresM (a' : Act) (_ : World) : Nat := 4 - (intOf (a'.tmps.getD 5 undef)).toNat
theorem beq_no {x y : Nat} (h : x ≠ y) : ((x : Int) == (y : Int)) = false := by simp; omega
theorem beq_yes {x y : Nat} (h : x = y) : ((x : Int) == (y : Int)) = true := by simp [h]

theorem cores_anyD (u v : Ver) (w : World) :
  Calls Tryz.prog 130 #[.agg #[.int .u64 (u.a : Int), .int .u64 (u.b : Int), .int .u64 (u.c : Int)], .agg #[.int .u64 (v.a : Int), .int .u64 (v.b : Int), .int .u64 (v.c : Int)]] w fun e w' => e = .returned (.int .i64 (cmpCore u v)) ∧ BelowD w.heap.size w w' := by
 have HBa : Hid (BelowD w.heap.size w ((w.alloc (.cells #[.int .u64 (u.a : Int), .int .u64 (u.b : Int), .int .u64 (u.c : Int)] 147)).alloc (.cells #[.int .u64 (v.a : Int), .int .u64 (v.b : Int), .int .u64 (v.c : Int)] 147))) := ((BelowD.refl _ _).alloc (Nat.le_refl _) _).alloc (by simp) _
 have K1 : Hid (At3 ((w.alloc (.cells #[.int .u64 (u.a : Int), .int .u64 (u.b : Int), .int .u64 (u.c : Int)] 147)).alloc (.cells #[.int .u64 (v.a : Int), .int .u64 (v.b : Int), .int .u64 (v.c : Int)] 147)) w.heap.size (.int .u64 (u.a : Int)) (.int .u64 (u.b : Int)) (.int .u64 (u.c : Int))) := (At3.new w 147 _ _ _).kept ((Below.refl _ _).alloc (Nat.le_refl _) _) (by simp)
 have K2 : Hid (At3 ((w.alloc (.cells #[.int .u64 (u.a : Int), .int .u64 (u.b : Int), .int .u64 (u.c : Int)] 147)).alloc (.cells #[.int .u64 (v.a : Int), .int .u64 (v.b : Int), .int .u64 (v.c : Int)] 147)) (w.heap.size + 1) (.int .u64 (v.a : Int)) (.int .u64 (v.b : Int)) (.int .u64 (v.c : Int))) := by
  have := At3.new (w.alloc (.cells #[.int .u64 (u.a : Int), .int .u64 (u.b : Int), .int .u64 (u.c : Int)] 147)) 147 (.int .u64 (v.a : Int)) (.int .u64 (v.b : Int)) (.int .u64 (v.c : Int))
  rw [size_alloc] at this; exact this
 go_enter Tryz.func130, Tryz.ntmps130
 go_wp2
 refine wp_scope_back 0 (CoresJ w u v) CoresM rfl ?_ ?_
 ·rintro a' w1 ⟨i, u6, u7, u8, u9, u10, u11, u12, u13, u14, u15, u16, u17, u18, u19, u20, u21, u22, u23, u24, hb1, k1, k2, hat, hne, rfl⟩
  have HB1 := Lib.hid hb1
  have L1 := Lib.hid k1
  have L2 := Lib.hid k2
  have hz1 := k2.1
  obtain ⟨_, _, x0, x1, x2⟩ := k1
  obtain ⟨_, _, y0, y1, y2⟩ := k2
  clear hb1
  rcases hat with rfl | ⟨rfl, h1⟩ | ⟨rfl, h1, h2⟩
  ·by_cases h : u.a = v.a
   ·have e1 := beq_yes h
    have HH := Lib.hid h
    have HN := Lib.hid hne
    clear h hne
    go_wp2
    go_still (by kernel_rfl)
    have HB2 := Lib.hid HB1.out.drew
    have M1 := Lib.hid (L1.out.kept (B := w1.heap.size) (Below.refl _ _).drew (by omega))
    have M2 := Lib.hid (L2.out.kept (B := w1.heap.size) (Below.refl _ _).drew (by omega))
    go_wp2
    go_step3
    refine ⟨rfl, ⟨1, _, _, _, _, _, _, _, _, _, _, _, _, _, _, _, _, _, _, _, HB2.out, M1.out, M2.out, .inr (.inl ⟨rfl, HH.out⟩), HN.out, rfl⟩, ?_⟩
    simp [CoresM, intOf]
   ·have e1 := beq_no h
    have HF : Hid (cmpCore u v = ordN u.a v.a) := cmpCore_1 h
    clear h hne
    go_wp2
    go_still (by kernel_rfl)
    have HB2 := Lib.hid HB1.out.drew
    have M1 := Lib.hid (L1.out.kept (B := w1.heap.size) (Below.refl _ _).drew (by omega))
    have M2 := Lib.hid (L2.out.kept (B := w1.heap.size) (Below.refl _ _).drew (by omega))
    clear x0 x1 x2 y0 y1 y2
    change Exit.then _ _ _ _ w1.drew
    generalize w1.drew = w2 at HB2 M1 M2 ⊢
    obtain ⟨_, _, x0, x1, x2⟩ := M1.out
    obtain ⟨_, _, y0, y1, y2⟩ := M2.out
    go_wp2
    go_still_tail 6, (by kernel_rfl)
    change wpList _ _ _ _ _ w2.drew
    have HB3 := Lib.hid HB2.out.drew
    generalize w2.drew = w3 at HB3 ⊢
    go_wp2_with fail
    refine (cmpU_any _ _ _).mono ?_
    rintro e w' ⟨rfl, rfl⟩
    go_wp2
    simp only [Exit.jump]
    go_ret
    exact ⟨by rw [HF.out]; rfl, HB3.out⟩
  ·have H1 := Lib.hid h1
   clear h1
   by_cases h : u.b = v.b
   ·have e1 := beq_yes h
    have HH := Lib.hid h
    have HN := Lib.hid hne
    clear h hne
    go_wp2
    go_still (by kernel_rfl)
    have HB2 := Lib.hid HB1.out.drew
    have M1 := Lib.hid (L1.out.kept (B := w1.heap.size) (Below.refl _ _).drew (by omega))
    have M2 := Lib.hid (L2.out.kept (B := w1.heap.size) (Below.refl _ _).drew (by omega))
    go_wp2
    go_step3
    refine ⟨rfl, ⟨2, _, _, _, _, _, _, _, _, _, _, _, _, _, _, _, _, _, _, _, HB2.out, M1.out, M2.out, .inr (.inr ⟨rfl, H1.out, HH.out⟩), HN.out, rfl⟩, ?_⟩
    simp [CoresM, intOf]
   ·have e1 := beq_no h
    have HF : Hid (cmpCore u v = ordN u.b v.b) := cmpCore_2 H1.out h
    clear h hne
    go_wp2
    go_still (by kernel_rfl)
    have HB2 := Lib.hid HB1.out.drew
    have M1 := Lib.hid (L1.out.kept (B := w1.heap.size) (Below.refl _ _).drew (by omega))
    have M2 := Lib.hid (L2.out.kept (B := w1.heap.size) (Below.refl _ _).drew (by omega))
    clear x0 x1 x2 y0 y1 y2
    change Exit.then _ _ _ _ w1.drew
    generalize w1.drew = w2 at HB2 M1 M2 ⊢
    obtain ⟨_, _, x0, x1, x2⟩ := M1.out
    obtain ⟨_, _, y0, y1, y2⟩ := M2.out
    go_wp2
    go_still_tail 6, (by kernel_rfl)
    change wpList _ _ _ _ _ w2.drew
    have HB3 := Lib.hid HB2.out.drew
    generalize w2.drew = w3 at HB3 ⊢
    go_wp2_with fail
    refine (cmpU_any _ _ _).mono ?_
    rintro e w' ⟨rfl, rfl⟩
    go_wp2
    simp only [Exit.jump]
    go_ret
    exact ⟨by rw [HF.out]; rfl, HB3.out⟩
  ·have H1 := Lib.hid h1
   have H2 := Lib.hid h2
   clear h1 h2
   by_cases h : u.c = v.c
   ·exact absurd ⟨H1.out, H2.out, h⟩ hne
   ·have e1 := beq_no h
    have HF : Hid (cmpCore u v = ordN u.c v.c) := cmpCore_3 H1.out H2.out
    clear h hne
    go_wp2
    go_still (by kernel_rfl)
    have HB2 := Lib.hid HB1.out.drew
    have M1 := Lib.hid (L1.out.kept (B := w1.heap.size) (Below.refl _ _).drew (by omega))
    have M2 := Lib.hid (L2.out.kept (B := w1.heap.size) (Below.refl _ _).drew (by omega))
    clear x0 x1 x2 y0 y1 y2
    change Exit.then _ _ _ _ w1.drew
    generalize w1.drew = w2 at HB2 M1 M2 ⊢
    obtain ⟨_, _, x0, x1, x2⟩ := M1.out
    obtain ⟨_, _, y0, y1, y2⟩ := M2.out
    go_wp2
    go_still_tail 6, (by kernel_rfl)
    change wpList _ _ _ _ _ w2.drew
    have HB3 := Lib.hid HB2.out.drew
    generalize w2.drew = w3 at HB3 ⊢
    go_wp2_with fail
    refine (cmpU_any _ _ _).mono ?_
    rintro e w' ⟨rfl, rfl⟩
    go_wp2
    simp only [Exit.jump]
    go_ret
    exact ⟨by rw [HF.out]; rfl, HB3.out⟩
 ·intro HP
  by_cases hn : u.a = v.a ∧ u.b = v.b ∧ u.c = v.c
  ·have HF : Hid (cmpCore u v = 0) := by
    unfold Hid
    rw [cmpCore_3 hn.1 hn.2.1]; exact ordN_eq hn.2.2
   have kq := fun W => run_eq3 u.a u.b u.c v.a v.b v.c W
   rw [beq_yes hn.1, beq_yes hn.2.1, beq_yes hn.2.2] at kq
   clear hn
   go_wp2
   simp only [Exit.jump]
   go_ret
   exact ⟨by rw [HF.out]; rfl, HBa.out⟩
  ·have HN := Lib.hid hn
   have hq : (((u.a : Int) == (v.a : Int)) && (((u.b : Int) == (v.b : Int)) && ((u.c : Int) == (v.c : Int)))) = false := by
    rw [← Bool.not_eq_true]; simp only [Bool.and_eq_true, beq_iff_eq]; omega
   have kq := fun W => run_eq3 u.a u.b u.c v.a v.b v.c W
   rw [hq] at kq
   clear hn hq
   go_wp2
   go_step3
   rename_i hK
   exact hK _ _ (HP.out _ _ ⟨0, _, _, _, _, _, _, _, _, _, _, _, _, _, _, _, _, _, _, _, HBa.out, K1.out, K2.out, .inl rfl, HN.out, rfl⟩)
end Go.Proofs.YtgfbflnhjpbceaaGreatDoor.Prec
namespace Go.Proofs.YtgfbflnhjpbceaaGreatDoor.Prec
open Go.RowKit Num Ident Semver

def Fit (xs : List (List UInt8)) : Prop := xs.length ≤ maxLen ∧ ∀ x ∈ xs, x.length ≤ maxLen
theorem Fit.nil : Fit [] := ⟨by unfold maxLen; simp, fun x hx => by simp at hx⟩
theorem Fit.zero : Fit [[48]] := ⟨by unfold maxLen; simp, fun x hx => by simp at hx; subst hx; unfold maxLen; simp⟩
theorem releases_anyD (A : Option Addr) (ca : Nat) (xs : List (List UInt8)) (B : Option Addr) (cb : Nat) (ys : List (List UInt8)) (w : World) (hA : SRow w A xs.length xs) (hB : SRow w B ys.length ys) (fx : Fit xs) (fy : Fit ys) :
  Calls Tryz.prog 131 #[.slice A xs.length ca, .slice B ys.length cb] w fun e w' => e = .returned (.int .i64 (cmpPre xs ys)) ∧ BelowD w.heap.size w w' := by
 have HA := Lib.hid hA
 have HB := Lib.hid hB
 have FX := Lib.hid fx
 have FY := Lib.hid fy
 have hx := fx.1
 have hy := fy.1
 unfold maxLen at hx hy
 clear hA hB fx fy
 by_cases h1 : xs.length = 0
 ·by_cases h2 : ys.length = 0
  ·have HF := Lib.hid (cmpPre_rows (x := xs) (y := ys) ⟨fun _ => h2, fun _ => h1⟩)
   have K : Hid (∀ W, W = w → Calls Tryz.prog 151 #[.slice A xs.length ca, .slice B ys.length cb] W fun e w' => e = .returned (.int .i64 (cmpPre xs ys)) ∧ BelowD w.heap.size w w') := by
    rintro W rfl; rw [HF.out]; exact rows_anyD A _ ca xs B _ cb ys W HA.out HB.out FX.out.1 FY.out.1 FX.out.2 FY.out.2
   rw [h1, h2] at K
   clear HF
   go_enter Tryz.func131, Tryz.ntmps131
   go_wp2_with fail
   refine (K.out _ rfl).mono ?_
   rintro e w1 ⟨rfl, hb1⟩
   go_wp2
   go_ret
   exact ⟨rfl, hb1⟩
  ·have HF := Lib.hid (cmpPre_one h1 h2)
   have h3 : 0 < ys.length := by omega
   go_enter Tryz.func131, Tryz.ntmps131
   go_wp2
   go_ret
   exact ⟨by rw [HF.out]; rfl, BelowD.refl _ _⟩
 ·have h3 : 0 < xs.length := by omega
  by_cases h2 : ys.length = 0
  ·have HF := Lib.hid (cmpPre_two h1 h2)
   go_enter Tryz.func131, Tryz.ntmps131
   go_wp2
   go_ret
   exact ⟨by rw [HF.out]; rfl, BelowD.refl _ _⟩
  ·have h4 : 0 < ys.length := by omega
   have HF := Lib.hid (cmpPre_rows (x := xs) (y := ys) ⟨fun h => absurd h h1, fun h => absurd h h2⟩)
   have K : Hid (∀ W, W = w → Calls Tryz.prog 151 #[.slice A xs.length ca, .slice B ys.length cb] W fun e w' => e = .returned (.int .i64 (cmpPre xs ys)) ∧ BelowD w.heap.size w w') := by
    rintro W rfl; rw [HF.out]; exact rows_anyD A _ ca xs B _ cb ys W HA.out HB.out FX.out.1 FY.out.1 FX.out.2 FY.out.2
   clear HF
   go_enter Tryz.func131, Tryz.ntmps131
   go_wp2_with fail
   refine (K.out _ rfl).mono ?_
   rintro e w1 ⟨rfl, hb1⟩
   go_wp2
   go_ret
   exact ⟨rfl, hb1⟩
theorem compare_anyD (u v : Ver) (A1 A2 B1 B2 : Option Addr) (c1 c2 d1 d2 : Nat) (w : World) (r1 : SRow w A1 u.pre.length u.pre) (q1 : SRow w B1 v.pre.length v.pre) (f1 : Fit u.pre) (g1 : Fit v.pre) :
  Calls Tryz.prog 110 #[.agg #[.int .u64 (u.a : Int), .int .u64 (u.b : Int), .int .u64 (u.c : Int), .slice A1 u.pre.length c1, .slice A2 u.build.length c2], .agg #[.int .u64 (v.a : Int), .int .u64 (v.b : Int), .int .u64 (v.c : Int), .slice B1 v.pre.length d1, .slice B2 v.build.length d2]] w fun e w' => e = .returned (.int .i64 (cmpV u v)) ∧ BelowD w.heap.size w w' := by
 have HB0 : Hid (BelowD w.heap.size w ((w.alloc (.cells #[.int .u64 (u.a : Int), .int .u64 (u.b : Int), .int .u64 (u.c : Int), .slice A1 u.pre.length c1, .slice A2 u.build.length c2] 25)).alloc (.cells #[.int .u64 (v.a : Int), .int .u64 (v.b : Int), .int .u64 (v.c : Int), .slice B1 v.pre.length d1, .slice B2 v.build.length d2] 25))) := ((BelowD.refl _ _).alloc (Nat.le_refl _) _).alloc (by simp) _
 have K1 : Hid (At5 ((w.alloc (.cells #[.int .u64 (u.a : Int), .int .u64 (u.b : Int), .int .u64 (u.c : Int), .slice A1 u.pre.length c1, .slice A2 u.build.length c2] 25)).alloc (.cells #[.int .u64 (v.a : Int), .int .u64 (v.b : Int), .int .u64 (v.c : Int), .slice B1 v.pre.length d1, .slice B2 v.build.length d2] 25)) w.heap.size (.int .u64 (u.a : Int)) (.int .u64 (u.b : Int)) (.int .u64 (u.c : Int)) (.slice A1 u.pre.length c1) (.slice A2 u.build.length c2)) := (At5.new w 25 _ _ _ _ _).kept ((Below.refl _ _).alloc (Nat.le_refl _) _) (by simp)
 have K2 : Hid (At5 ((w.alloc (.cells #[.int .u64 (u.a : Int), .int .u64 (u.b : Int), .int .u64 (u.c : Int), .slice A1 u.pre.length c1, .slice A2 u.build.length c2] 25)).alloc (.cells #[.int .u64 (v.a : Int), .int .u64 (v.b : Int), .int .u64 (v.c : Int), .slice B1 v.pre.length d1, .slice B2 v.build.length d2] 25)) (w.heap.size + 1) (.int .u64 (v.a : Int)) (.int .u64 (v.b : Int)) (.int .u64 (v.c : Int)) (.slice B1 v.pre.length d1) (.slice B2 v.build.length d2)) := by
  have := At5.new (w.alloc (.cells #[.int .u64 (u.a : Int), .int .u64 (u.b : Int), .int .u64 (u.c : Int), .slice A1 u.pre.length c1, .slice A2 u.build.length c2] 25)) 25 (.int .u64 (v.a : Int)) (.int .u64 (v.b : Int)) (.int .u64 (v.c : Int)) (.slice B1 v.pre.length d1) (.slice B2 v.build.length d2)
  rw [size_alloc] at this; exact this
 have R1 := Lib.hid r1
 have Q1 := Lib.hid q1
 have F1 := Lib.hid f1
 have G1 := Lib.hid g1
 clear r1 q1 f1 g1
 have HF : Hid (cmpV u v = if cmpCore u v = 0 then cmpPre u.pre v.pre else cmpCore u v) := rfl
 have HC : Hid (∀ W, Calls Tryz.prog 130 #[.agg #[.int .u64 (u.a : Int), .int .u64 (u.b : Int), .int .u64 (u.c : Int)], .agg #[.int .u64 (v.a : Int), .int .u64 (v.b : Int), .int .u64 (v.c : Int)]] W fun e w' => e = .returned (.int .i64 (cmpCore u v)) ∧ BelowD W.heap.size W w') := fun W => cores_anyD u v W
 generalize cmpCore u v = c at HF HC
 go_enter Tryz.func110, Tryz.ntmps110
 go_upto_region 1 with (fail)
 generalize ((w.alloc (.cells #[.int .u64 (u.a : Int), .int .u64 (u.b : Int), .int .u64 (u.c : Int), .slice A1 u.pre.length c1, .slice A2 u.build.length c2] 25)).alloc (.cells #[.int .u64 (v.a : Int), .int .u64 (v.b : Int), .int .u64 (v.c : Int), .slice B1 v.pre.length d1, .slice B2 v.build.length d2] 25)) = W at HB0 K1 K2 ⊢
 have hz := K2.out.1
 have hw := HB0.out.size
 have D0 := Lib.hid (BelowD.refl W.heap.size W).drew
 have D1 := Lib.hid (D0.out.mono (B' := w.heap.size) hw)
 refine wp_region_held_drew (S := fun w' => (w'.cell? ⟨w.heap.size, 0, none⟩ = some (.int .u64 (u.a : Int)) ∧ w'.cell? ⟨w.heap.size, 1, none⟩ = some (.int .u64 (u.b : Int)) ∧ w'.cell? ⟨w.heap.size, 2, none⟩ = some (.int .u64 (u.c : Int)) ∧ w'.cell? ⟨w.heap.size, 3, none⟩ = some (.slice A1 u.pre.length c1) ∧ w'.cell? ⟨w.heap.size, 4, none⟩ = some (.slice A2 u.build.length c2)) ∧ (w'.cell? ⟨(w.heap.size + 1), 0, none⟩ = some (.int .u64 (v.a : Int)) ∧ w'.cell? ⟨(w.heap.size + 1), 1, none⟩ = some (.int .u64 (v.b : Int)) ∧ w'.cell? ⟨(w.heap.size + 1), 2, none⟩ = some (.int .u64 (v.c : Int)) ∧ w'.cell? ⟨(w.heap.size + 1), 3, none⟩ = some (.slice B1 v.pre.length d1) ∧ w'.cell? ⟨(w.heap.size + 1), 4, none⟩ = some (.slice B2 v.build.length d2))) (by kernel_rfl) ⟨K1.out.2.2, K2.out.2.2⟩ (fun hHeld => ?_)
 refine tk 0 rfl (.agg #[.int .u64 (u.a : Int), .int .u64 (u.b : Int), .int .u64 (u.c : Int), .slice A1 u.pre.length c1, .slice A2 u.build.length c2]) ?_
 refine tk 2 rfl (.agg #[.int .u64 (v.a : Int), .int .u64 (v.b : Int), .int .u64 (v.c : Int), .slice B1 v.pre.length d1, .slice B2 v.build.length d2]) ?_
 refine cl 1 rfl fun K hK => ?_
 go_simp
 refine (coreOf_anyD _ _ _ _ _ _).mono ?_
 rintro e w2 ⟨rfl, hb2⟩
 have L1 := Lib.hid ((K1.out.kept D0.out.toBelow (by omega)).kept hb2.toBelow (by simp; omega))
 have L2 := Lib.hid ((K2.out.kept D0.out.toBelow (by omega)).kept hb2.toBelow (by simp; omega))
 have B2 := Lib.hid ((HB0.out.trans D1.out).trans (hb2.mono (by simp; omega)))
 have hz2 : W.heap.size ≤ w2.heap.size := by have := hb2.size; simpa using this
 clear hb2
 refine hK.out _ _ ⟨L1.out.2.2, L2.out.2.2⟩ (fun hHeld => ?_)
 clear hK K
 try simp only [Act.put, p1, p2, p3]
 refine cl 3 rfl fun K hK => ?_
 go_simp
 refine (coreOf_anyD _ _ _ _ _ _).mono ?_
 rintro e w3 ⟨rfl, hb3⟩
 have M1 := Lib.hid (L1.out.kept hb3.toBelow (by omega))
 have M2 := Lib.hid (L2.out.kept hb3.toBelow (by omega))
 have B3 := Lib.hid (B2.out.trans (hb3.mono (by omega)))
 have hz3 := hb3.size
 clear hb3
 refine hK.out _ _ ⟨M1.out.2.2, M2.out.2.2⟩ (fun hHeld => ?_)
 clear hK K
 try simp only [Act.put, p1, p2, p3]
 refine cl 4 rfl fun K hK => ?_
 go_simp
 refine (HC.out _).mono ?_
 rintro e w4 ⟨rfl, hb4⟩
 have N1 := Lib.hid (M1.out.kept hb4.toBelow (by omega))
 have N2 := Lib.hid (M2.out.kept hb4.toBelow (by omega))
 have B4 := Lib.hid (B3.out.trans (hb4.mono (by omega)))
 have hz4 := hb4.size
 clear hb4
 refine hK.out _ _ ⟨N1.out.2.2, N2.out.2.2⟩ (fun hHeld => ?_)
 clear hK K
 try simp only [Act.put, p1, p2, p3]
 refine tk 5 rfl (.int .i64 c) ?_
 refine wpAnyH_done (by kernel_rfl) ?_ _
 clear hHeld
 by_cases hc : c = 0
 ·have HF2 : Hid (cmpPre u.pre v.pre = cmpV u v) := by have := HF.out; rw [if_pos hc] at this; exact this.symm
  have KR : Hid (∀ W', W' = w4 → Calls Tryz.prog 131 #[.slice A1 u.pre.length c1, .slice B1 v.pre.length d1] W' fun e w' => e = .returned (.int .i64 (cmpV u v)) ∧ BelowD w4.heap.size w4 w') := by
   rintro W' rfl; rw [← HF2.out]; exact releases_anyD A1 c1 u.pre B1 d1 v.pre W' (R1.out.kept B4.out.toBelow) (Q1.out.kept B4.out.toBelow) F1.out G1.out
  subst hc
  obtain ⟨_, _, x0, x1, x2, x3, x4⟩ := N1.out
  obtain ⟨_, _, y0, y1, y2, y3, y4⟩ := N2.out
  clear HF HF2
  go_wp2_with fail
  refine (KR.out _ rfl).mono ?_
  rintro e w5 ⟨rfl, hb5⟩
  have B5 := Lib.hid (B4.out.trans (hb5.mono (by omega)))
  clear hb5
  go_wp2
  go_ret
  exact ⟨rfl, B5.out⟩
 ·have HF2 : Hid (cmpV u v = c) := by have := HF.out; rw [if_neg hc] at this; exact this
  have hn : (c == 0) = false := by simp [hc]
  have hn2 : (c != 0) = true := by simp [hc]
  clear HF hc
  go_wp2
  go_ret
  exact ⟨by rw [HF2.out]; rfl, B4.out⟩
theorem compare_any (u v : Ver) (A1 A2 B1 B2 : Option Addr) (c1 c2 d1 d2 : Nat) (w : World) (r1 : SRow w A1 u.pre.length u.pre) (q1 : SRow w B1 v.pre.length v.pre) (f1 : Fit u.pre) (g1 : Fit v.pre) :
  Calls Tryz.prog 110 #[.agg #[.int .u64 (u.a : Int), .int .u64 (u.b : Int), .int .u64 (u.c : Int), .slice A1 u.pre.length c1, .slice A2 u.build.length c2], .agg #[.int .u64 (v.a : Int), .int .u64 (v.b : Int), .int .u64 (v.c : Int), .slice B1 v.pre.length d1, .slice B2 v.build.length d2]] w fun e w' => e = .returned (.int .i64 (cmpV u v)) ∧ Below w.heap.size w w' := dropD (compare_anyD u v A1 A2 B1 B2 c1 c2 d1 d2 w r1 q1 f1 g1)
end Go.Proofs.YtgfbflnhjpbceaaGreatDoor.Prec
