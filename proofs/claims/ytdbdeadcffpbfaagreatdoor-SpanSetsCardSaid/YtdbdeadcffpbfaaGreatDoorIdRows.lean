/-
  How two rows of texts stand (ident.Rows, by its generic function), for any rows. Conditions: the slices read as the lists xs and ys; the texts' lengths are those that the form allows.
-/
import Derived.Test.YtdbdeadcffpbfaaGreatDoorIdCmp
import Derived.StillTailTactics
namespace Go.Proofs.YtdbdeadcffpbfaaGreatDoor.Ident
open Go.RowKit Num

theorem drop_texts (xs : List (List UInt8)) (k : Nat) (h : k < xs.length) : xs.drop k = xs.getD k [] :: xs.drop (k + 1) := by
  rw [List.drop_eq_getElem_cons h]; simp [List.getD, List.getElem?_eq_getElem h]
theorem getD_mem (xs : List (List UInt8)) (k : Nat) (h : k < xs.length) : xs.getD k [] ∈ xs := by
  simp [List.getD, List.getElem?_eq_getElem h]
theorem ordN_zero {a b : Nat} (h : a ≤ b) : ordN 0 (b - a) = ordN a b := by
  rcases Nat.lt_or_ge a b with h1 | h1
  · rw [ordN_lt h1, ordN_lt (by omega)]
  · rw [ordN_eq (by omega), ordN_eq (by omega)]
theorem ordN_zero' {a b : Nat} (h : b ≤ a) : ordN (a - b) 0 = ordN a b := by
  rcases Nat.lt_or_ge b a with h1 | h1
  · rw [ordN_gt h1, ordN_gt (by omega)]
  · rw [ordN_eq (by omega), ordN_eq (by omega)]
theorem rows_end {xs ys : List (List UInt8)} {k : Nat} (h1 : k ≤ xs.length) (h2 : k ≤ ys.length) (h : k = xs.length ∨ k = ys.length) : cmpRows (xs.drop k) (ys.drop k) = ordN xs.length ys.length := by
  rcases h with h | h
  · subst h
    rw [List.drop_eq_nil_of_le (Nat.le_refl _), cmpRows_nil, List.length_drop]; exact ordN_zero h2
  · subst h
    rw [List.drop_eq_nil_of_le (Nat.le_refl ys.length), cmpRows_nil', List.length_drop]; exact ordN_zero' h1

def RowsJ (w : World) (A : Option Addr) (a ca : Nat) (B : Option Addr) (b cb : Nat) (g : Value) (xs ys : List (List UInt8)) (a' : Act) (w' : World) : Prop :=
  ∃ (k : Nat) (u8 u9 u10 u11 u12 u13 u14 u15 u16 u17 u18 u19 u20 u21 u22 u23 u24 u25 u26 u27 u28 u29 u30 u31 u32 u33 u34 u35 u36 u37 u38 : Value), BelowD w.heap.size w w' ∧ k ≤ a ∧ k ≤ b ∧ cmpRows (xs.drop k) (ys.drop k) = cmpRows xs ys ∧
    a' = { tmps := #[.slice A a ca, .slice B b cb, g, undef, undef, undef, .int .i64 0, .int .i64 k, u8, u9, u10, u11, u12, u13, u14, u15, u16, u17, u18, u19, u20, u21, u22, u23, u24, u25, u26, u27, u28, u29, u30, u31, u32, u33, u34, u35, u36, u37, u38], defers := [] }
def RowsM (n : Nat) (a' : Act) (_ : World) : Nat := n - (intOf (a'.tmps.getD 7 undef)).toNat

set_option maxRecDepth 100000 in
set_option maxHeartbeats 1600000 in
theorem rowsG_anyD (A : Option Addr) (a ca : Nat) (xs : List (List UInt8)) (B : Option Addr) (b cb : Nat) (ys : List (List UInt8)) (w : World) (hA : SRow w A a xs) (hB : SRow w B b ys)
    (ha : a ≤ maxLen) (hb : b ≤ maxLen) (hx : ∀ x ∈ xs, x.length ≤ maxLen) (hy : ∀ y ∈ ys, y.length ≤ maxLen) :
    Calls Tryz.prog 77 #[.slice A a ca, .slice B b cb, .func (.func 78) #[] #[]] w fun e w' => e = .returned (.int .i64 (cmpRows xs ys)) ∧ BelowD w.heap.size w w' := by
  unfold maxLen at ha hb
  have HA := Lib.hid hA
  have HB := Lib.hid hB
  have HX := Lib.hid hx
  have HY := Lib.hid hy
  have HLA := Lib.hid hA.1
  have HLB := Lib.hid hB.1
  clear hA hB hx hy
  go_enter Tryz.func77, Tryz.ntmps77
  go_wp2
  refine wp_scope_back 0 (RowsJ w A a ca B b cb (.func (.func 78) #[] #[]) xs ys) (RowsM a) rfl ?_ ?_
  · rintro a' w1 ⟨k, u8, u9, u10, u11, u12, u13, u14, u15, u16, u17, u18, u19, u20, u21, u22, u23, u24, u25, u26, u27, u28, u29, u30, u31, u32, u33, u34, u35, u36, u37, u38, hb1, hk1, hk2, hgo, rfl⟩
    have HB1 := Lib.hid hb1
    have HG := Lib.hid hgo
    clear hb1 hgo
    have hz1 := HB1.out.size
    have HE : Hid (k = a ∨ k = b → cmpRows xs ys = ordN a b) := fun h => by
      rw [← HG.out, rows_end (by rw [HLA.out]; exact hk1) (by rw [HLB.out]; exact hk2) (by rw [HLA.out, HLB.out]; exact h), HLA.out, HLB.out]
    by_cases h1 : k = a
    · have HE2 := Lib.hid (HE.out (.inl h1))
      have hb1 : ((k : Int) == (a : Int)) = true := by simp [h1]
      clear h1 HE
      go_wp2_with fail
      refine (cmp_any _ _ _).mono ?_
      rintro e w' ⟨rfl, rfl⟩
      go_wp2
      simp only [Exit.jump]
      go_ret
      exact ⟨by rw [HE2.out]; rfl, HB1.out⟩
    by_cases h2 : k = b
    · have HE2 := Lib.hid (HE.out (.inr h2))
      have hb1 : ((k : Int) == (a : Int)) = false := by simp; omega
      have hb2 : ((k : Int) == (b : Int)) = true := by simp [h2]
      clear h1 h2 HE
      go_wp2_with fail
      refine (cmp_any _ _ _).mono ?_
      rintro e w' ⟨rfl, rfl⟩
      go_wp2
      simp only [Exit.jump]
      go_ret
      exact ⟨by rw [HE2.out]; rfl, HB1.out⟩
    have hb1 : ((k : Int) == (a : Int)) = false := by simp; omega
    have hb2 : ((k : Int) == (b : Int)) = false := by simp; omega
    have hka : k < a := by omega
    have hkb : k < b := by omega
    clear h1 h2 HE
    obtain ⟨g1, o1, rfl, hg1, hc1⟩ := (HA.out.kept HB1.out.toBelow).2 (by omega)
    obtain ⟨g2, o2, rfl, hg2, hc2⟩ := (HB.out.kept HB1.out.toBelow).2 (by omega)
    have hx1 := hc1 k hka
    have hx2 := hc2 k hkb
    clear hc1 hc2
    have HZ1 := Lib.hid (HX.out _ (getD_mem xs k (by rw [HLA.out]; exact hka)))
    have HZ2 := Lib.hid (HY.out _ (getD_mem ys k (by rw [HLB.out]; exact hkb)))
    have HD : Hid (cmpRows xs ys = if cmpId (xs.getD k []) (ys.getD k []) = 0 then cmpRows (xs.drop (k + 1)) (ys.drop (k + 1)) else cmpId (xs.getD k []) (ys.getD k [])) := by
      unfold Hid
      rw [← HG.out, drop_texts xs k (by rw [HLA.out]; exact hka), drop_texts ys k (by rw [HLB.out]; exact hkb), cmpRows]
    generalize xs.getD k [] = s at hx1 HZ1 HD
    generalize ys.getD k [] = t at hx2 HZ2 HD
    go_wp2
    go_still_tail 9, (by kernel_rfl)
    change wpList _ _ _ _ _ w1.drew
    have HW := Lib.hid HB1.out.drew
    generalize w1.drew = w2 at HW
    have hz2 := HW.out.size
    obtain ⟨c, hc⟩ : ∃ c, cmpId s t = c := ⟨_, rfl⟩
    rw [hc] at HD
    have HC := Lib.hid hc; clear hc
    go_wp2_with fail
    refine (idcmp_anyD (mk s) (mk t) _ (by rw [mk_size]; exact HZ1.out) (by rw [mk_size]; exact HZ2.out)).mono ?_
    rw [mk_list, mk_list, HC.out]
    rintro e w3 ⟨rfl, hb3⟩
    have HB3 := Lib.hid (HW.out.trans (hb3.mono hz2))
    clear hb3
    by_cases hc0 : c = 0
    · have HD2 : Hid (cmpRows (xs.drop (k + 1)) (ys.drop (k + 1)) = cmpRows xs ys) := by have := HD.out; rw [if_pos hc0] at this; exact this.symm
      subst hc0
      clear HD
      go_wp2
      go_step3
      rw [show ((k : Int) + 1) = ((k + 1 : Nat) : Int) from rfl]
      refine ⟨rfl, ⟨k + 1, _, _, _, _, _, _, _, _, _, _, _, _, _, _, _, _, _, _, _, _, _, _, _, _, _, _, _, _, _, _, _, HB3.out, by omega, by omega, HD2.out, rfl⟩, ?_⟩
      simp [RowsM, intOf]; omega
    · have HD2 : Hid (cmpRows xs ys = c) := by have := HD.out; rw [if_neg hc0] at this; exact this
      have hn : (c == 0) = false := by simp [hc0]
      have hn2 : (c != 0) = true := by simp [hc0]
      clear HD hc0
      go_wp2
      simp only [Exit.jump]
      go_ret
      exact ⟨by rw [HD2.out]; rfl, HB3.out⟩
  · intro HP
    go_wp2
    go_step3
    rename_i hK
    exact hK _ _ (HP.out _ _ ⟨0, _, _, _, _, _, _, _, _, _, _, _, _, _, _, _, _, _, _, _, _, _, _, _, _, _, _, _, _, _, _, _, BelowD.refl _ _, by omega, by omega, rfl, rfl⟩)
theorem rowsG_any (A : Option Addr) (a ca : Nat) (xs : List (List UInt8)) (B : Option Addr) (b cb : Nat) (ys : List (List UInt8)) (w : World) (hA : SRow w A a xs) (hB : SRow w B b ys)
    (ha : a ≤ maxLen) (hb : b ≤ maxLen) (hx : ∀ x ∈ xs, x.length ≤ maxLen) (hy : ∀ y ∈ ys, y.length ≤ maxLen) :
    Calls Tryz.prog 77 #[.slice A a ca, .slice B b cb, .func (.func 78) #[] #[]] w fun e w' => e = .returned (.int .i64 (cmpRows xs ys)) ∧ Below w.heap.size w w' := dropD (rowsG_anyD A a ca xs B b cb ys w hA hB ha hb hx hy)
set_option maxRecDepth 100000 in
set_option maxHeartbeats 1600000 in
theorem rows_anyD (A : Option Addr) (a ca : Nat) (xs : List (List UInt8)) (B : Option Addr) (b cb : Nat) (ys : List (List UInt8)) (w : World) (hA : SRow w A a xs) (hB : SRow w B b ys)
    (ha : a ≤ maxLen) (hb : b ≤ maxLen) (hx : ∀ x ∈ xs, x.length ≤ maxLen) (hy : ∀ y ∈ ys, y.length ≤ maxLen) :
    Calls Tryz.prog 60 #[.slice A a ca, .slice B b cb] w fun e w' => e = .returned (.int .i64 (cmpRows xs ys)) ∧ BelowD w.heap.size w w' := by
  have HA := Lib.hid hA
  have HB := Lib.hid hB
  have HX := Lib.hid hx
  have HY := Lib.hid hy
  have HM := Lib.hid ha
  have HN := Lib.hid hb
  clear hA hB hx hy ha hb
  go_enter Tryz.func60, Tryz.ntmps60
  go_wp2_with fail
  refine (rowsG_anyD A a ca xs B b cb ys _ HA.out HB.out HM.out HN.out HX.out HY.out).mono ?_
  rintro e w1 ⟨rfl, hb1⟩
  go_wp2
  go_ret
  exact ⟨rfl, hb1⟩
theorem rows_any (A : Option Addr) (a ca : Nat) (xs : List (List UInt8)) (B : Option Addr) (b cb : Nat) (ys : List (List UInt8)) (w : World) (hA : SRow w A a xs) (hB : SRow w B b ys)
    (ha : a ≤ maxLen) (hb : b ≤ maxLen) (hx : ∀ x ∈ xs, x.length ≤ maxLen) (hy : ∀ y ∈ ys, y.length ≤ maxLen) :
    Calls Tryz.prog 60 #[.slice A a ca, .slice B b cb] w fun e w' => e = .returned (.int .i64 (cmpRows xs ys)) ∧ Below w.heap.size w w' := dropD (rows_anyD A a ca xs B b cb ys w hA hB ha hb hx hy)
end Go.Proofs.YtdbdeadcffpbfaaGreatDoor.Ident
