/-
  What package name is asked to answer, as one bundle (Says), and the law's own small function awake over it. Conditions: as each states.
-/
import Derived.Test.YtpgfolfhfhfdhaaNaTab
import Derived.Test.YtpgfolfhfhfdhaaNaRef
import Derived.Test.YtpgfolfhfhfdhaaNaRefOrder
namespace Go.Proofs.Ytpgfolfhfhfdhaa.Name
open Go.RowKit Num Ident Fr Ints

def nameAt (x : List (List UInt8)) (i : Int) : List UInt8 := if 0 ≤ i ∧ i < x.length then x.getD i.toNat [] else []
structure Says : Prop where
  good : ∀ (s : ByteArray) (w : World), s.size ≤ maxLen → Calls Try.prog 10 #[.string s] w fun e w' => e = .returned (.bool (isName s.data.toList)) ∧ Below w.heap.size w w'
  scan : ∀ (A : Option Addr) (n c : Nat) (l : List UInt8) (p : Int) (w : World), Row w A n l → n ≤ c → Calls Try.prog 8 #[.slice A n c, .int .i64 p] w fun e w' => e = .returned (scanOut l p) ∧ Below w.heap.size w w'
  add : ∀ (tb : Nat) (T : Nat → Prop) (x : List (List UInt8)) (s : ByteArray) (w : World), TabAt w tb T x → s.size ≤ maxLen → Calls Try.prog 12 #[.pointer (some ⟨tb, 0, none⟩), .string s] w (AddPost w tb T x s.data.toList)
  find : ∀ (tb : Nat) (T : Nat → Prop) (x : List (List UInt8)) (s : ByteArray) (w : World), TabAt w tb T x → s.size ≤ maxLen → Calls Try.prog 16 #[.pointer (some ⟨tb, 0, none⟩), .string s] w fun e w' => e = .returned (.tuple #[.int .i64 (if s.data.toList ∈ x then ((find x s.data.toList : Nat) : Int) else 0), .bool (decide (s.data.toList ∈ x))]) ∧ Below w.heap.size w w'
  name : ∀ (tb : Nat) (T : Nat → Prop) (x : List (List UInt8)) (i : Int) (w : World), TabAt w tb T x → -9223372036854775808 ≤ i → i ≤ 9223372036854775807 → Calls Try.prog 15 #[.pointer (some ⟨tb, 0, none⟩), .int .i64 i] w fun e w' => e = .returned (.string (mk (nameAt x i))) ∧ Below w.heap.size w w'
  len : ∀ (tb : Nat) (T : Nat → Prop) (x : List (List UInt8)) (w : World), TabAt w tb T x → Calls Try.prog 14 #[.pointer (some ⟨tb, 0, none⟩)] w fun e w' => e = .returned (.int .i64 (x.length : Int)) ∧ Below w.heap.size w w'
  order : ∀ (tb : Nat) (T : Nat → Prop) (x : List (List UInt8)) (w : World), TabAt w tb T x → Calls Try.prog 17 #[.pointer (some ⟨tb, 0, none⟩)] w (OrdPost w x)
/-- One more name, in a law: the table's blocks stay above B. -/
theorem AddPost.next {W W' : World} {tb B : Nat} {T : Nat → Prop} {x : List (List UInt8)} {s : List UInt8} {e : Ending} {w : World} (h : AddPost W tb T x s e W') (hb : Below B w W) (hT : ∀ b, T b → B ≤ b) (hB : B ≤ W.heap.size) :
    e = .returned (.tuple #[.int .i64 (addN x s), .int .i64 (addE x s)]) ∧ ∃ T' : Nat → Prop, TabAt W' tb T' (addX x s) ∧ (∀ b, T' b → B ≤ b) ∧ Below B w W' := by
  obtain ⟨he, T', h1, h2, h3⟩ := h
  refine ⟨he, T', h1, fun b g => ?_, hb.trans (h3.below hT hB)⟩
  rcases h2 b g with g | g
  · exact hT b g
  · omega
theorem add1 : addX [] [98] = [[98]] ∧ addN [] [98] = 0 ∧ addE [] [98] = 0 := by decide
theorem add2 : addX [[98]] [97] = [[98], [97]] ∧ addN [[98]] [97] = 1 ∧ addE [[98]] [97] = 0 := by decide
theorem add3 : addX [[98], [97]] [98] = [[98], [97]] ∧ addN [[98], [97]] [98] = 0 ∧ addE [[98], [97]] [98] = 0 := by decide
theorem ord2 {o : List Nat} (h : Ordered [[98], [97]] o) : o = [1, 0] := h.one ⟨by decide, by decide⟩
set_option maxRecDepth 100000 in
set_option maxHeartbeats 1600000 in
theorem awake_of (S : Says) (w : World) : Calls Try.prog 7 #[] w fun e w' => e = .returned (.bool true) ∧ Below w.heap.size w w' := by
  have HS := Lib.hid S
  clear S
  go_enter Try.func7, Try.ntmps7
  go_upto_region 2 with (fail)
  have HB := Lib.hid ((Below.refl w.heap.size w).alloc (Nat.le_refl _) (.cells #[.map none, .slice none 0 0] 35))
  have HT := Lib.hid (TabAt.new w 35)
  have HL : Hid (∀ b, b = w.heap.size → w.heap.size ≤ b) := fun b e => by omega
  obtain ⟨tb, htb⟩ : ∃ tb, w.heap.size = tb := ⟨_, rfl⟩
  rw [htb] at HB HT HL ⊢
  generalize w.alloc (.cells #[.map none, .slice none 0 0] 35) = W0 at HB HT ⊢
  go_wp2_with fail
  refine (HS.out.add tb _ [] (mk [98]) _ HT.out (by decide)).mono ?_
  rw [mk_list]
  intro e w1 h
  obtain ⟨he, T1, h1, h2, h3⟩ := h.next HB.out HL.out (by rw [← htb]; exact HB.out.size)
  rw [add1.1] at h1
  rw [add1.2.1, add1.2.2] at he
  subst he
  replace HT := Lib.hid h1
  replace HL := Lib.hid h2
  replace HB := Lib.hid h3
  clear h h1 h2 h3
  go_wp2_with fail
  refine (HS.out.add tb _ [[98]] (mk [97]) _ HT.out (by decide)).mono ?_
  rw [mk_list]
  intro e w2 h
  obtain ⟨he, T2, h1, h2, h3⟩ := h.next HB.out HL.out (by rw [← htb]; exact HB.out.size)
  rw [add2.1] at h1
  rw [add2.2.1, add2.2.2] at he
  subst he
  replace HT := Lib.hid h1
  replace HL := Lib.hid h2
  replace HB := Lib.hid h3
  clear h h1 h2 h3
  go_wp2_with fail
  refine (HS.out.add tb _ [[98], [97]] (mk [98]) _ HT.out (by decide)).mono ?_
  rw [mk_list]
  intro e w3 h
  obtain ⟨he, T3, h1, h2, h3⟩ := h.next HB.out HL.out (by rw [← htb]; exact HB.out.size)
  rw [add3.1] at h1
  rw [add3.2.1, add3.2.2] at he
  subst he
  replace HT := Lib.hid h1
  replace HL := Lib.hid h2
  replace HB := Lib.hid h3
  clear h h1 h2 h3
  go_wp2_with fail
  refine (HS.out.order tb _ _ _ HT.out).mono ?_
  rintro e w4 ⟨A, c, o, rfl, hc, ho, hr, hb⟩
  obtain rfl := ord2 ho
  obtain ⟨b, q, rfl, hlt, hcell⟩ := hr.2.2 (by decide)
  have c0 := hcell 0 (by decide)
  replace HB := Lib.hid (HB.out.trans (hb.mono (by rw [← htb]; exact HB.out.size)))
  clear hcell hr ho hb hlt
  simp only [Nat.add_zero, List.map_cons, List.map_nil, List.getD_cons_zero, List.length_cons, List.length_nil] at c0 hc ⊢
  go_wp2
  go_ret
  exact ⟨rfl, by rw [htb]; exact HB.out⟩
end Go.Proofs.Ytpgfolfhfhfdhaa.Name
