/-
  What the theorem of the last text needs of these: SvText, SvGood, SvBack, RgBack. Conditions: as each theorem states.
-/
import Derived.Test.YtgfbflnhjpbceaaGreatDoorAgaB1
import Derived.Test.YtgfbflnhjpbceaaGreatDoorAgaB2
import Derived.Test.YtgfbflnhjpbceaaGreatDoorAgaB3
import Derived.Test.YtgfbflnhjpbceaaGreatDoorAgaB5
import Derived.Test.YtgfbflnhjpbceaaGreatDoorAgaB7
import Derived.Test.YtgfbflnhjpbceaaGreatDoorShelfBuild
set_option maxRecDepth 100000
set_option maxHeartbeats 25600000
namespace Go.Proofs.YtgfbflnhjpbceaaGreatDoor.Semver
open Go.RowKit Num Ident

def Bld (w : World) (B b : Nat) (l : List UInt8) : Prop := Lib.IsBuilderF 71 5 B b (Lib.byteCells l) w
theorem Bld.new (w : World) (B : Nat) (h : B ≤ w.heap.size) : Bld (w.alloc (.cells #[.pointer none, .slice none 0 0] 71)) B w.heap.size [] := by
 refine .inl ⟨h, .slice none 0 0, ?_, World.ownsRowF_nil _ _ _ _, by simp [Value.ownBlock]⟩
 show (w.heap.push _)[w.heap.size]? = _
 simp
theorem atF_kept {w w' : World} {B b : Nat} {p : Value} {bs : List Value} (h : Lib.BuilderAtF 71 5 B b p bs w) (hb : Below w.heap.size w w') : Lib.BuilderAtF 71 5 B b p bs w' := by
 obtain ⟨h1, v, h2, h3, h4⟩ := h
 have lt : ∀ k o, w.heap[k]? = some o → k < w.heap.size := fun k o hk => (Array.getElem?_eq_some_iff.1 hk).1
 refine ⟨h1, v, (hb.block b (lt b _ h2)).trans h2, ⟨h3.1, ?_⟩, h4⟩
 rcases h3.2 with h5 | ⟨g, cap, cur, fz, e1, e2, e3, e4⟩
 ·exact .inl h5
 ·exact .inr ⟨g, cap, cur, fz, e1, e2, (hb.block g (lt g _ e3)).trans e3, e4⟩
theorem Bld.kept {w w' : World} {B b : Nat} {l : List UInt8} (h : Bld w B b l) (hb : Below w.heap.size w w') : Bld w' B b l :=
 h.elim (fun x => .inl (atF_kept x hb)) (fun x => .inr (atF_kept x hb))
theorem others_below {w w' : World} {b : Option Nat} (hb : Below w.heap.size w w') : Lib.OthersKept 5 b w w' :=
 fun k _ hk _ _ => (hb.block k (Array.getElem?_eq_some_iff.1 hk).1).trans hk
theorem byteCells_length (l : List UInt8) : (Lib.byteCells l).length = l.length := by simp [Lib.byteCells]
theorem byteCells_append (l r : List UInt8) : Lib.byteCells (l ++ r) = Lib.byteCells l ++ Lib.byteCells r := by simp [Lib.byteCells]
def Wrote (w : World) (B b : Nat) (l : List UInt8) (w' : World) : Prop := Bld w' B b l ∧ Below B w w' ∧ Lib.OthersKept 5 (some b) w w'
theorem writeByte_any (B b : Nat) (l : List UInt8) (c : UInt8) (m : Int) (hm : m = (c.toNat : Int)) (w : World) (h : Bld w B b l) (hl : l.length ≤ 100000000) (hBw : B ≤ w.heap.size) :
  Calls Tryz.prog 118 #[.pointer (some ⟨b, 0, none⟩), .int .u8 m] w fun e w' => e = .returned .nilIface ∧ Wrote w B b (l ++ [c]) w' := by
 subst hm
 refine (Tryz.writeByte B b (Lib.byteCells l) (c.toNat : Int) w h (by rw [byteCells_length]; omega) hBw).mono ?_
 rintro e w' ⟨rfl, h1, h2, h3⟩
 exact ⟨rfl, .inr (by rw [byteCells_append]; exact h1), h2, h3⟩
theorem writeString_any (B b : Nat) (l t : List UInt8) (w : World) (h : Bld w B b l) (hl : l.length ≤ 100000000) (ht : t.length ≤ 100000000) (hBw : B ≤ w.heap.size) :
  Calls Tryz.prog 50 #[.pointer (some ⟨b, 0, none⟩), .string (mk t)] w fun e w' => e = .returned (.tuple #[.int .i64 (mk t).size, .nilIface]) ∧ Wrote w B b (l ++ t) w' := by
 refine (Tryz.writeString B b (Lib.byteCells l) (mk t) w h (by rw [byteCells_length, mk_size]; omega) hBw).mono ?_
 rintro e w' ⟨rfl, h1, h2, h3⟩
 exact ⟨rfl, .inr (by rw [byteCells_append]; exact h1), h2, h3⟩
theorem writeRow_any (B b : Nat) (l : List UInt8) (A : Option Addr) (n c : Nat) (xs : List (List UInt8)) (mb : UInt8) (m : Int) (hm : m = (mb.toNat : Int)) (w0 w : World) (h : Bld w B b l) (hl : l.length ≤ 100000) (hBw : B ≤ w.heap.size)
  (hr : SRow w0 A n xs) (hb0 : Below w0.heap.size w0 w) (hB0 : w0.heap.size ≤ B) (hc : n ≤ c) (hs : shortB xs = true) :
  Calls Tryz.prog 119 #[.pointer (some ⟨b, 0, none⟩), .slice A n c, .int .u8 m] w fun e w' => e = .returned (.tuple #[]) ∧ Wrote w B b (l ++ rowText mb xs) w' := by
 have hn := hr.1
 have hn40 : n ≤ 40 := by have := ((shortB_iff xs).1 hs).1; omega
 have HN := Lib.hid hn; clear hn
 by_cases h0 : n = 0
 ·have HF := Lib.hid (rowText_none (m := mb) (xs := xs) (by rw [HN.out]; exact h0))
  subst h0
  have H := Lib.hid h
  clear h hr hm
  go_enter Tryz.func119, Tryz.ntmps119
  go_wp2
  go_end0
  exact ⟨rfl, by rw [HF.out, List.append_nil]; exact ⟨H.out, Below.refl _ _, Lib.OthersKept.refl _ _ _⟩⟩
 ·have HF := Lib.hid (rowText_some (m := mb) (xs := xs) (by rw [HN.out]; exact h0))
  have HJ := Lib.hid (short_joined hs)
  have H := Lib.hid h
  have HR := Lib.hid hr
  have HB0 := Lib.hid hb0
  have HS := Lib.hid hs
  have HM := Lib.hid hm
  have hpos : 0 < n := by omega
  clear h hr hb0 hs h0 hm
  go_enter Tryz.func119, Tryz.ntmps119
  go_wp2_with fail
  refine (writeByte_any B b l mb m HM.out _ H.out (by omega) hBw).mono ?_
  rintro e w1 ⟨rfl, h1, hb1, hk1⟩
  have H1 := Lib.hid h1
  have HB1 := Lib.hid hb1
  have HK1 := Lib.hid hk1
  have HW1 := Lib.hid (HB0.out.trans (hb1.mono hB0))
  have hz1 := hb1.size
  clear h1 hb1 hk1
  go_wp2_with fail
  refine (Ident.text_any _ _ _ xs _ (HR.out.kept HW1.out) hc HS.out).mono ?_
  rintro e w2 ⟨rfl, hb2⟩
  have H2 := Lib.hid (H1.out.kept hb2)
  have HB2 := Lib.hid (HB1.out.trans (hb2.mono (by omega)))
  have HK2 := Lib.hid (HK1.out.trans (others_below (b := some b) hb2))
  have hz2 := hb2.size
  clear hb2
  go_wp2_with fail
  refine (writeString_any B b (l ++ [mb]) (joined xs) _ H2.out (by rw [List.length_append]; simp; omega) (by have := HJ.out; omega) (by omega)).mono ?_
  rintro e w3 ⟨rfl, h3, hb3, hk3⟩
  have H3 := Lib.hid h3
  have HB3 := Lib.hid (HB2.out.trans hb3)
  have HK3 := Lib.hid (HK2.out.trans hk3)
  clear h3 hb3 hk3
  go_wp2
  go_end0
  exact ⟨rfl, by rw [HF.out, ← List.append_assoc]; exact ⟨H3.out, HB3.out, HK3.out⟩⟩
def TextAt (w : World) (v : Ver) (i : Nat) (w' : World) : Prop :=
 (i = 0 ∧ Bld w' (w.heap.size + 1) (w.heap.size + 1) []) ∨ (i = 1 ∧ Bld w' (w.heap.size + 1) (w.heap.size + 1) ([] ++ Lib.decDigits v.a ++ [46])) ∨ (i = 2 ∧ Bld w' (w.heap.size + 1) (w.heap.size + 1) ([] ++ Lib.decDigits v.a ++ [46] ++ Lib.decDigits v.b ++ [46]))
def TextJ (w : World) (v : Ver) (A : Option Addr) (c : Nat) (B : Option Addr) (d : Nat) (a' : Act) (w' : World) : Prop :=
 ∃ (i bc : Nat) (u6 u7 u8 u9 u10 u11 u12 u13 u14 u15 u16 u17 u18 u19 u20 u21 u22 u23 u24 : Value), Below w.heap.size w w' ∧ At5 w' w.heap.size (.int .u64 (v.a : Int)) (.int .u64 (v.b : Int)) (.int .u64 (v.c : Int)) (.slice A v.pre.length c) (.slice B v.build.length d) ∧ w'.heap[bc]? = some (.cells #[.int .u64 (v.a : Int), .int .u64 (v.b : Int), .int .u64 (v.c : Int)] 99) ∧ w.heap.size + 1 < bc ∧ TextAt w v i w' ∧
  a' = { tmps := #[.agg #[.int .u64 (v.a : Int), .int .u64 (v.b : Int), .int .u64 (v.c : Int), .slice A v.pre.length c, .slice B v.build.length d], .pointer (some ⟨w.heap.size, 0, none⟩), .string ⟨#[]⟩, .pointer (some ⟨w.heap.size + 1, 0, none⟩), .pointer (some ⟨bc, 0, none⟩), .int .i64 i, u6, u7, u8, u9, u10, u11, u12, u13, u14, u15, u16, u17, u18, u19, u20, u21, u22, u23, u24], defers := [] }
def TextM (a' : Act) (_ : World) : Nat := 3 - (intOf (a'.tmps.getD 5 undef)).toNat
theorem vtext_any (v : Ver) (A : Option Addr) (c : Nat) (B : Option Addr) (d : Nat) (w : World) (ha : v.a < 18446744073709551616) (hb : v.b < 18446744073709551616) (hc : v.c < 18446744073709551616)
  (hr1 : SRow w A v.pre.length v.pre) (hr2 : SRow w B v.build.length v.build) (hc1 : v.pre.length ≤ c) (hc2 : v.build.length ≤ d) (hs1 : shortB v.pre = true) (hs2 : shortB v.build = true) (htab : Tab w) :
  Calls Tryz.prog 91 #[.agg #[.int .u64 (v.a : Int), .int .u64 (v.b : Int), .int .u64 (v.c : Int), .slice A v.pre.length c, .slice B v.build.length d]] w fun e w' => e = .returned (.string (mk (vtext v))) ∧ Below w.heap.size w w' := by
 have Ha := Lib.hid ha
 have Hb := Lib.hid hb
 have Hc := Lib.hid hc
 have HDa := Lib.hid (dec_le v.a ha)
 have HDb := Lib.hid (dec_le v.b hb)
 have HDc := Lib.hid (dec_le v.c hc)
 have HR1 := Lib.hid hr1
 have HR2 := Lib.hid hr2
 have HS1 := Lib.hid hs1
 have HS2 := Lib.hid hs2
 have HP1 := Lib.hid (rowText_le (m := 45) hs1)
 have HTab := Lib.hid htab
 clear ha hb hc hr1 hr2 hs1 hs2 htab
 go_enter Tryz.func91, Tryz.ntmps91
 go_wp2
 refine wp_scope_back 0 (TextJ w v A c B d) TextM rfl ?_ ?_
 ·rintro a' w0 ⟨i, bc, u6, u7, u8, u9, u10, u11, u12, u13, u14, u15, u16, u17, u18, u19, u20, u21, u22, u23, u24, hbel, h5, hheap, hbc, hat, rfl⟩
  have HB := Lib.hid hbel
  have H5 := Lib.hid h5
  have HC := Lib.hid hheap
  have hz0 := h5.1
  have hzc : bc < w0.heap.size := (Array.getElem?_eq_some_iff.1 hheap).1
  have hx0 : w0.cell? ⟨bc, 0, none⟩ = some (.int .u64 (v.a : Int)) := by rw [Lib.cell_of_heap hheap]; rfl
  have hx1 : w0.cell? ⟨bc, 1, none⟩ = some (.int .u64 (v.b : Int)) := by rw [Lib.cell_of_heap hheap]; rfl
  have hx2 : w0.cell? ⟨bc, 2, none⟩ = some (.int .u64 (v.c : Int)) := by rw [Lib.cell_of_heap hheap]; rfl
  clear hbel h5 hheap
  rcases hat with ⟨rfl, hl⟩ | ⟨rfl, hl⟩ | ⟨rfl, hl⟩
  ·have HL := Lib.hid hl; clear hl
   have hlen : ([] : List UInt8).length ≤ 1000 := by simp only [List.length_nil]; omega
   have ht := HTab.out.kept HB.out
   have HT := Lib.hid ht; clear ht
   go_wp2_with fail
   refine (Num.text_any v.a Ha.out _ HT.out).mono ?_
   rintro e w1 ⟨rfl, hb1⟩
   have hz1 := hb1.size
   have L1 := Lib.hid (HL.out.kept hb1)
   have K1 := Lib.hid ((hb1.block bc (Array.getElem?_eq_some_iff.1 HC.out).1).trans HC.out)
   have Q1 := Lib.hid (H5.out.kept hb1 (by omega))
   have B1 := Lib.hid (HB.out.trans (hb1.mono (by omega)))
   clear hb1 HT HL HC H5 hx0 hx1 hx2
   go_wp2_with fail
   refine (writeString_any _ _ _ (Lib.decDigits v.a) _ L1.out (by have := hlen; omega) (by have := HDa.out; omega) (by omega)).mono ?_
   rintro e w2 ⟨rfl, l2, hb2, hk2⟩
   have hz2 := hb2.size
   have L2 := Lib.hid l2
   have K2 := Lib.hid (hk2 _ _ K1.out (by simp; omega) (by intro c fz e; injection e with _ e; exact absurd e (by decide)))
   have Q2 := Lib.hid (Q1.out.kept hb2 (by omega))
   have B2 := Lib.hid (B1.out.trans (hb2.mono (by omega)))
   clear l2 hb2 hk2 L1 K1 Q1 B1
   go_wp2_with fail
   refine (writeByte_any _ _ _ 46 46 rfl _ L2.out (by rw [List.length_append]; have := hlen; have := HDa.out; omega) (by omega)).mono ?_
   rintro e w3 ⟨rfl, l3, hb3, hk3⟩
   have hz3 := hb3.size
   have L3 := Lib.hid l3
   have K3 := Lib.hid (hk3 _ _ K2.out (by simp; omega) (by intro c fz e; injection e with _ e; exact absurd e (by decide)))
   have Q3 := Lib.hid (Q2.out.kept hb3 (by omega))
   have B3 := Lib.hid (B2.out.trans (hb3.mono (by omega)))
   clear l3 hb3 hk3 L2 K2 Q2 B2
   go_wp2
   go_step3
   refine ⟨rfl, ⟨1, bc, _, _, _, _, _, _, _, _, _, _, _, _, _, _, _, _, _, _, _, B3.out, Q3.out, K3.out, hbc, .inr (.inl ⟨rfl, L3.out⟩), rfl⟩, ?_⟩
   simp [TextM, intOf]
  ·have HL := Lib.hid hl; clear hl
   have hlen : ([] ++ Lib.decDigits v.a ++ [46] : List UInt8).length ≤ 1000 := by simp only [List.length_append, List.length_singleton, List.length_nil]; have := HDa.out; have := HDb.out; omega
   have ht := HTab.out.kept HB.out
   have HT := Lib.hid ht; clear ht
   go_wp2_with fail
   refine (Num.text_any v.b Hb.out _ HT.out).mono ?_
   rintro e w1 ⟨rfl, hb1⟩
   have hz1 := hb1.size
   have L1 := Lib.hid (HL.out.kept hb1)
   have K1 := Lib.hid ((hb1.block bc (Array.getElem?_eq_some_iff.1 HC.out).1).trans HC.out)
   have Q1 := Lib.hid (H5.out.kept hb1 (by omega))
   have B1 := Lib.hid (HB.out.trans (hb1.mono (by omega)))
   clear hb1 HT HL HC H5 hx0 hx1 hx2
   go_wp2_with fail
   refine (writeString_any _ _ _ (Lib.decDigits v.b) _ L1.out (by have := hlen; omega) (by have := HDb.out; omega) (by omega)).mono ?_
   rintro e w2 ⟨rfl, l2, hb2, hk2⟩
   have hz2 := hb2.size
   have L2 := Lib.hid l2
   have K2 := Lib.hid (hk2 _ _ K1.out (by simp; omega) (by intro c fz e; injection e with _ e; exact absurd e (by decide)))
   have Q2 := Lib.hid (Q1.out.kept hb2 (by omega))
   have B2 := Lib.hid (B1.out.trans (hb2.mono (by omega)))
   clear l2 hb2 hk2 L1 K1 Q1 B1
   go_wp2_with fail
   refine (writeByte_any _ _ _ 46 46 rfl _ L2.out (by rw [List.length_append]; have := hlen; have := HDb.out; omega) (by omega)).mono ?_
   rintro e w3 ⟨rfl, l3, hb3, hk3⟩
   have hz3 := hb3.size
   have L3 := Lib.hid l3
   have K3 := Lib.hid (hk3 _ _ K2.out (by simp; omega) (by intro c fz e; injection e with _ e; exact absurd e (by decide)))
   have Q3 := Lib.hid (Q2.out.kept hb3 (by omega))
   have B3 := Lib.hid (B2.out.trans (hb3.mono (by omega)))
   clear l3 hb3 hk3 L2 K2 Q2 B2
   go_wp2
   go_step3
   refine ⟨rfl, ⟨2, bc, _, _, _, _, _, _, _, _, _, _, _, _, _, _, _, _, _, _, _, B3.out, Q3.out, K3.out, hbc, .inr (.inr ⟨rfl, L3.out⟩), rfl⟩, ?_⟩
   simp [TextM, intOf]
  ·have HL := Lib.hid hl; clear hl
   have hlen : ([] ++ Lib.decDigits v.a ++ [46] ++ Lib.decDigits v.b ++ [46] : List UInt8).length ≤ 1000 := by simp only [List.length_append, List.length_singleton, List.length_nil]; have := HDa.out; have := HDb.out; omega
   have ht := HTab.out.kept HB.out
   have HT := Lib.hid ht; clear ht
   go_wp2_with fail
   refine (Num.text_any v.c Hc.out _ HT.out).mono ?_
   rintro e w1 ⟨rfl, hb1⟩
   have hz1 := hb1.size
   have L1 := Lib.hid (HL.out.kept hb1)
   have K1 := Lib.hid ((hb1.block bc (Array.getElem?_eq_some_iff.1 HC.out).1).trans HC.out)
   have Q1 := Lib.hid (H5.out.kept hb1 (by omega))
   have B1 := Lib.hid (HB.out.trans (hb1.mono (by omega)))
   clear hb1 HT HL HC H5 hx0 hx1 hx2
   go_wp2_with fail
   refine (writeString_any _ _ _ (Lib.decDigits v.c) _ L1.out (by have := hlen; omega) (by have := HDc.out; omega) (by omega)).mono ?_
   rintro e w2 ⟨rfl, l2, hb2, hk2⟩
   have hz2 := hb2.size
   have L2 := Lib.hid l2
   have K2 := Lib.hid (hk2 _ _ K1.out (by simp; omega) (by intro c fz e; injection e with _ e; exact absurd e (by decide)))
   have Q2 := Lib.hid (Q1.out.kept hb2 (by omega))
   have B2 := Lib.hid (B1.out.trans (hb2.mono (by omega)))
   clear l2 hb2 hk2 L1 K1 Q1 B1
   obtain ⟨_, _, g0, g1, g2, g3, g4⟩ := Q2.out
   have hlen2 : ([] ++ Lib.decDigits v.a ++ [46] ++ Lib.decDigits v.b ++ [46] ++ Lib.decDigits v.c).length ≤ 1000 := by simp only [List.length_append, List.length_singleton, List.length_nil]; have := HDa.out; have := HDb.out; have := HDc.out; omega
   go_wp2_with fail
   refine (writeRow_any _ _ _ A v.pre.length c v.pre 45 45 rfl w _ L2.out (by omega) (by omega) HR1.out B2.out (by omega) hc1 HS1.out).mono ?_
   rintro e w3 ⟨rfl, l3, hb3, hk3⟩
   have hz3 := hb3.size
   have L3 := Lib.hid l3
   have Q3 := Lib.hid (Q2.out.kept hb3 (by omega))
   have B3 := Lib.hid (B2.out.trans (hb3.mono (by omega)))
   clear l3 hb3 hk3 L2 K2 Q2 B2 g0 g1 g2 g3 g4
   obtain ⟨_, _, g0, g1, g2, g3, g4⟩ := Q3.out
   have hlen3 : ([] ++ Lib.decDigits v.a ++ [46] ++ Lib.decDigits v.b ++ [46] ++ Lib.decDigits v.c ++ rowText 45 v.pre).length ≤ 20000 := by rw [List.length_append]; have := HP1.out; omega
   go_wp2_with fail
   refine (writeRow_any _ _ _ B v.build.length d v.build 43 43 rfl w _ L3.out (by omega) (by omega) HR2.out B3.out (by omega) hc2 HS2.out).mono ?_
   rintro e w4 ⟨rfl, l4, hb4, hk4⟩
   have hz4 := hb4.size
   have L4 := Lib.hid l4
   have B4 := Lib.hid (B3.out.trans (hb4.mono (by omega)))
   clear l4 hb4 hk4 L3 Q3 B3 g0 g1 g2 g3 g4 hlen hlen2 hlen3
   have HTX : Hid ([] ++ Lib.decDigits v.a ++ [46] ++ Lib.decDigits v.b ++ [46] ++ Lib.decDigits v.c ++ rowText 45 v.pre ++ rowText 43 v.build = vtext v) := by unfold Hid vtext; rw [List.nil_append]
   generalize [] ++ Lib.decDigits v.a ++ [46] ++ Lib.decDigits v.b ++ [46] ++ Lib.decDigits v.c ++ rowText 45 v.pre ++ rowText 43 v.build = tx at L4 HTX
   go_wp2_with fail
   refine (Tryz.builderString _ _ _ _ L4.out (by omega)).mono ?_
   rintro e w5 ⟨rfl, _, hb5, _⟩
   have B5 := Lib.hid (B4.out.trans (hb5.mono (by omega)))
   clear hb5
   go_wp2
   simp only [Exit.jump]
   go_ret
   exact ⟨by rw [← HTX.out]; rfl, B5.out⟩
 ·intro HP
  have H5 := Lib.hid (At5.new w 25 (.int .u64 (v.a : Int)) (.int .u64 (v.b : Int)) (.int .u64 (v.c : Int)) (.slice A v.pre.length c) (.slice B v.build.length d))
  have HN := Bld.new (w.alloc (.cells #[.int .u64 (v.a : Int), .int .u64 (v.b : Int), .int .u64 (v.c : Int), .slice A v.pre.length c, .slice B v.build.length d] 25)) (w.heap.size + 1) (by simp)
  rw [size_alloc] at HN
  have HBN := Lib.hid HN; clear HN
  go_wp2_with fail
  refine (coreOf_any _ _ _ _ _ _).mono ?_
  rintro e w1 ⟨rfl, hb1⟩
  have hz1 : w.heap.size + 2 ≤ w1.heap.size := by have := hb1.size; simpa using this
  have HBa : Hid (Below w.heap.size w ((w.alloc (.cells #[.int .u64 (v.a : Int), .int .u64 (v.b : Int), .int .u64 (v.c : Int), .slice A v.pre.length c, .slice B v.build.length d] 25)).alloc (.cells #[.pointer none, .slice none 0 0] 71))) := ((Below.refl _ _).alloc (Nat.le_refl _) _).alloc (by simp) _
  have HBb := Lib.hid (HBa.out.trans (hb1.mono (by simp; omega)))
  have H5b := Lib.hid ((H5.out.kept ((Below.refl _ _).alloc (Nat.le_refl _) (.cells #[.pointer none, .slice none 0 0] 71)) (by simp)).kept hb1 (by simp; omega))
  have HLb := Lib.hid (HBN.out.kept hb1)
  have HBc := Lib.hid ((Below.refl w1.heap.size w1).alloc (Nat.le_refl _) (.cells #[.int .u64 (v.a : Int), .int .u64 (v.b : Int), .int .u64 (v.c : Int)] 99))
  have HBd := Lib.hid (HBb.out.trans (HBc.out.mono (by omega)))
  have H5d := Lib.hid (H5b.out.kept HBc.out (by omega))
  have HLd := Lib.hid (HLb.out.kept HBc.out)
  have HCd : Hid ((w1.alloc (.cells #[.int .u64 (v.a : Int), .int .u64 (v.b : Int), .int .u64 (v.c : Int)] 99)).heap[w1.heap.size]? = some (.cells #[.int .u64 (v.a : Int), .int .u64 (v.b : Int), .int .u64 (v.c : Int)] 99)) := by
   show (w1.heap.push _)[w1.heap.size]? = _
   simp
  clear hb1 H5 HBN HBa HBb H5b HLb HBc
  go_wp2
  go_step3
  rename_i hK
  exact hK _ _ (HP.out _ _ ⟨0, w1.heap.size, _, _, _, _, _, _, _, _, _, _, _, _, _, _, _, _, _, _, _, HBd.out, H5d.out, HCd.out, by omega, .inl ⟨rfl, HLd.out⟩, rfl⟩)
end Go.Proofs.YtgfbflnhjpbceaaGreatDoor.Semver
namespace Go.Proofs.YtgfbflnhjpbceaaGreatDoor.Semver
open Go.RowKit Num Ident

def HeldAt (x y z i : Nat) : Prop := i = 0 ∨ (i = 1 ∧ x ≤ maxField) ∨ (i = 2 ∧ x ≤ maxField ∧ y ≤ maxField) ∨ (i = 3 ∧ x ≤ maxField ∧ y ≤ maxField ∧ z ≤ maxField)
def HeldJ (w : World) (x y z : Nat) (a' : Act) (w' : World) : Prop :=
 ∃ (i : Nat) (u4 u5 u6 u7 u8 u9 u10 u11 : Value), w' = w.alloc (.cells #[.int .u64 (x : Int), .int .u64 (y : Int), .int .u64 (z : Int)] 99) ∧ HeldAt x y z i ∧
  a' = { tmps := #[.agg #[.int .u64 (x : Int), .int .u64 (y : Int), .int .u64 (z : Int)], .pointer (some ⟨w.heap.size, 0, none⟩), .bool false, .int .i64 i, u4, u5, u6, u7, u8, u9, u10, u11], defers := [] }
def HeldM (a' : Act) (_ : World) : Nat := 4 - (intOf (a'.tmps.getD 3 undef)).toNat
theorem held_any (x y z : Nat) (w : World) :
  Calls Tryz.prog 70 #[.agg #[.int .u64 (x : Int), .int .u64 (y : Int), .int .u64 (z : Int)]] w fun e w' => e = .returned (.bool (heldB x y z)) ∧ Below w.heap.size w w' := by
 have HB : Hid (Below w.heap.size w (w.alloc (.cells #[.int .u64 (x : Int), .int .u64 (y : Int), .int .u64 (z : Int)] 99))) := (Below.refl _ _).alloc (Nat.le_refl _) _
 go_enter Tryz.func70, Tryz.ntmps70
 go_wp2
 refine wp_scope_back 0 (HeldJ w x y z) HeldM rfl ?_ ?_
 ·rintro a' w1 ⟨i, u4, u5, u6, u7, u8, u9, u10, u11, rfl, hat, rfl⟩
  rcases hat with rfl | ⟨rfl, h1⟩ | ⟨rfl, h1, h2⟩ | ⟨rfl, h1, h2, h3⟩
  ·by_cases hx : (x : Int) ≤ 9223372036854775807
   ·have HX := Lib.hid (field_le hx)
    go_wp2
    go_step3
    refine ⟨rfl, ⟨1, _, _, _, _, _, _, _, _, rfl, .inr (.inl ⟨rfl, HX.out⟩), rfl⟩, ?_⟩
    simp [HeldM, intOf]
   ·have HF : Hid (heldB x y z = false) := heldB_no fun hh => field_no hx hh.1
    have hx2 : (9223372036854775807 : Int) < (x : Int) := by omega
    clear hx
    go_wp2
    simp only [Exit.jump]
    go_ret
    exact ⟨by rw [HF.out]; rfl, HB.out⟩
  ·have H1 := Lib.hid h1; clear h1
   by_cases hx : (y : Int) ≤ 9223372036854775807
   ·have HX := Lib.hid (field_le hx)
    go_wp2
    go_step3
    refine ⟨rfl, ⟨2, _, _, _, _, _, _, _, _, rfl, .inr (.inr (.inl ⟨rfl, H1.out, HX.out⟩)), rfl⟩, ?_⟩
    simp [HeldM, intOf]
   ·have HF : Hid (heldB x y z = false) := heldB_no fun hh => field_no hx hh.2.1
    have hx2 : (9223372036854775807 : Int) < (y : Int) := by omega
    clear hx
    go_wp2
    simp only [Exit.jump]
    go_ret
    exact ⟨by rw [HF.out]; rfl, HB.out⟩
  ·have H1 := Lib.hid h1; clear h1; have H2 := Lib.hid h2; clear h2
   by_cases hx : (z : Int) ≤ 9223372036854775807
   ·have HX := Lib.hid (field_le hx)
    go_wp2
    go_step3
    refine ⟨rfl, ⟨3, _, _, _, _, _, _, _, _, rfl, .inr (.inr (.inr ⟨rfl, H1.out, H2.out, HX.out⟩)), rfl⟩, ?_⟩
    simp [HeldM, intOf]
   ·have HF : Hid (heldB x y z = false) := heldB_no fun hh => field_no hx hh.2.2
    have hx2 : (9223372036854775807 : Int) < (z : Int) := by omega
    clear hx
    go_wp2
    simp only [Exit.jump]
    go_ret
    exact ⟨by rw [HF.out]; rfl, HB.out⟩
  ·have HF := Lib.hid (heldB_yes h1 h2 h3)
   clear h1 h2 h3
   go_wp2
   simp only [Exit.jump]
   go_ret
   exact ⟨by rw [HF.out]; rfl, HB.out⟩
 ·intro HP
  go_wp2
  go_step3
  rename_i hK
  exact hK _ _ (HP.out _ _ ⟨0, _, _, _, _, _, _, _, _, rfl, .inl rfl, rfl⟩)
theorem vgood_any (v : Ver) (A : Option Addr) (c : Nat) (B : Option Addr) (d : Nat) (w : World) (hr1 : SRow w A v.pre.length v.pre) (hr2 : SRow w B v.build.length v.build)
  (hn1 : v.pre.length ≤ maxLen) (hn2 : v.build.length ≤ maxLen) (hx1 : ∀ x ∈ v.pre, x.length ≤ maxLen) (hx2 : ∀ x ∈ v.build, x.length ≤ maxLen) :
  Calls Tryz.prog 37 #[.agg #[.int .u64 (v.a : Int), .int .u64 (v.b : Int), .int .u64 (v.c : Int), .slice A v.pre.length c, .slice B v.build.length d]] w fun e w' => e = .returned (.bool (goodV v)) ∧ Below w.heap.size w w' := by
 have R1 := Lib.hid hr1
 have R2 := Lib.hid hr2
 have N1 := Lib.hid hn1
 have N2 := Lib.hid hn2
 have X1 := Lib.hid hx1
 have X2 := Lib.hid hx2
 clear hr1 hr2 hn1 hn2 hx1 hx2
 have HBa := Lib.hid ((Below.refl w.heap.size w).alloc (Nat.le_refl _) (.cells #[.int .u64 (v.a : Int), .int .u64 (v.b : Int), .int .u64 (v.c : Int), .slice A v.pre.length c, .slice B v.build.length d] 25))
 have K0 := Lib.hid (At5.new w 25 (.int .u64 (v.a : Int)) (.int .u64 (v.b : Int)) (.int .u64 (v.c : Int)) (.slice A v.pre.length c) (.slice B v.build.length d))
 have HG : Hid (goodV v = (heldB v.a v.b v.c && (goodFrom true v.pre 0 && goodFrom false v.build 0))) := rfl
 go_enter Tryz.func37, Tryz.ntmps37
 go_wp2_with fail
 refine (coreOf_any _ _ _ _ _ _).mono ?_
 rintro e w1 ⟨rfl, hb1⟩
 have K1 := Lib.hid (K0.out.kept hb1 (by simp))
 have B1 := Lib.hid (HBa.out.trans (hb1.mono (by simp)))
 have hz1 := K1.out.1
 clear hb1 K0 HBa
 go_wp2_with fail
 refine (held_any _ _ _ _).mono ?_
 rintro e w2 ⟨rfl, hb2⟩
 have K2 := Lib.hid (K1.out.kept hb2 (by omega))
 have B2 := Lib.hid (B1.out.trans (hb2.mono (by omega)))
 have hz2 := K2.out.1
 clear hb2 K1 B1
 generalize heldB v.a v.b v.c = g1 at HG ⊢
 obtain ⟨_, _, x0, x1, x2, x3, x4⟩ := K2.out
 cases g1
 ·go_wp2
  go_ret
  exact ⟨by rw [HG.out]; rfl, B2.out⟩
 go_wp2_with fail
 refine (good_any _ _ _ v.pre true _ (R1.out.kept B2.out) N1.out X1.out).mono ?_
 rintro e w3 ⟨rfl, hb3⟩
 have K3 := Lib.hid (K2.out.kept hb3 (by omega))
 have B3 := Lib.hid (B2.out.trans (hb3.mono (by omega)))
 clear hb3 x0 x1 x2 x3 x4
 generalize goodFrom true v.pre 0 = g2 at HG ⊢
 obtain ⟨hz3, _, x0, x1, x2, x3, x4⟩ := K3.out
 cases g2
 ·go_wp2
  go_ret
  exact ⟨by rw [HG.out]; rfl, B3.out⟩
 go_wp2_with fail
 refine (good_any _ _ _ v.build false _ (R2.out.kept B3.out) N2.out X2.out).mono ?_
 rintro e w4 ⟨rfl, hb4⟩
 have B4 := Lib.hid (B3.out.trans (hb4.mono (by omega)))
 clear hb4 x0 x1 x2 x3 x4
 go_wp2
 go_ret
 exact ⟨by rw [HG.out]; simp, B4.out⟩
end Go.Proofs.YtgfbflnhjpbceaaGreatDoor.Semver
namespace Go.Proofs.YtgfbflnhjpbceaaGreatDoor.Semver
open Num Ident

theorem num_inj {x y : List UInt8} (hx : isNum x = true) (hy : isNum y = true) (h : val x = val y) : x = y := by
 rcases Nat.lt_trichotomy x.length y.length with hl | hl | hl
 ·have := shorter hx hy hl; omega
 ·have h1 := (isNum_iff x).1 hx
  have h2 := (isNum_iff y).1 hy
  exact val_inj x y (all_of_run h1.2.1) (all_of_run h2.2.1) hl h
 ·have := shorter hy hx hl; omega

/-! What is read. -/
theorem parse_read {l : List UInt8} {p v m : Nat} (hp : p ≤ l.length) (h : parse l p = (v, m, 0)) : l.drop p = Lib.decDigits v ++ l.drop (p + m) ∧ v ≤ maxField := by
 obtain ⟨d, hd⟩ : ∃ d, (l.drop p).take (run (l.drop p)) = d := ⟨_, rfl⟩
 have e := parse_at l p hp d hd
 rw [h] at e
 have ha : AllDig d := by rw [← hd]; exact allDig_take_run _
 by_cases h0 : d.length = 0
 ·rw [if_pos h0] at e; simp at e
 ·rw [if_neg h0] at e
  by_cases h1 : pad d = true
  ·rw [if_pos h1] at e; simp at e
  ·rw [if_neg h1] at e
   by_cases h2 : maxField < val d
   ·rw [if_pos h2] at e; simp at e
   ·rw [if_neg h2] at e
    injection e with e1 e2
    injection e2 with e2 _
    have hn : isNum d = true := by
     rw [isNum_iff]
     exact ⟨by omega, run_all ha, by simpa using h1⟩
    have hdec : d = Lib.decDigits v := num_inj hn (dec_num v) (by rw [dec_val, e1])
    have hm : m = run (l.drop p) := by
     rw [e2, ← hd, List.length_take]
     have := run_le (l.drop p); omega
    refine ⟨?_, by omega⟩
    rw [← hdec, ← hd, ← hm, ← List.drop_drop, List.take_append_drop]
theorem point_read {l : List UInt8} {q : Nat} (hq : q ≤ l.length) (h : point l q = 0) : l.drop q = 46 :: l.drop (q + 1) := by
 have hlt := point_lt hq h
 rw [drop_getD l q hlt]
 unfold point at h
 rw [if_neg (by omega)] at h
 by_cases h2 : byteAt l q ≠ 46
 ·rw [if_pos h2] at h; omega
 ·have h3 : byteAt l q = 46 := by simpa using h2
  have : l.getD q 0 = 46 := UInt8.toNat_inj.1 (show (l.getD q 0).toNat = 46 by unfold byteAt at h3; omega)
  rw [this]
theorem core2_read {l : List UInt8} {p x y z q a b : Nat} (hp : p ≤ l.length) (h : core2 l x y p = (0, q, a, b, z)) : a = x ∧ b = y ∧ l.drop p = Lib.decDigits z ++ l.drop q ∧ z ≤ maxField := by
 unfold core2 at h
 obtain ⟨⟨v, m, f⟩, hk⟩ : ∃ t, parse l p = t := ⟨_, rfl⟩
 rw [hk] at h
 by_cases h0 : f ≠ 0
 ·rw [if_pos h0] at h; injection h with h; exact absurd h h0
 ·have hf : f = 0 := by simpa using h0
  subst hf
  rw [if_neg (by simp)] at h
  simp only [Prod.mk.injEq, true_and] at h
  obtain ⟨rfl, rfl, rfl, rfl⟩ := h
  exact ⟨rfl, rfl, parse_read hp hk⟩
theorem core1_read {l : List UInt8} {p x y z q a : Nat} (hp : p ≤ l.length) (h : core1 l x p = (0, q, a, y, z)) : a = x ∧ l.drop p = Lib.decDigits y ++ 46 :: (Lib.decDigits z ++ l.drop q) ∧ y ≤ maxField ∧ z ≤ maxField := by
 unfold core1 at h
 obtain ⟨⟨v, m, f⟩, hk⟩ : ∃ t, parse l p = t := ⟨_, rfl⟩
 have hpe := parse_end l p hp
 rw [hk] at h hpe
 by_cases h0 : f ≠ 0
 ·rw [if_pos h0] at h; injection h with h; exact absurd h h0
 ·have hf : f = 0 := by simpa using h0
  subst hf
  rw [if_neg (by simp)] at h
  simp only at h hpe
  unfold after2 at h
  by_cases h1 : point l (p + m) ≠ 0
  ·rw [if_pos h1] at h; injection h with h; exact absurd h h1
  ·rw [if_neg h1] at h
   have h1' : point l (p + m) = 0 := by simpa using h1
   obtain ⟨rfl, rfl, e1, e2⟩ := core2_read (point_lt hpe h1') h
   obtain ⟨e3, e4⟩ := parse_read hp hk
   exact ⟨rfl, by rw [e3, point_read hpe h1', e1], e4, e2⟩
theorem core_read {l : List UInt8} {p x y z q : Nat} (hp : p ≤ l.length) (h : core l p = (0, q, x, y, z)) :
  l.drop p = Lib.decDigits x ++ 46 :: (Lib.decDigits y ++ 46 :: (Lib.decDigits z ++ l.drop q)) ∧ x ≤ maxField ∧ y ≤ maxField ∧ z ≤ maxField := by
 unfold core at h
 obtain ⟨⟨v, m, f⟩, hk⟩ : ∃ t, parse l p = t := ⟨_, rfl⟩
 have hpe := parse_end l p hp
 rw [hk] at h hpe
 by_cases h0 : f ≠ 0
 ·rw [if_pos h0] at h; injection h with h; exact absurd h h0
 ·have hf : f = 0 := by simpa using h0
  subst hf
  rw [if_neg (by simp)] at h
  simp only at h hpe
  unfold after1 at h
  by_cases h1 : point l (p + m) ≠ 0
  ·rw [if_pos h1] at h; injection h with h; exact absurd h h1
  ·rw [if_neg h1] at h
   have h1' : point l (p + m) = 0 := by simpa using h1
   obtain ⟨rfl, e1, e2, e5⟩ := core1_read (point_lt hpe h1') h
   obtain ⟨e3, e4⟩ := parse_read hp hk
   exact ⟨by rw [e3, point_read hpe h1', e1], e4, e2, e5⟩

theorem joined_byte (acc : List (List UInt8)) (w : List UInt8) (b : UInt8) : joined (acc ++ [w ++ [b]]) = joined (acc ++ [w]) ++ [b] := by
 cases acc with
 | nil => rw [List.nil_append, List.nil_append, joined_one, joined_one]
 | cons x r => rw [joined_snoc _ _ (by simp), joined_snoc _ _ (by simp), List.append_assoc, List.append_assoc, List.append_assoc]
theorem joined_point (acc : List (List UInt8)) (w : List UInt8) : joined (acc ++ [w] ++ [[]]) = joined (acc ++ [w]) ++ [46] := by
 rw [joined_snoc _ _ (by simp), List.append_nil]
theorem goodFrom_snoc (pre : Bool) (acc : List (List UInt8)) (w : List UInt8) (i : Nat) : goodFrom pre (acc ++ [w]) i = (goodFrom pre acc i && (fault w (i + acc.length) pre == 0 && lead w == w.length)) := by
 induction acc generalizing i with
 | nil => simp [goodFrom]
 | cons x r ih =>
  rw [List.cons_append, goodFrom, goodFrom, ih, List.length_cons, show i + 1 + r.length = i + (r.length + 1) by omega]
  simp only [Bool.and_assoc]
theorem go_read {pre : Bool} : ∀ (r w : List UInt8) (acc : List (List UInt8)) (n N : Nat) (xs : List (List UInt8)), (∀ b ∈ w, isId b = true) → goodFrom pre acc 0 = true → go pre r w acc n = (0, N, xs) →
  ∃ k, N = n + k ∧ k ≤ r.length ∧ joined (acc ++ [w]) ++ r.take k = joined xs ∧ xs ≠ [] ∧ goodFrom pre xs 0 = true := by
 have hshut : ∀ (r w : List UInt8) (acc : List (List UInt8)) (n N : Nat) (xs : List (List UInt8)), (∀ b ∈ w, isId b = true) → goodFrom pre acc 0 = true → shut pre w acc n = (0, N, xs) →
   ∃ k, N = n + k ∧ k ≤ r.length ∧ joined (acc ++ [w]) ++ r.take k = joined xs ∧ xs ≠ [] ∧ goodFrom pre xs 0 = true := by
  intro r w acc n N xs hw hg h
  unfold shut at h
  split at h
  ·rename_i hf
   simp only [Prod.mk.injEq, true_and] at h
   obtain ⟨rfl, rfl⟩ := h
   refine ⟨0, by omega, Nat.zero_le _, by simp, by simp, ?_⟩
   rw [goodFrom_snoc, hg, Nat.zero_add, hf, lead_full.2 hw]; simp
  ·rename_i hf
   injection h with h
   exact absurd h hf
 intro r
 induction r with
 | nil => intro w acc n N xs hw hg h; rw [go] at h; exact hshut [] w acc n N xs hw hg h
 | cons b r ih =>
  intro w acc n N xs hw hg h
  by_cases hb : isId b = true
  ·rw [go_id hb] at h
   obtain ⟨k, e1, e2, e3, e4⟩ := ih (w ++ [b]) acc (n + 1) N xs (fun c hc => by rcases List.mem_append.1 hc with hc | hc; (· exact hw c hc); (· simp at hc; rw [hc]; exact hb)) hg h
   refine ⟨k + 1, by omega, by simp; exact e2, ?_, e4⟩
   rw [joined_byte, List.append_assoc] at e3
   rw [List.take_succ_cons]; exact e3
  ·have hb' : isId b = false := by simpa using hb
   by_cases h46 : b.toNat = 46
   ·by_cases hf : fault w acc.length pre = 0
    ·rw [go_point h46 hf] at h
     obtain ⟨k, e1, e2, e3, e4⟩ := ih [] (acc ++ [w]) (n + 1) N xs (by simp) (by rw [goodFrom_snoc, hg, Nat.zero_add, hf, lead_full.2 hw]; simp) h
     refine ⟨k + 1, by omega, by simp; exact e2, ?_, e4⟩
     have eb : b = 46 := UInt8.toNat_inj.1 h46
     rw [joined_point, List.append_assoc] at e3
     rw [List.take_succ_cons, eb]; exact e3
    ·rw [go_bad hb' hf] at h
     injection h with h
     exact absurd h hf
   ·rw [go_else hb' h46] at h
    exact hshut (b :: r) w acc n N xs hw hg h
theorem row_read {l : List UInt8} {p N : Nat} {pre : Bool} {xs : List (List UInt8)} (hp : p ≤ l.length) (h : row l p pre = (0, N, xs)) : l.drop p = joined xs ++ l.drop (p + N) ∧ xs ≠ [] ∧ goodFrom pre xs 0 = true := by
 unfold row at h
 rw [if_neg (by omega), Int.toNat_natCast] at h
 obtain ⟨k, e1, e2, e3, e4, e5⟩ := go_read (l.drop p) [] [] 0 N xs (by simp) rfl h
 rw [List.nil_append, joined_one, List.nil_append] at e3
 refine ⟨?_, e4, e5⟩
 rw [← e3, show N = k by omega, ← List.drop_drop, List.take_append_drop]
theorem rowAt_read {l : List UInt8} {p m q : Nat} {mb : UInt8} {xs : List (List UInt8)} (hm : m = mb.toNat) (hp : p ≤ l.length) (h : rowAt l p m = (0, q, xs)) : l.drop p = rowText mb xs ++ l.drop q ∧ goodFrom (m == 45) xs 0 = true := by
 by_cases h0 : p = l.length ∨ byteAt l p ≠ (m : Int)
 ·rw [rowAt_none h0] at h
  simp only [Prod.mk.injEq, true_and] at h
  obtain ⟨rfl, rfl⟩ := h
  exact ⟨by rw [rowText_none rfl]; rfl, rfl⟩
 ·have h1 : p ≠ l.length := fun e => h0 (.inl e)
  have h2 : byteAt l p = (m : Int) := by
   by_cases e : byteAt l p = (m : Int)
   ·exact e
   ·exact absurd (.inr e) h0
  rw [rowAt_some h1 h2] at h
  have hlt : p < l.length := by omega
  obtain ⟨⟨f, N, ys⟩, hr⟩ : ∃ t, row l ((p + 1 : Nat) : Int) (m == 45) = t := ⟨_, rfl⟩
  rw [hr] at h
  simp only [Prod.mk.injEq] at h
  obtain ⟨rfl, rfl, rfl⟩ := h
  obtain ⟨e1, e2, e3⟩ := row_read hlt hr
  refine ⟨?_, e3⟩
  have hb : l.getD p 0 = mb := UInt8.toNat_inj.1 (by unfold byteAt at h2; omega)
  rw [drop_getD l p hlt, hb, e1, rowText_some (fun e => e2 (List.eq_nil_of_length_eq_zero e))]; rfl
theorem goodFrom_bound {pre : Bool} : ∀ (xs : List (List UInt8)) (i : Nat), goodFrom pre xs i = true → (xs ≠ [] → xs.length + i ≤ 16) ∧ ∀ x ∈ xs, x.length ≤ 255
 | [], _, _ => ⟨fun h => absurd rfl h, by simp⟩
 | x :: r, i, h => by
  rw [goodFrom, Bool.and_eq_true, Bool.and_eq_true, beq_iff_eq, beq_iff_eq] at h
  have hf := fault_pos h.1.1
  have ih := goodFrom_bound r (i + 1) h.2
  refine ⟨fun _ => ?_, fun y hy => ?_⟩
  ·by_cases hr : r = []
   ·subst hr; simp; omega
   ·have := ih.1 hr
    rw [List.length_cons]; omega
  ·rcases List.mem_cons.1 hy with rfl | hy
   ·exact hf.2.1
   ·exact ih.2 y hy

end Go.Proofs.YtgfbflnhjpbceaaGreatDoor.Semver
namespace Go.Proofs.YtgfbflnhjpbceaaGreatDoor.Range
open Num Ident Semver

theorem vparse_read {l : List UInt8} {q : Nat} {v : Ver} (h : vparse l 0 = (0, q, v)) : goodV v = true ∧ l = vtext v ++ l.drop q := by
 unfold vparse at h
 rw [if_neg (by omega), Int.toNat_zero] at h
 unfold inside at h
 by_cases h2 : (core l 0).1 ≠ 0
 ·rw [if_pos h2] at h; injection h with h; exact absurd h h2
 ·rw [if_neg h2] at h
  have hce := core_end l 0 (Nat.zero_le _)
  obtain ⟨⟨f, q1, x, y, z⟩, hk⟩ : ∃ t, core l 0 = t := ⟨_, rfl⟩
  rw [hk] at h2 h hce
  simp only at h2 h hce
  have h2' : f = 0 := by simpa using h2
  subst h2'
  obtain ⟨c1, c2, c3, c4⟩ := core_read (Nat.zero_le _) hk
  unfold tail1 at h
  by_cases h3 : (Semver.rowAt l q1 45).1 ≠ 0
  ·rw [if_pos h3] at h; injection h with h; exact absurd h h3
  ·rw [if_neg h3] at h
   have hre := rowAt_end l q1 45 hce
   obtain ⟨⟨f, q2, xs⟩, hr⟩ : ∃ t, Semver.rowAt l q1 45 = t := ⟨_, rfl⟩
   rw [hr] at h3 h hre
   simp only at h3 h hre
   have h3' : f = 0 := by simpa using h3
   subst h3'
   obtain ⟨r1, r2⟩ := rowAt_read (mb := 45) rfl hce hr
   unfold tail2 at h
   by_cases h4 : (Semver.rowAt l q2 43).1 ≠ 0
   ·rw [if_pos h4] at h; injection h with h; exact absurd h h4
   ·rw [if_neg h4] at h
    obtain ⟨⟨f, q3, ys⟩, hr3⟩ : ∃ t, Semver.rowAt l q2 43 = t := ⟨_, rfl⟩
    rw [hr3] at h4 h
    simp only at h4 h
    have h4' : f = 0 := by simpa using h4
    subst h4'
    obtain ⟨s1, s2⟩ := rowAt_read (mb := 43) rfl hre hr3
    injection h with _ h
    injection h with hq hv
    subst hq; subst hv
    refine ⟨?_, ?_⟩
    ·unfold goodV
     rw [heldB_yes c2 c3 c4]
     have r2' : goodFrom true xs 0 = true := r2
     have s2' : goodFrom false ys 0 = true := s2
     simp [r2', s2']
    ·have e : l = Lib.decDigits x ++ 46 :: (Lib.decDigits y ++ 46 :: (Lib.decDigits z ++ (rowText 45 xs ++ (rowText 43 ys ++ l.drop q3)))) := by
      rw [← s1, ← r1, ← c1]; rfl
     generalize l.drop q3 = t at e ⊢
     rw [e]
     unfold vtext
     simp

theorem fits_many {kind : Int} (h : kind = 9 ∨ kind = 10) {n : Nat} (hn : 2 ≤ n) : fits kind noVer n = true := by
 have h1 : ofVersion kind = false := by unfold ofVersion; rcases h with rfl | rfl <;> decide
 have h2 : kind ≠ 0 := by omega
 unfold fits
 rw [h1, sameV_self, if_neg (by simp), if_neg (by simp), if_neg h2, if_pos h, decide_eq_true hn]
theorem opFrom_kind (s : List UInt8) : (opOf s).1 = 1 ∧ (opOf s).2 = [62, 61] ∨ (opOf s).1 = 2 ∧ (opOf s).2 = [62] ∨ (opOf s).1 = 3 ∧ (opOf s).2 = [60, 61] ∨ (opOf s).1 = 4 ∧ (opOf s).2 = [60] ∨ (opOf s).1 = 5 ∧ (opOf s).2 = [61] ∨ (opOf s).1 = 6 ∧ (opOf s).2 = [33, 61] ∨ (opOf s).1 = 7 ∧ (opOf s).2 = [94] ∨ (opOf s).1 = 8 ∧ (opOf s).2 = [126] ∨ (opOf s).1 = 5 ∧ (opOf s).2 = [] := by
 unfold opOf ops opFrom
 split
 ·simp
 ·unfold opFrom; split
  ·simp
  ·unfold opFrom; split
   ·simp
   ·unfold opFrom; split
    ·simp
    ·unfold opFrom; split
     ·simp
     ·unfold opFrom; split
      ·simp
      ·unfold opFrom; split
       ·simp
       ·unfold opFrom; split
        ·simp
        ·unfold opFrom; simp
theorem ver_kind {kind : Int} (h1 : 1 ≤ kind) (h2 : kind ≤ 8) : ofVersion kind = true ∧ opens 9 kind = 0 := by
 refine ⟨decide_eq_true ⟨h1, h2⟩, ?_⟩
 have a : kind ≠ 10 := by omega
 have b : kind ≠ 9 := by omega
 unfold opens bracketed
 simp [a, b]
theorem zero_good {d : Nat} (hd : d ≤ 64) : goodR noRng (d + opens 9 noRng.kind) = true := by
 show goodR (.mk 0 noVer []) (d + opens 9 0) = true
 rw [goodR_eq, decide_eq_true (show d + opens 9 0 ≤ 64 from hd)]; rfl

theorem ahead_first {o : Int} (k : Int) (h : o = 9 ∨ o = 10) : aheadR o k 0 = [] := by
 unfold aheadR; rw [if_neg (by rintro ⟨h1, _⟩; omega), if_pos rfl]
theorem text_ver {kind : Int} (h1 : 1 ≤ kind) (h2 : kind ≤ 8) (v : Ver) (l : List Rng) : textR (.mk kind v l) = ops.getD (kind - 1).toNat [] ++ vtext v := by
 rw [textR_eq]
 have e : most kind l.length = 0 := by unfold most; rw [if_neg (by omega), if_neg (by omega)]
 have e2 : ∀ (l : List Rng), textL kind 0 l 0 = [] := by intro l; cases l <;> simp [textL]
 rw [e, e2, List.append_nil]
 unfold markR
 rw [if_neg (by omega), if_neg (by omega), if_neg (by omega), if_pos (ver_kind h1 h2).1]
end Go.Proofs.YtgfbflnhjpbceaaGreatDoor.Range
