/-
  A version's text (semver.writeRow, semver.Text). Conditions: the rows read as the lists pre and build, few and short; the library's table of powers of ten reads as it is written.
-/
import Derived.Test.YtolkcblkciafiaaDoorSvPlain
import Derived.Test.YtolkcblkciafiaaDoorSvMem
import Derived.Test.YtolkcblkciafiaaDoorSvSame
import Derived.Test.YtolkcblkciafiaaDoorIdTexts
import Derived.Test.YtolkcblkciafiaaDoorNumText
import Derived.Test.YtolkcblkciafiaaDoorShelfBuild
namespace Go.Proofs.YtolkcblkciafiaaDoor.Semver
open Go.RowKit Num Ident

/-- A builder at block b that holds these bytes; what it makes lies at or behind B. -/
def Bld (w : World) (B b : Nat) (l : List UInt8) : Prop := Lib.IsBuilderF 45 5 B b (Lib.byteCells l) w
theorem Bld.new (w : World) (B : Nat) (h : B ≤ w.heap.size) : Bld (w.alloc (.cells #[.pointer none, .slice none 0 0] 45)) B w.heap.size [] := by
  refine .inl ⟨h, .slice none 0 0, ?_, World.ownsRowF_nil _ _ _ _, by simp [Value.ownBlock]⟩
  show (w.heap.push _)[w.heap.size]? = _
  simp
theorem atF_kept {w w' : World} {B b : Nat} {p : Value} {bs : List Value} (h : Lib.BuilderAtF 45 5 B b p bs w) (hb : Below w.heap.size w w') : Lib.BuilderAtF 45 5 B b p bs w' := by
  obtain ⟨h1, v, h2, h3, h4⟩ := h
  have lt : ∀ k o, w.heap[k]? = some o → k < w.heap.size := fun k o hk => (Array.getElem?_eq_some_iff.1 hk).1
  refine ⟨h1, v, (hb.block b (lt b _ h2)).trans h2, ⟨h3.1, ?_⟩, h4⟩
  rcases h3.2 with h5 | ⟨g, cap, cur, fz, e1, e2, e3, e4⟩
  · exact .inl h5
  · exact .inr ⟨g, cap, cur, fz, e1, e2, (hb.block g (lt g _ e3)).trans e3, e4⟩
theorem Bld.kept {w w' : World} {B b : Nat} {l : List UInt8} (h : Bld w B b l) (hb : Below w.heap.size w w') : Bld w' B b l :=
  h.elim (fun x => .inl (atF_kept x hb)) (fun x => .inr (atF_kept x hb))
theorem others_below {w w' : World} {b : Option Nat} (hb : Below w.heap.size w w') : Lib.OthersKept 5 b w w' :=
  fun k _ hk _ _ => (hb.block k (Array.getElem?_eq_some_iff.1 hk).1).trans hk
theorem byteCells_length (l : List UInt8) : (Lib.byteCells l).length = l.length := by simp [Lib.byteCells]
theorem byteCells_append (l r : List UInt8) : Lib.byteCells (l ++ r) = Lib.byteCells l ++ Lib.byteCells r := by simp [Lib.byteCells]
/-- What a writing call leaves. -/
def Wrote (w : World) (B b : Nat) (l : List UInt8) (w' : World) : Prop := Bld w' B b l ∧ Below B w w' ∧ Lib.OthersKept 5 (some b) w w'
theorem writeByte_any (B b : Nat) (l : List UInt8) (c : UInt8) (m : Int) (hm : m = (c.toNat : Int)) (w : World) (h : Bld w B b l) (hl : l.length ≤ 1000000) (hBw : B ≤ w.heap.size) :
    Calls Tryd.prog 34 #[.pointer (some ⟨b, 0, none⟩), .int .u8 m] w fun e w' => e = .returned .nilIface ∧ Wrote w B b (l ++ [c]) w' := by
  subst hm
  refine (Tryd.writeByte B b (Lib.byteCells l) (c.toNat : Int) w h (by rw [byteCells_length]; omega) hBw).mono ?_
  rintro e w' ⟨rfl, h1, h2, h3⟩
  exact ⟨rfl, .inr (by rw [byteCells_append]; exact h1), h2, h3⟩
theorem writeString_any (B b : Nat) (l t : List UInt8) (w : World) (h : Bld w B b l) (hl : l.length ≤ 1000000) (ht : t.length ≤ 1000000) (hBw : B ≤ w.heap.size) :
    Calls Tryd.prog 13 #[.pointer (some ⟨b, 0, none⟩), .string (mk t)] w fun e w' => e = .returned (.tuple #[.int .i64 (mk t).size, .nilIface]) ∧ Wrote w B b (l ++ t) w' := by
  refine (Tryd.writeString B b (Lib.byteCells l) (mk t) w h (by rw [byteCells_length, mk_size]; omega) hBw).mono ?_
  rintro e w' ⟨rfl, h1, h2, h3⟩
  exact ⟨rfl, .inr (by rw [byteCells_append]; exact h1), h2, h3⟩
set_option maxRecDepth 100000 in
set_option maxHeartbeats 800000 in
theorem writeRow_any (B b : Nat) (l : List UInt8) (A : Option Addr) (n c : Nat) (xs : List (List UInt8)) (mb : UInt8) (m : Int) (hm : m = (mb.toNat : Int)) (w0 w : World) (h : Bld w B b l) (hl : l.length ≤ 100000) (hBw : B ≤ w.heap.size)
    (hr : SRow w0 A n xs) (hb0 : Below w0.heap.size w0 w) (hB0 : w0.heap.size ≤ B) (hc : n ≤ c) (hs : shortB xs = true) :
    Calls Tryd.prog 35 #[.pointer (some ⟨b, 0, none⟩), .slice A n c, .int .u8 m] w fun e w' => e = .returned (.tuple #[]) ∧ Wrote w B b (l ++ rowText mb xs) w' := by
  have hn := hr.1
  have hn40 : n ≤ 40 := by have := ((shortB_iff xs).1 hs).1; omega
  have HN := Lib.hid hn; clear hn
  by_cases h0 : n = 0
  · have HF := Lib.hid (rowText_none (m := mb) (xs := xs) (by rw [HN.out]; exact h0))
    subst h0
    have H := Lib.hid h
    clear h hr hm
    go_enter Tryd.func35, Tryd.ntmps35
    go_wp2
    go_end0
    exact ⟨rfl, by rw [HF.out, List.append_nil]; exact ⟨H.out, Below.refl _ _, Lib.OthersKept.refl _ _ _⟩⟩
  · have HF := Lib.hid (rowText_some (m := mb) (xs := xs) (by rw [HN.out]; exact h0))
    have HJ := Lib.hid (short_joined hs)
    have H := Lib.hid h
    have HR := Lib.hid hr
    have HB0 := Lib.hid hb0
    have HS := Lib.hid hs
    have HM := Lib.hid hm
    have hpos : 0 < n := by omega
    clear h hr hb0 hs h0 hm
    go_enter Tryd.func35, Tryd.ntmps35
    go_wp2_with fail
    refine (writeByte_any B b l mb m HM.out _ H.out (by omega) hBw).mono ?_
    rintro e w1 ⟨rfl, h1, hb1, hk1⟩
    have H1 := Lib.hid h1
    have HB1 := Lib.hid hb1
    have HK1 := Lib.hid hk1
    have HW1 := Lib.hid (HB0.out.trans (hb1.mono hB0))
    have hz1 := hb1.size
    clear h1 hb1 hk1
    go_wp2_with fail
    refine (Ident.text_any _ _ _ xs _ (HR.out.kept HW1.out) hc HS.out).mono ?_
    rintro e w2 ⟨rfl, hb2⟩
    have H2 := Lib.hid (H1.out.kept hb2)
    have HB2 := Lib.hid (HB1.out.trans (hb2.mono (by omega)))
    have HK2 := Lib.hid (HK1.out.trans (others_below (b := some b) hb2))
    have hz2 := hb2.size
    clear hb2
    go_wp2_with fail
    refine (writeString_any B b (l ++ [mb]) (joined xs) _ H2.out (by rw [List.length_append]; simp; omega) (by have := HJ.out; omega) (by omega)).mono ?_
    rintro e w3 ⟨rfl, h3, hb3, hk3⟩
    have H3 := Lib.hid h3
    have HB3 := Lib.hid (HB2.out.trans hb3)
    have HK3 := Lib.hid (HK2.out.trans hk3)
    clear h3 hb3 hk3
    go_wp2
    go_end0
    exact ⟨rfl, by rw [HF.out, ← List.append_assoc]; exact ⟨H3.out, HB3.out, HK3.out⟩⟩
def TextAt (w : World) (v : Ver) (i : Nat) (w' : World) : Prop :=
  (i = 0 ∧ Bld w' (w.heap.size + 1) (w.heap.size + 1) []) ∨ (i = 1 ∧ Bld w' (w.heap.size + 1) (w.heap.size + 1) ([] ++ Lib.decDigits v.a ++ [46])) ∨ (i = 2 ∧ Bld w' (w.heap.size + 1) (w.heap.size + 1) ([] ++ Lib.decDigits v.a ++ [46] ++ Lib.decDigits v.b ++ [46]))
def TextJ (w : World) (v : Ver) (A : Option Addr) (c : Nat) (B : Option Addr) (d : Nat) (a' : Act) (w' : World) : Prop :=
  ∃ (i bc : Nat) (u6 u7 u8 u9 u10 u11 u12 u13 u14 u15 u16 u17 u18 u19 u20 u21 u22 u23 u24 : Value), Below w.heap.size w w' ∧ At5 w' w.heap.size (.int .u64 (v.a : Int)) (.int .u64 (v.b : Int)) (.int .u64 (v.c : Int)) (.slice A v.pre.length c) (.slice B v.build.length d) ∧ w'.heap[bc]? = some (.cells #[.int .u64 (v.a : Int), .int .u64 (v.b : Int), .int .u64 (v.c : Int)] 66) ∧ w.heap.size + 1 < bc ∧ TextAt w v i w' ∧
    a' = { tmps := #[.agg #[.int .u64 (v.a : Int), .int .u64 (v.b : Int), .int .u64 (v.c : Int), .slice A v.pre.length c, .slice B v.build.length d], .pointer (some ⟨w.heap.size, 0, none⟩), .string ⟨#[]⟩, .pointer (some ⟨w.heap.size + 1, 0, none⟩), .pointer (some ⟨bc, 0, none⟩), .int .i64 i, u6, u7, u8, u9, u10, u11, u12, u13, u14, u15, u16, u17, u18, u19, u20, u21, u22, u23, u24], defers := [] }
def TextM (a' : Act) (_ : World) : Nat := 3 - (intOf (a'.tmps.getD 5 undef)).toNat
set_option maxRecDepth 100000 in
set_option maxHeartbeats 3200000 in
theorem vtext_any (v : Ver) (A : Option Addr) (c : Nat) (B : Option Addr) (d : Nat) (w : World) (ha : v.a < 18446744073709551616) (hb : v.b < 18446744073709551616) (hc : v.c < 18446744073709551616)
    (hr1 : SRow w A v.pre.length v.pre) (hr2 : SRow w B v.build.length v.build) (hc1 : v.pre.length ≤ c) (hc2 : v.build.length ≤ d) (hs1 : shortB v.pre = true) (hs2 : shortB v.build = true) (htab : Tab w) :
    Calls Tryd.prog 26 #[.agg #[.int .u64 (v.a : Int), .int .u64 (v.b : Int), .int .u64 (v.c : Int), .slice A v.pre.length c, .slice B v.build.length d]] w fun e w' => e = .returned (.string (mk (vtext v))) ∧ Below w.heap.size w w' := by
  have Ha := Lib.hid ha
  have Hb := Lib.hid hb
  have Hc := Lib.hid hc
  have HDa := Lib.hid (dec_le v.a ha)
  have HDb := Lib.hid (dec_le v.b hb)
  have HDc := Lib.hid (dec_le v.c hc)
  have HR1 := Lib.hid hr1
  have HR2 := Lib.hid hr2
  have HS1 := Lib.hid hs1
  have HS2 := Lib.hid hs2
  have HP1 := Lib.hid (rowText_le (m := 45) hs1)
  have HTab := Lib.hid htab
  clear ha hb hc hr1 hr2 hs1 hs2 htab
  go_enter Tryd.func26, Tryd.ntmps26
  go_wp2
  refine wp_scope_back 0 (TextJ w v A c B d) TextM rfl ?_ ?_
  · rintro a' w0 ⟨i, bc, u6, u7, u8, u9, u10, u11, u12, u13, u14, u15, u16, u17, u18, u19, u20, u21, u22, u23, u24, hbel, h5, hheap, hbc, hat, rfl⟩
    have HB := Lib.hid hbel
    have H5 := Lib.hid h5
    have HC := Lib.hid hheap
    have hz0 := h5.1
    have hzc : bc < w0.heap.size := (Array.getElem?_eq_some_iff.1 hheap).1
    have hx0 : w0.cell? ⟨bc, 0, none⟩ = some (.int .u64 (v.a : Int)) := by rw [Lib.cell_of_heap hheap]; rfl
    have hx1 : w0.cell? ⟨bc, 1, none⟩ = some (.int .u64 (v.b : Int)) := by rw [Lib.cell_of_heap hheap]; rfl
    have hx2 : w0.cell? ⟨bc, 2, none⟩ = some (.int .u64 (v.c : Int)) := by rw [Lib.cell_of_heap hheap]; rfl
    clear hbel h5 hheap
    rcases hat with ⟨rfl, hl⟩ | ⟨rfl, hl⟩ | ⟨rfl, hl⟩
    · have HL := Lib.hid hl; clear hl
      have hlen : ([] : List UInt8).length ≤ 1000 := by simp only [List.length_nil]; omega
      have ht := HTab.out.kept HB.out
      have HT := Lib.hid ht; clear ht
      go_wp2_with fail
      refine (Num.text_any v.a Ha.out _ HT.out).mono ?_
      rintro e w1 ⟨rfl, hb1⟩
      have hz1 := hb1.size
      have L1 := Lib.hid (HL.out.kept hb1)
      have K1 := Lib.hid ((hb1.block bc (Array.getElem?_eq_some_iff.1 HC.out).1).trans HC.out)
      have Q1 := Lib.hid (H5.out.kept hb1 (by omega))
      have B1 := Lib.hid (HB.out.trans (hb1.mono (by omega)))
      clear hb1 HT HL HC H5 hx0 hx1 hx2
      go_wp2_with fail
      refine (writeString_any _ _ _ (Lib.decDigits v.a) _ L1.out (by have := hlen; omega) (by have := HDa.out; omega) (by omega)).mono ?_
      rintro e w2 ⟨rfl, l2, hb2, hk2⟩
      have hz2 := hb2.size
      have L2 := Lib.hid l2
      have K2 := Lib.hid (hk2 _ _ K1.out (by simp; omega) (by intro c fz e; injection e with _ e; exact absurd e (by decide)))
      have Q2 := Lib.hid (Q1.out.kept hb2 (by omega))
      have B2 := Lib.hid (B1.out.trans (hb2.mono (by omega)))
      clear l2 hb2 hk2 L1 K1 Q1 B1
      go_wp2_with fail
      refine (writeByte_any _ _ _ 46 46 rfl _ L2.out (by rw [List.length_append]; have := hlen; have := HDa.out; omega) (by omega)).mono ?_
      rintro e w3 ⟨rfl, l3, hb3, hk3⟩
      have hz3 := hb3.size
      have L3 := Lib.hid l3
      have K3 := Lib.hid (hk3 _ _ K2.out (by simp; omega) (by intro c fz e; injection e with _ e; exact absurd e (by decide)))
      have Q3 := Lib.hid (Q2.out.kept hb3 (by omega))
      have B3 := Lib.hid (B2.out.trans (hb3.mono (by omega)))
      clear l3 hb3 hk3 L2 K2 Q2 B2
      go_wp2
      go_step3
      refine ⟨rfl, ⟨1, bc, _, _, _, _, _, _, _, _, _, _, _, _, _, _, _, _, _, _, _, B3.out, Q3.out, K3.out, hbc, .inr (.inl ⟨rfl, L3.out⟩), rfl⟩, ?_⟩
      simp [TextM, intOf]
    · have HL := Lib.hid hl; clear hl
      have hlen : ([] ++ Lib.decDigits v.a ++ [46] : List UInt8).length ≤ 1000 := by simp only [List.length_append, List.length_singleton, List.length_nil]; have := HDa.out; have := HDb.out; omega
      have ht := HTab.out.kept HB.out
      have HT := Lib.hid ht; clear ht
      go_wp2_with fail
      refine (Num.text_any v.b Hb.out _ HT.out).mono ?_
      rintro e w1 ⟨rfl, hb1⟩
      have hz1 := hb1.size
      have L1 := Lib.hid (HL.out.kept hb1)
      have K1 := Lib.hid ((hb1.block bc (Array.getElem?_eq_some_iff.1 HC.out).1).trans HC.out)
      have Q1 := Lib.hid (H5.out.kept hb1 (by omega))
      have B1 := Lib.hid (HB.out.trans (hb1.mono (by omega)))
      clear hb1 HT HL HC H5 hx0 hx1 hx2
      go_wp2_with fail
      refine (writeString_any _ _ _ (Lib.decDigits v.b) _ L1.out (by have := hlen; omega) (by have := HDb.out; omega) (by omega)).mono ?_
      rintro e w2 ⟨rfl, l2, hb2, hk2⟩
      have hz2 := hb2.size
      have L2 := Lib.hid l2
      have K2 := Lib.hid (hk2 _ _ K1.out (by simp; omega) (by intro c fz e; injection e with _ e; exact absurd e (by decide)))
      have Q2 := Lib.hid (Q1.out.kept hb2 (by omega))
      have B2 := Lib.hid (B1.out.trans (hb2.mono (by omega)))
      clear l2 hb2 hk2 L1 K1 Q1 B1
      go_wp2_with fail
      refine (writeByte_any _ _ _ 46 46 rfl _ L2.out (by rw [List.length_append]; have := hlen; have := HDb.out; omega) (by omega)).mono ?_
      rintro e w3 ⟨rfl, l3, hb3, hk3⟩
      have hz3 := hb3.size
      have L3 := Lib.hid l3
      have K3 := Lib.hid (hk3 _ _ K2.out (by simp; omega) (by intro c fz e; injection e with _ e; exact absurd e (by decide)))
      have Q3 := Lib.hid (Q2.out.kept hb3 (by omega))
      have B3 := Lib.hid (B2.out.trans (hb3.mono (by omega)))
      clear l3 hb3 hk3 L2 K2 Q2 B2
      go_wp2
      go_step3
      refine ⟨rfl, ⟨2, bc, _, _, _, _, _, _, _, _, _, _, _, _, _, _, _, _, _, _, _, B3.out, Q3.out, K3.out, hbc, .inr (.inr ⟨rfl, L3.out⟩), rfl⟩, ?_⟩
      simp [TextM, intOf]
    · have HL := Lib.hid hl; clear hl
      have hlen : ([] ++ Lib.decDigits v.a ++ [46] ++ Lib.decDigits v.b ++ [46] : List UInt8).length ≤ 1000 := by simp only [List.length_append, List.length_singleton, List.length_nil]; have := HDa.out; have := HDb.out; omega
      have ht := HTab.out.kept HB.out
      have HT := Lib.hid ht; clear ht
      go_wp2_with fail
      refine (Num.text_any v.c Hc.out _ HT.out).mono ?_
      rintro e w1 ⟨rfl, hb1⟩
      have hz1 := hb1.size
      have L1 := Lib.hid (HL.out.kept hb1)
      have K1 := Lib.hid ((hb1.block bc (Array.getElem?_eq_some_iff.1 HC.out).1).trans HC.out)
      have Q1 := Lib.hid (H5.out.kept hb1 (by omega))
      have B1 := Lib.hid (HB.out.trans (hb1.mono (by omega)))
      clear hb1 HT HL HC H5 hx0 hx1 hx2
      go_wp2_with fail
      refine (writeString_any _ _ _ (Lib.decDigits v.c) _ L1.out (by have := hlen; omega) (by have := HDc.out; omega) (by omega)).mono ?_
      rintro e w2 ⟨rfl, l2, hb2, hk2⟩
      have hz2 := hb2.size
      have L2 := Lib.hid l2
      have K2 := Lib.hid (hk2 _ _ K1.out (by simp; omega) (by intro c fz e; injection e with _ e; exact absurd e (by decide)))
      have Q2 := Lib.hid (Q1.out.kept hb2 (by omega))
      have B2 := Lib.hid (B1.out.trans (hb2.mono (by omega)))
      clear l2 hb2 hk2 L1 K1 Q1 B1
      obtain ⟨_, _, g0, g1, g2, g3, g4⟩ := Q2.out
      have hlen2 : ([] ++ Lib.decDigits v.a ++ [46] ++ Lib.decDigits v.b ++ [46] ++ Lib.decDigits v.c).length ≤ 1000 := by simp only [List.length_append, List.length_singleton, List.length_nil]; have := HDa.out; have := HDb.out; have := HDc.out; omega
      go_wp2_with fail
      refine (writeRow_any _ _ _ A v.pre.length c v.pre 45 45 rfl w _ L2.out (by omega) (by omega) HR1.out B2.out (by omega) hc1 HS1.out).mono ?_
      rintro e w3 ⟨rfl, l3, hb3, hk3⟩
      have hz3 := hb3.size
      have L3 := Lib.hid l3
      have Q3 := Lib.hid (Q2.out.kept hb3 (by omega))
      have B3 := Lib.hid (B2.out.trans (hb3.mono (by omega)))
      clear l3 hb3 hk3 L2 K2 Q2 B2 g0 g1 g2 g3 g4
      obtain ⟨_, _, g0, g1, g2, g3, g4⟩ := Q3.out
      have hlen3 : ([] ++ Lib.decDigits v.a ++ [46] ++ Lib.decDigits v.b ++ [46] ++ Lib.decDigits v.c ++ rowText 45 v.pre).length ≤ 20000 := by rw [List.length_append]; have := HP1.out; omega
      go_wp2_with fail
      refine (writeRow_any _ _ _ B v.build.length d v.build 43 43 rfl w _ L3.out (by omega) (by omega) HR2.out B3.out (by omega) hc2 HS2.out).mono ?_
      rintro e w4 ⟨rfl, l4, hb4, hk4⟩
      have hz4 := hb4.size
      have L4 := Lib.hid l4
      have B4 := Lib.hid (B3.out.trans (hb4.mono (by omega)))
      clear l4 hb4 hk4 L3 Q3 B3 g0 g1 g2 g3 g4 hlen hlen2 hlen3
      have HTX : Hid ([] ++ Lib.decDigits v.a ++ [46] ++ Lib.decDigits v.b ++ [46] ++ Lib.decDigits v.c ++ rowText 45 v.pre ++ rowText 43 v.build = vtext v) := by unfold Hid vtext; rw [List.nil_append]
      generalize [] ++ Lib.decDigits v.a ++ [46] ++ Lib.decDigits v.b ++ [46] ++ Lib.decDigits v.c ++ rowText 45 v.pre ++ rowText 43 v.build = tx at L4 HTX
      go_wp2_with fail
      refine (Tryd.builderString _ _ _ _ L4.out (by omega)).mono ?_
      rintro e w5 ⟨rfl, _, hb5, _⟩
      have B5 := Lib.hid (B4.out.trans (hb5.mono (by omega)))
      clear hb5
      go_wp2
      simp only [Exit.jump]
      go_ret
      exact ⟨by rw [← HTX.out]; rfl, B5.out⟩
  · intro HP
    have H5 := Lib.hid (At5.new w 26 (.int .u64 (v.a : Int)) (.int .u64 (v.b : Int)) (.int .u64 (v.c : Int)) (.slice A v.pre.length c) (.slice B v.build.length d))
    have HN := Bld.new (w.alloc (.cells #[.int .u64 (v.a : Int), .int .u64 (v.b : Int), .int .u64 (v.c : Int), .slice A v.pre.length c, .slice B v.build.length d] 26)) (w.heap.size + 1) (by simp)
    rw [size_alloc] at HN
    have HBN := Lib.hid HN; clear HN
    go_wp2_with fail
    refine (coreOf_any _ _ _ _ _ _).mono ?_
    rintro e w1 ⟨rfl, hb1⟩
    have hz1 : w.heap.size + 2 ≤ w1.heap.size := by have := hb1.size; simpa using this
    have HBa : Hid (Below w.heap.size w ((w.alloc (.cells #[.int .u64 (v.a : Int), .int .u64 (v.b : Int), .int .u64 (v.c : Int), .slice A v.pre.length c, .slice B v.build.length d] 26)).alloc (.cells #[.pointer none, .slice none 0 0] 45))) := ((Below.refl _ _).alloc (Nat.le_refl _) _).alloc (by simp) _
    have HBb := Lib.hid (HBa.out.trans (hb1.mono (by simp; omega)))
    have H5b := Lib.hid ((H5.out.kept ((Below.refl _ _).alloc (Nat.le_refl _) (.cells #[.pointer none, .slice none 0 0] 45)) (by simp)).kept hb1 (by simp; omega))
    have HLb := Lib.hid (HBN.out.kept hb1)
    have HBc := Lib.hid ((Below.refl w1.heap.size w1).alloc (Nat.le_refl _) (.cells #[.int .u64 (v.a : Int), .int .u64 (v.b : Int), .int .u64 (v.c : Int)] 66))
    have HBd := Lib.hid (HBb.out.trans (HBc.out.mono (by omega)))
    have H5d := Lib.hid (H5b.out.kept HBc.out (by omega))
    have HLd := Lib.hid (HLb.out.kept HBc.out)
    have HCd : Hid ((w1.alloc (.cells #[.int .u64 (v.a : Int), .int .u64 (v.b : Int), .int .u64 (v.c : Int)] 66)).heap[w1.heap.size]? = some (.cells #[.int .u64 (v.a : Int), .int .u64 (v.b : Int), .int .u64 (v.c : Int)] 66)) := by
      show (w1.heap.push _)[w1.heap.size]? = _
      simp
    clear hb1 H5 HBN HBa HBb H5b HLb HBc
    go_wp2
    go_step3
    rename_i hK
    exact hK _ _ (HP.out _ _ ⟨0, w1.heap.size, _, _, _, _, _, _, _, _, _, _, _, _, _, _, _, _, _, _, _, HBd.out, H5d.out, HCd.out, by omega, .inl ⟨rfl, HLd.out⟩, rfl⟩)
end Go.Proofs.YtolkcblkciafiaaDoor.Semver
