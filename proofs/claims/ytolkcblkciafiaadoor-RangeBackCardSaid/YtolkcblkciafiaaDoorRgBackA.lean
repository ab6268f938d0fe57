/-
  Parts read one by one as long as a further one is there (rangeexpr.several), at what reads them in a reader. Conditions: the reader's block holds its bytes (at most 100000) and a place within them; the table of ops reads as it is written; a part takes a byte at least. (Made by wip/gen_rgsev.py.)
  Parts read one by one as long as a further one is there (rangeexpr.several), at what reads them in a reader. Conditions: the reader's block holds its bytes (at most 100000) and a place within them; the table of ops reads as it is written; a part takes a byte at least. (Made by wip/gen_rgsev.py.)
  A reader's every and expr (rangeexpr.reader: every, expr), if its one does as told. Conditions: the reader's block holds its bytes (at most 100000) and a place within them; the table of ops reads as it is written. (Made by wip/gen_rgone.py.)
  A reader's brackets and signs of not (rangeexpr.reader: inside, bracket, not), if what reads what stands in them does as told. Conditions: the reader's block holds its bytes and a place within them; the table of ops reads as it is written; the mark stands next. (Made by wip/gen_rgone.py.)
  A reader's one, and all of the reader by how much deeper its ones may stand (rangeexpr.reader.one). Conditions: the reader's block holds its bytes (at most 100000) and a place within them; the table of ops reads as it is written. (Made by wip/gen_rgtop.py.)
  Ranges read from any bytes at any place (rangeexpr.Parse), and from any text (rangeexpr.Read). Conditions: the slice reads as the list of bytes l, of at most 100000; the table of ops reads as it is written. (Made by wip/gen_rgtop.py.)
  The statements' own look at the document's examples (ferrulelaw06.awake) answers true and writes nothing that was there. Condition: the table of ops reads as it is written. (Made by wip/gen_rgawake.py.)
  A version that stands ahead of a byte that is none of a version's is read as if nothing stood behind it. Plain lists; no condition.
  A right range's text is read as the range. Plain lists; no condition.
  Blanks around an expression, and brackets around it, change no range; how deep brackets and signs of not may stand. Plain lists; no condition.
  How many ranges a range is; so many at most that its text's bytes bound it, where it is right. A goto back whose measure is the datum's, not the frame's. Plain; no condition.
  What rangeexpr.Same's list holds: pairs of slices that read as the same ranges.
  rangeexpr.Same says yes of two ranges that read the same. Conditions: both read as the same range, which has at most 4000000 ranges. (Made by wip/gen_rgsame.py.)
-/
import Derived.Test.YtolkcblkciafiaaDoorRgSev
import Derived.Test.YtolkcblkciafiaaDoorRgBack
import Derived.Test.YtolkcblkciafiaaDoorSvFore
import Derived.Test.YtolkcblkciafiaaDoorNumMem
import Derived.WalkSmall
import Derived.Laws.OwnMore
import Derived.Test.YtolkcblkciafiaaDoorSvSame
import Derived.StillTailTactics
import Derived.Deep.CutBlock
import Derived.Deep.DeepCutAuto
import Derived.Deep.RegionHeld3
namespace Go.Proofs.YtolkcblkciafiaaDoor.Range
open Go.RowKit Num Ident Semver

def SevJE (w : World) (b : Nat) (A : Option Addr) (n c : Nat) (l : List UInt8) (kind deep : Int) (pf : List UInt8 → Out) (fur : List UInt8 → Option (List UInt8)) (tot : Out) (a' : Act) (W : World) : Prop :=
  ∃ (acc : List Rng) (xs : List RV) (q : Nat) (t : List UInt8) (k : Nat) (v : Value) (u11 u12 u13 u14 u15 u16 u17 u18 u19 u20 u21 u22 u23 u24 u25 u26 u27 u28 u29 u30 u31 u32 u33 u34 u35 : Value), Rd W b A n c q ∧ Pl l q t ∧ Moved b w W ∧ RAt W w.heap.size (zeroRV 0) ∧ OwnRg W (w.heap.size + 1) v acc xs ∧ acc.length + t.length ≤ l.length ∧ t.length < k ∧ sev pf fur kind k acc t = tot ∧
    a' = { tmps := #[.int .i64 kind, .int .i64 deep, .func (.func 30) #[.pointer (some ⟨b, 0, none⟩)] #[], .func (.func 31) #[.pointer (some ⟨b, 0, none⟩)] #[], undef, undef, undef, undef, .pointer (some ⟨w.heap.size, 0, none⟩), .int .i64 0, v, u11, u12, u13, u14, u15, u16, u17, u18, u19, u20, u21, u22, u23, u24, u25, u26, u27, u28, u29, u30, u31, u32, u33, u34, u35], defers := [] }
set_option maxRecDepth 100000 in
set_option maxHeartbeats 6400000 in
theorem severalE (b : Nat) (A : Option Addr) (n c p : Nat) (l s : List UInt8) (kind deep : Int) (pf : List UInt8 → Out) (fur : List UInt8 → Option (List UInt8)) (w : World) (hR : Rd w b A n c p) (hr : Row w A n l) (hn : n ≤ 100000) (hs : Pl l p s) (ht : OpsTab w) (hpr : Prog pf) (hfa : Falls fur) (hpc : ∀ s, Piece (pf s).2.1 s)
    (hp : ∀ W q t, Rd W b A n c q → Row W A n l → OpsTab W → Pl l q t → Calls Tryd.prog 30 #[.pointer (some ⟨b, 0, none⟩), .int .i64 deep] W (RgPost b A n c l W (pf t)))
    (hf : ∀ W q t, Rd W b A n c q → Row W A n l → Pl l q t → Calls Tryd.prog 31 #[.pointer (some ⟨b, 0, none⟩)] W (FurPost b A n c q l W (fur t))) :
    Calls Tryd.prog 29 #[.int .i64 kind, .int .i64 deep, .func (.func 30) #[.pointer (some ⟨b, 0, none⟩)] #[], .func (.func 31) #[.pointer (some ⟨b, 0, none⟩)] #[]] w (RgPost b A n c l w (sev pf fur kind (s.length + 1) [] s)) := by
  have hbw := hR.lt
  have HP := Lib.hid hs
  have HL := Lib.hid hr.1
  have HR := Lib.hid hR
  have HRow := Lib.hid hr
  have HT := Lib.hid ht
  have HPR := Lib.hid hpr
  have HFA := Lib.hid hfa
  have HPC := Lib.hid hpc
  have HPF := Lib.hid hp
  have HFU := Lib.hid hf
  have H7 : Hid (RAt (w.alloc (.cells #[.int .i64 0, .int .u64 0, .int .u64 0, .int .u64 0, .slice none 0 0, .slice none 0 0, .slice none 0 0] 29)) w.heap.size (zeroRV 0)) := RAt.new w 29 (zeroRV 0)
  have HM : Hid (Moved b w (w.alloc (.cells #[.int .i64 0, .int .u64 0, .int .u64 0, .int .u64 0, .slice none 0 0, .slice none 0 0, .slice none 0 0] 29))) := (Moved.refl b w).alloc hbw _
  have hne : w.heap.size ≠ b := by omega
  clear hR hr hs ht hpr hfa hpc hp hf
  obtain ⟨tot, htot⟩ : ∃ tot, sev pf fur kind (s.length + 1) [] s = tot := ⟨_, rfl⟩
  rw [htot]
  have HTot := Lib.hid htot
  clear htot
  go_enter Tryd.func29, Tryd.ntmps29
  go_wp2
  refine wp_scope_back 0 (SevJE w b A n c l kind deep pf fur tot) (PsM b n) rfl ?_ ?_
  · rintro a' W ⟨acc, xs, q, t, k, v, u11, u12, u13, u14, u15, u16, u17, u18, u19, u20, u21, u22, u23, u24, u25, u26, u27, u28, u29, u30, u31, u32, u33, u34, u35, hR1, hP1, hM1, h71, hO1, hlen, hk, htot, rfl⟩
    have HK1 := Lib.hid (HR.out.keep hM1)
    have HRow1 := Lib.hid (row_keep HRow.out HK1.out)
    have HT1 := Lib.hid (HT.out.keep HK1.out)
    have HR1 := Lib.hid hR1
    have HP1 := Lib.hid hP1
    have HM1 := Lib.hid hM1
    have H71 := Lib.hid h71
    have HO1 := Lib.hid hO1
    have HTo := Lib.hid htot
    have hz1 : w.heap.size < W.heap.size := h71.1
    obtain ⟨k, rfl⟩ : ∃ j, k = j + 1 := ⟨k - 1, by omega⟩
    have HRq := Lib.hid HR1.out
    clear hR1 hP1 hM1 h71 hO1 htot
    go_wp2_with fail
    refine (HPF.out W q t HR1.out HRow1.out HT1.out HP1.out).mono ?_
    rintro e W1 ⟨x, q1, rfl, hx, hP2, hR2, hM2⟩
    unfold RV.agg
    obtain ⟨⟨f, s1, r⟩, hpt⟩ : ∃ y, pf t = y := ⟨_, rfl⟩
    have HB := Lib.hid (sev_bad (pf := pf) (ff := fur) (kind := kind) (n := k) (acc := acc) (s := t))
    have HO_ := Lib.hid (fun s' => sev_on (pf := pf) (ff := fur) (kind := kind) (n := k) (acc := acc) (s := t) (s' := s'))
    have HE := Lib.hid (sev_end (pf := pf) (ff := fur) (kind := kind) (n := k) (acc := acc) (s := t))
    have HG := Lib.hid (HPR.out t)
    have HPc := Lib.hid (HPC.out t)
    rw [hpt] at hx hP2 HB HO_ HE HG HPc ⊢
    simp only at hx hP2 HB HO_ HE HG HPc ⊢
    clear hpt
    have HX1 : Hid (Lies W1 (From (w.heap.size + 1)) r x) := hx.from_ hz1
    have HXW : Hid (Lies W1 (From W.heap.size) r x) := hx
    have HP2 := Lib.hid hP2
    have HR2 := Lib.hid hR2
    have HM2 := Lib.hid (HM1.out.trans hM2)
    have H72 := Lib.hid (H71.out.moved hM2 hne)
    have HO2 := Lib.hid (HO1.out.moved hM2 (by omega))
    have HOwn := Lib.hid (fun g h => (HO1.out.own.lt g h).2)
    have hz2 : w.heap.size < W1.heap.size := H72.out.1
    have hzW : W.heap.size ≤ W1.heap.size := hM2.size
    have HRow2 := Lib.hid (row_keep HRow.out (HR.out.keep HM2.out))
    clear hx hP2 hR2 hM2 HR1 HM1 H71 HO1 HRow1 HT1
    by_cases h0 : f = 0
    · subst h0
      have hr3 : Hid (Rd (W1.alloc (.cells #[.int .i64 x.kind, .int .u64 (x.v.a : Int), .int .u64 (x.v.b : Int), .int .u64 (x.v.c : Int), .slice x.A x.v.pre.length x.c, .slice x.B x.v.build.length x.d, .slice x.L x.n x.e] 29)) b A n c q1) := HR2.out.alloc _
      have hm3 : Hid (Moved b w (W1.alloc (.cells #[.int .i64 x.kind, .int .u64 (x.v.a : Int), .int .u64 (x.v.b : Int), .int .u64 (x.v.c : Int), .slice x.A x.v.pre.length x.c, .slice x.B x.v.build.length x.d, .slice x.L x.n x.e] 29))) := HM2.out.alloc hbw _
      have h73 : Hid (RAt (W1.alloc (.cells #[.int .i64 x.kind, .int .u64 (x.v.a : Int), .int .u64 (x.v.b : Int), .int .u64 (x.v.c : Int), .slice x.A x.v.pre.length x.c, .slice x.B x.v.build.length x.d, .slice x.L x.n x.e] 29)) w.heap.size (zeroRV 0)) := H72.out.kept ((Below.refl W1.heap.size W1).alloc (Nat.le_refl _) _) hz2
      have ho3 : Hid (OwnRg (W1.alloc (.cells #[.int .i64 x.kind, .int .u64 (x.v.a : Int), .int .u64 (x.v.b : Int), .int .u64 (x.v.c : Int), .slice x.A x.v.pre.length x.c, .slice x.B x.v.build.length x.d, .slice x.L x.n x.e] 29)) (w.heap.size + 1) v acc xs) := HO2.out.kept ((Below.refl _ _).alloc (Nat.le_refl _) _)
      have hx3 : Hid (Lies (W1.alloc (.cells #[.int .i64 x.kind, .int .u64 (x.v.a : Int), .int .u64 (x.v.b : Int), .int .u64 (x.v.c : Int), .slice x.A x.v.pre.length x.c, .slice x.B x.v.build.length x.d, .slice x.L x.n x.e] 29)) (From W.heap.size) r x) := HXW.out.keep (KeepS.alloc _ _)
      have ha3 : Hid (RAt (W1.alloc (.cells #[.int .i64 x.kind, .int .u64 (x.v.a : Int), .int .u64 (x.v.b : Int), .int .u64 (x.v.c : Int), .slice x.A x.v.pre.length x.c, .slice x.B x.v.build.length x.d, .slice x.L x.n x.e] 29)) W1.heap.size x) := RAt.new W1 29 x
      have hw3 : Hid (Row (W1.alloc (.cells #[.int .i64 x.kind, .int .u64 (x.v.a : Int), .int .u64 (x.v.b : Int), .int .u64 (x.v.c : Int), .slice x.A x.v.pre.length x.c, .slice x.B x.v.build.length x.d, .slice x.L x.n x.e] 29)) A n l) := HRow2.out.kept ((Below.refl _ _).alloc (Nat.le_refl _) _)
      have hacc : (acc.length + 1) * 104 ≤ 140737488355328 := by rw [HL.out] at hlen; omega
      clear HR2 HM2 H72 HO2 HRow2 HX1 HXW
      obtain ⟨g1, g2, d0, d1, d2, d3, d4, d5, d6⟩ := ha3.out
      go_wp2_with (first
        | (at_builtin
           have ho4 : Hid (OwnRg ((W1.alloc (.cells #[.int .i64 x.kind, .int .u64 (x.v.a : Int), .int .u64 (x.v.b : Int), .int .u64 (x.v.c : Int), .slice x.A x.v.pre.length x.c, .slice x.B x.v.build.length x.d, .slice x.L x.n x.e] 29)).alloc (.cells #[.int .i64 x.kind, .int .u64 (x.v.a : Int), .int .u64 (x.v.b : Int), .int .u64 (x.v.c : Int), .slice x.A x.v.pre.length x.c, .slice x.B x.v.build.length x.d, .slice x.L x.n x.e] 29)) (w.heap.size + 1) v acc xs) := ho3.out.kept ((Below.refl _ _).alloc (Nat.le_refl _) _)
           refine wpList_append_rg _ rfl _ _ rfl (w.heap.size + 1) v acc.length xs rfl ho4.out.own ⟨W1.heap.size + 1, 0, none⟩ x rfl (fun j u hu => by have := news_new (W1.alloc (.cells #[.int .i64 x.kind, .int .u64 (x.v.a : Int), .int .u64 (x.v.b : Int), .int .u64 (x.v.c : Int), .slice x.A x.v.pre.length x.c, .slice x.B x.v.build.length x.d, .slice x.L x.n x.e] 29)) x.vals 29 j u hu; rw [size_alloc] at this; exact this) hacc (by simp; omega) ?_
           intro v' W4 hown hgr hat
           have hR4 : Hid (Rd W4 b A n c q1) := (hr3.out.alloc _).grown hgr (by simp; intro e; have := (ho4.out.own.lt b e.symm).1; omega)
           have hM4 : Hid (Moved b w W4) := (hm3.out.alloc hbw _).grown hgr hbw (fun g e => Nat.le_of_succ_le (ho4.out.own.lt g e).1)
           have h74 : Hid (RAt W4 w.heap.size (zeroRV 0)) := (h73.out.kept ((Below.refl _ _).alloc (Nat.le_refl _) _) (by simp; omega)).grown hgr (by intro e; have := (ho4.out.own.lt _ e.symm).1; omega)
           have hA4 : Hid (RAt W4 W1.heap.size x) := (ha3.out.kept ((Below.refl _ _).alloc (Nat.le_refl _) _) (by simp)).grown hgr (by intro e; have := HOwn.out _ e.symm; omega)
           have hO4 : Hid (OwnRg W4 (w.heap.size + 1) v' (acc ++ [r]) (xs ++ [x])) := ho4.out.more hown hgr hat (hx3.out.keep (KeepS.alloc _ _)) hz1 HOwn.out
           have hW4 : Hid (Row W4 A n l) := row_keep HRow.out (HR.out.keep hM4.out)
           have hX4 : Hid (Lies W4 (From (w.heap.size + 1)) r x) := by
             have h1 : Lies ((W1.alloc (.cells #[.int .i64 x.kind, .int .u64 (x.v.a : Int), .int .u64 (x.v.b : Int), .int .u64 (x.v.c : Int), .slice x.A x.v.pre.length x.c, .slice x.B x.v.build.length x.d, .slice x.L x.n x.e] 29)).alloc (.cells #[.int .i64 x.kind, .int .u64 (x.v.a : Int), .int .u64 (x.v.b : Int), .int .u64 (x.v.c : Int), .slice x.A x.v.pre.length x.c, .slice x.B x.v.build.length x.d, .slice x.L x.n x.e] 29)) (fun g => From (w.heap.size + 1) g ∧ some g ≠ v.ownBlock) r x := (hx3.out.keep (KeepS.alloc _ _)).mono fun g hS _ => ⟨Nat.le_trans hz1 hS, fun e => by have := HOwn.out _ e.symm; unfold From at hS; omega⟩
             exact (h1.keep (KeepS.grown hgr fun g hS => hS.2)).mono fun g hS _ => hS.1
           clear hown hgr hat)
        | fail)
      clear g1 g2 d0 d1 d2 d3 d4 d5 d6 hr3 hm3 h73 ho3 hx3 ha3 hw3
      refine (HFU.out W4 q1 s1 hR4.out hW4.out HP2.out).mono ?_
      rintro e W5 ⟨hM5, hfp⟩
      have HM5 := Lib.hid (hM4.out.trans hM5)
      have H75 := Lib.hid (h74.out.moved hM5 hne)
      have HA5 := Lib.hid (hA4.out.moved hM5 (by omega))
      have HO5 := Lib.hid (hO4.out.moved hM5 (by omega))
      have HX5 : Hid (Lies W5 (From (w.heap.size + 1)) r x) := hX4.out.keep (KeepS.moved hM5 (fun h => by unfold From at h; omega))
      clear hM5 hR4 hM4 h74 hA4 hO4 hW4 hX4
      have hprog := HG.out (by first | rfl | trivial)
      cases hfu : fur s1 with
      | some s2 =>
        rw [hfu] at hfp
        obtain ⟨rfl, q2, hp5, hr5⟩ := hfp
        have HTo2 : Hid (sev pf fur kind k (acc ++ [r]) s2 = tot) := by
          have := HO_.out s2 (by first | rfl | trivial) hfu
          exact this.symm.trans HTo.out
        have hl2 := HFA.out s1 s2 hfu
        have HR5 := Lib.hid hr5
        have HP5 := Lib.hid hp5
        clear hr5 hp5 hfu
        go_wp2
        go_step3
        refine ⟨rfl, ⟨acc ++ [r], xs ++ [x], q2, s2, k, v', _, _, _, _, _, _, _, _, _, _, _, _, _, _, _, _, _, _, _, _, _, _, _, _, _, HR5.out, HP5.out, HM5.out, H75.out, HO5.out, by rw [List.length_append, List.length_singleton]; omega, by omega, HTo2.out, rfl⟩, ?_⟩
        have e1 := HP1.out.len
        have e2 := HP5.out.len
        have e3 := HP1.out.le
        have e4 := HP5.out.le
        exact psM_less HR5.out HRq.out (by rw [HL.out] at e1 e2 e3 e4; omega)
      | none =>
        rw [hfu] at hfp
        obtain ⟨rfl, hr5⟩ := hfp
        have HTo2 : Hid (tot = (0, s1, whole kind acc r)) := by
          have := HE.out (by first | rfl | trivial) hfu
          exact HTo.out.symm.trans this
        have HR5 := Lib.hid hr5
        clear hr5 hfu
        obtain ⟨L, e, rfl, he, hnil, hrow⟩ := HO5.out.row
        have HRw := Lib.hid hrow
        clear hrow HO5
        obtain ⟨y1, y2, c0, c1, c2, c3, c4, c5, c6⟩ := H75.out
        obtain ⟨g1, g2, d0, d1, d2, d3, d4, d5, d6⟩ := HA5.out
        have hw1 : W1.heap.size ≠ w.heap.size := by omega
        by_cases hac : acc = []
        · subst hac
          have HTo3 : Hid (tot = (0, s1, r)) := HTo2.out
          go_wp2
          simp only [Exit.jump]
          exact bodyPost_ret (v := .tuple #[.agg #[.int .i64 x.kind, .int .u64 (x.v.a : Int), .int .u64 (x.v.b : Int), .int .u64 (x.v.c : Int), .slice x.A x.v.pre.length x.c, .slice x.B x.v.build.length x.d, .slice x.L x.n x.e], .int .i64 0]) (by simp [results, Tryd.results29, go_sem, c0, c1, c2, c3, c4, c5, c6]) rfl (by rw [HTo3.out]; exact rg_end (x := x) hbw HX5.out HP2.out HR5.out HM5.out)
        · have hl2 : (acc ++ [r]).length ≠ 1 := by
            cases acc with
            | nil => exact absurd rfl hac
            | cons => simp
          have HTo3 : Hid (tot = (0, s1, .mk kind noVer (acc ++ [r]))) := by have := HTo2.out; unfold whole at this; rw [if_neg hac] at this; exact this
          generalize acc ++ [r] = al at hl2 he HRw HTo3 ⊢
          have hb1 : ((al.length : Int) == 1) = false := by simp; omega
          go_wp2
          simp only [Exit.jump]
          exact bodyPost_ret (v := .tuple #[.agg #[.int .i64 kind, .int .u64 0, .int .u64 0, .int .u64 0, .slice none 0 0, .slice none 0 0, .slice L al.length e], .int .i64 0]) (by simp [results, Tryd.results29, go_sem, c0, c1, c2, c3, c4, c5, c6]) rfl (by rw [HTo3.out]; exact rg_end (x := ⟨kind, noVer, none, 0, none, 0, L, al.length, e⟩) hbw (Lies.many kind HRw.out he hnil) HP2.out HR5.out HM5.out)
    · have HTo2 : Hid (tot = (f, s1, noRng)) := HTo.out.symm.trans (HB.out h0)
      have hb1 : ((f : Int) != 0) = true := by simp [h0]
      have hb2 : ((f : Int) == 0) = false := by simp [h0]
      clear h0 HB HO_ HE
      obtain ⟨y1, y2, c0, c1, c2, c3, c4, c5, c6⟩ := H72.out
      have hw1 : W1.heap.size ≠ w.heap.size := by omega
      go_wp2
      simp only [Exit.jump]
      exact bodyPost_ret (v := .tuple #[.agg #[.int .i64 0, .int .u64 0, .int .u64 0, .int .u64 0, .slice none 0 0, .slice none 0 0, .slice none 0 0], .int .i64 (f : Int)]) (by simp [results, Tryd.results29, go_sem, c0, c1, c2, c3, c4, c5, c6, y1]) rfl (by rw [HTo2.out]; exact (rg_end (x := zeroRV 0) hbw (Lies.zero _ _ 0) HP2.out HR2.out HM2.out).alloc hbw _)
  · intro HK
    go_wp2
    go_step3
    rename_i hK
    exact hK _ _ (HK.out _ _ ⟨[], [], p, s, s.length + 1, .slice none 0 0, _, _, _, _, _, _, _, _, _, _, _, _, _, _, _, _, _, _, _, _, _, _, _, _, _, HR.out.alloc _, HP.out, HM.out, H7.out, OwnRg.nil _ _, by have := HP.out.len; have h2 := HP.out.le; simp; omega, Nat.lt_succ_self _, HTot.out, rfl⟩)
end Go.Proofs.YtolkcblkciafiaaDoor.Range

namespace Go.Proofs.YtolkcblkciafiaaDoor.Range
open Go.RowKit Num Ident Semver

def SevJO (w : World) (b : Nat) (A : Option Addr) (n c : Nat) (l : List UInt8) (kind deep : Int) (pf : List UInt8 → Out) (fur : List UInt8 → Option (List UInt8)) (tot : Out) (a' : Act) (W : World) : Prop :=
  ∃ (acc : List Rng) (xs : List RV) (q : Nat) (t : List UInt8) (k : Nat) (v : Value) (u11 u12 u13 u14 u15 u16 u17 u18 u19 u20 u21 u22 u23 u24 u25 u26 u27 u28 u29 u30 u31 u32 u33 u34 u35 : Value), Rd W b A n c q ∧ Pl l q t ∧ Moved b w W ∧ RAt W w.heap.size (zeroRV 0) ∧ OwnRg W (w.heap.size + 1) v acc xs ∧ acc.length + t.length ≤ l.length ∧ t.length < k ∧ sev pf fur kind k acc t = tot ∧
    a' = { tmps := #[.int .i64 kind, .int .i64 deep, .func (.func 37) #[.pointer (some ⟨b, 0, none⟩)] #[], .func (.func 38) #[.pointer (some ⟨b, 0, none⟩)] #[], undef, undef, undef, undef, .pointer (some ⟨w.heap.size, 0, none⟩), .int .i64 0, v, u11, u12, u13, u14, u15, u16, u17, u18, u19, u20, u21, u22, u23, u24, u25, u26, u27, u28, u29, u30, u31, u32, u33, u34, u35], defers := [] }
set_option maxRecDepth 100000 in
set_option maxHeartbeats 6400000 in
theorem severalO (b : Nat) (A : Option Addr) (n c p : Nat) (l s : List UInt8) (kind deep : Int) (pf : List UInt8 → Out) (fur : List UInt8 → Option (List UInt8)) (w : World) (hR : Rd w b A n c p) (hr : Row w A n l) (hn : n ≤ 100000) (hs : Pl l p s) (ht : OpsTab w) (hpr : Prog pf) (hfa : Falls fur) (hpc : ∀ s, Piece (pf s).2.1 s)
    (hp : ∀ W q t, Rd W b A n c q → Row W A n l → OpsTab W → Pl l q t → Calls Tryd.prog 37 #[.pointer (some ⟨b, 0, none⟩), .int .i64 deep] W (RgPost b A n c l W (pf t)))
    (hf : ∀ W q t, Rd W b A n c q → Row W A n l → Pl l q t → Calls Tryd.prog 38 #[.pointer (some ⟨b, 0, none⟩)] W (FurPost b A n c q l W (fur t))) :
    Calls Tryd.prog 29 #[.int .i64 kind, .int .i64 deep, .func (.func 37) #[.pointer (some ⟨b, 0, none⟩)] #[], .func (.func 38) #[.pointer (some ⟨b, 0, none⟩)] #[]] w (RgPost b A n c l w (sev pf fur kind (s.length + 1) [] s)) := by
  have hbw := hR.lt
  have HP := Lib.hid hs
  have HL := Lib.hid hr.1
  have HR := Lib.hid hR
  have HRow := Lib.hid hr
  have HT := Lib.hid ht
  have HPR := Lib.hid hpr
  have HFA := Lib.hid hfa
  have HPC := Lib.hid hpc
  have HPF := Lib.hid hp
  have HFU := Lib.hid hf
  have H7 : Hid (RAt (w.alloc (.cells #[.int .i64 0, .int .u64 0, .int .u64 0, .int .u64 0, .slice none 0 0, .slice none 0 0, .slice none 0 0] 29)) w.heap.size (zeroRV 0)) := RAt.new w 29 (zeroRV 0)
  have HM : Hid (Moved b w (w.alloc (.cells #[.int .i64 0, .int .u64 0, .int .u64 0, .int .u64 0, .slice none 0 0, .slice none 0 0, .slice none 0 0] 29))) := (Moved.refl b w).alloc hbw _
  have hne : w.heap.size ≠ b := by omega
  clear hR hr hs ht hpr hfa hpc hp hf
  obtain ⟨tot, htot⟩ : ∃ tot, sev pf fur kind (s.length + 1) [] s = tot := ⟨_, rfl⟩
  rw [htot]
  have HTot := Lib.hid htot
  clear htot
  go_enter Tryd.func29, Tryd.ntmps29
  go_wp2
  refine wp_scope_back 0 (SevJO w b A n c l kind deep pf fur tot) (PsM b n) rfl ?_ ?_
  · rintro a' W ⟨acc, xs, q, t, k, v, u11, u12, u13, u14, u15, u16, u17, u18, u19, u20, u21, u22, u23, u24, u25, u26, u27, u28, u29, u30, u31, u32, u33, u34, u35, hR1, hP1, hM1, h71, hO1, hlen, hk, htot, rfl⟩
    have HK1 := Lib.hid (HR.out.keep hM1)
    have HRow1 := Lib.hid (row_keep HRow.out HK1.out)
    have HT1 := Lib.hid (HT.out.keep HK1.out)
    have HR1 := Lib.hid hR1
    have HP1 := Lib.hid hP1
    have HM1 := Lib.hid hM1
    have H71 := Lib.hid h71
    have HO1 := Lib.hid hO1
    have HTo := Lib.hid htot
    have hz1 : w.heap.size < W.heap.size := h71.1
    obtain ⟨k, rfl⟩ : ∃ j, k = j + 1 := ⟨k - 1, by omega⟩
    have HRq := Lib.hid HR1.out
    clear hR1 hP1 hM1 h71 hO1 htot
    go_wp2_with fail
    refine (HPF.out W q t HR1.out HRow1.out HT1.out HP1.out).mono ?_
    rintro e W1 ⟨x, q1, rfl, hx, hP2, hR2, hM2⟩
    unfold RV.agg
    obtain ⟨⟨f, s1, r⟩, hpt⟩ : ∃ y, pf t = y := ⟨_, rfl⟩
    have HB := Lib.hid (sev_bad (pf := pf) (ff := fur) (kind := kind) (n := k) (acc := acc) (s := t))
    have HO_ := Lib.hid (fun s' => sev_on (pf := pf) (ff := fur) (kind := kind) (n := k) (acc := acc) (s := t) (s' := s'))
    have HE := Lib.hid (sev_end (pf := pf) (ff := fur) (kind := kind) (n := k) (acc := acc) (s := t))
    have HG := Lib.hid (HPR.out t)
    have HPc := Lib.hid (HPC.out t)
    rw [hpt] at hx hP2 HB HO_ HE HG HPc ⊢
    simp only at hx hP2 HB HO_ HE HG HPc ⊢
    clear hpt
    have HX1 : Hid (Lies W1 (From (w.heap.size + 1)) r x) := hx.from_ hz1
    have HXW : Hid (Lies W1 (From W.heap.size) r x) := hx
    have HP2 := Lib.hid hP2
    have HR2 := Lib.hid hR2
    have HM2 := Lib.hid (HM1.out.trans hM2)
    have H72 := Lib.hid (H71.out.moved hM2 hne)
    have HO2 := Lib.hid (HO1.out.moved hM2 (by omega))
    have HOwn := Lib.hid (fun g h => (HO1.out.own.lt g h).2)
    have hz2 : w.heap.size < W1.heap.size := H72.out.1
    have hzW : W.heap.size ≤ W1.heap.size := hM2.size
    have HRow2 := Lib.hid (row_keep HRow.out (HR.out.keep HM2.out))
    clear hx hP2 hR2 hM2 HR1 HM1 H71 HO1 HRow1 HT1
    by_cases h0 : f = 0
    · subst h0
      have hr3 : Hid (Rd (W1.alloc (.cells #[.int .i64 x.kind, .int .u64 (x.v.a : Int), .int .u64 (x.v.b : Int), .int .u64 (x.v.c : Int), .slice x.A x.v.pre.length x.c, .slice x.B x.v.build.length x.d, .slice x.L x.n x.e] 29)) b A n c q1) := HR2.out.alloc _
      have hm3 : Hid (Moved b w (W1.alloc (.cells #[.int .i64 x.kind, .int .u64 (x.v.a : Int), .int .u64 (x.v.b : Int), .int .u64 (x.v.c : Int), .slice x.A x.v.pre.length x.c, .slice x.B x.v.build.length x.d, .slice x.L x.n x.e] 29))) := HM2.out.alloc hbw _
      have h73 : Hid (RAt (W1.alloc (.cells #[.int .i64 x.kind, .int .u64 (x.v.a : Int), .int .u64 (x.v.b : Int), .int .u64 (x.v.c : Int), .slice x.A x.v.pre.length x.c, .slice x.B x.v.build.length x.d, .slice x.L x.n x.e] 29)) w.heap.size (zeroRV 0)) := H72.out.kept ((Below.refl W1.heap.size W1).alloc (Nat.le_refl _) _) hz2
      have ho3 : Hid (OwnRg (W1.alloc (.cells #[.int .i64 x.kind, .int .u64 (x.v.a : Int), .int .u64 (x.v.b : Int), .int .u64 (x.v.c : Int), .slice x.A x.v.pre.length x.c, .slice x.B x.v.build.length x.d, .slice x.L x.n x.e] 29)) (w.heap.size + 1) v acc xs) := HO2.out.kept ((Below.refl _ _).alloc (Nat.le_refl _) _)
      have hx3 : Hid (Lies (W1.alloc (.cells #[.int .i64 x.kind, .int .u64 (x.v.a : Int), .int .u64 (x.v.b : Int), .int .u64 (x.v.c : Int), .slice x.A x.v.pre.length x.c, .slice x.B x.v.build.length x.d, .slice x.L x.n x.e] 29)) (From W.heap.size) r x) := HXW.out.keep (KeepS.alloc _ _)
      have ha3 : Hid (RAt (W1.alloc (.cells #[.int .i64 x.kind, .int .u64 (x.v.a : Int), .int .u64 (x.v.b : Int), .int .u64 (x.v.c : Int), .slice x.A x.v.pre.length x.c, .slice x.B x.v.build.length x.d, .slice x.L x.n x.e] 29)) W1.heap.size x) := RAt.new W1 29 x
      have hw3 : Hid (Row (W1.alloc (.cells #[.int .i64 x.kind, .int .u64 (x.v.a : Int), .int .u64 (x.v.b : Int), .int .u64 (x.v.c : Int), .slice x.A x.v.pre.length x.c, .slice x.B x.v.build.length x.d, .slice x.L x.n x.e] 29)) A n l) := HRow2.out.kept ((Below.refl _ _).alloc (Nat.le_refl _) _)
      have hacc : (acc.length + 1) * 104 ≤ 140737488355328 := by rw [HL.out] at hlen; omega
      clear HR2 HM2 H72 HO2 HRow2 HX1 HXW
      obtain ⟨g1, g2, d0, d1, d2, d3, d4, d5, d6⟩ := ha3.out
      go_wp2_with (first
        | (at_builtin
           have ho4 : Hid (OwnRg ((W1.alloc (.cells #[.int .i64 x.kind, .int .u64 (x.v.a : Int), .int .u64 (x.v.b : Int), .int .u64 (x.v.c : Int), .slice x.A x.v.pre.length x.c, .slice x.B x.v.build.length x.d, .slice x.L x.n x.e] 29)).alloc (.cells #[.int .i64 x.kind, .int .u64 (x.v.a : Int), .int .u64 (x.v.b : Int), .int .u64 (x.v.c : Int), .slice x.A x.v.pre.length x.c, .slice x.B x.v.build.length x.d, .slice x.L x.n x.e] 29)) (w.heap.size + 1) v acc xs) := ho3.out.kept ((Below.refl _ _).alloc (Nat.le_refl _) _)
           refine wpList_append_rg _ rfl _ _ rfl (w.heap.size + 1) v acc.length xs rfl ho4.out.own ⟨W1.heap.size + 1, 0, none⟩ x rfl (fun j u hu => by have := news_new (W1.alloc (.cells #[.int .i64 x.kind, .int .u64 (x.v.a : Int), .int .u64 (x.v.b : Int), .int .u64 (x.v.c : Int), .slice x.A x.v.pre.length x.c, .slice x.B x.v.build.length x.d, .slice x.L x.n x.e] 29)) x.vals 29 j u hu; rw [size_alloc] at this; exact this) hacc (by simp; omega) ?_
           intro v' W4 hown hgr hat
           have hR4 : Hid (Rd W4 b A n c q1) := (hr3.out.alloc _).grown hgr (by simp; intro e; have := (ho4.out.own.lt b e.symm).1; omega)
           have hM4 : Hid (Moved b w W4) := (hm3.out.alloc hbw _).grown hgr hbw (fun g e => Nat.le_of_succ_le (ho4.out.own.lt g e).1)
           have h74 : Hid (RAt W4 w.heap.size (zeroRV 0)) := (h73.out.kept ((Below.refl _ _).alloc (Nat.le_refl _) _) (by simp; omega)).grown hgr (by intro e; have := (ho4.out.own.lt _ e.symm).1; omega)
           have hA4 : Hid (RAt W4 W1.heap.size x) := (ha3.out.kept ((Below.refl _ _).alloc (Nat.le_refl _) _) (by simp)).grown hgr (by intro e; have := HOwn.out _ e.symm; omega)
           have hO4 : Hid (OwnRg W4 (w.heap.size + 1) v' (acc ++ [r]) (xs ++ [x])) := ho4.out.more hown hgr hat (hx3.out.keep (KeepS.alloc _ _)) hz1 HOwn.out
           have hW4 : Hid (Row W4 A n l) := row_keep HRow.out (HR.out.keep hM4.out)
           have hX4 : Hid (Lies W4 (From (w.heap.size + 1)) r x) := by
             have h1 : Lies ((W1.alloc (.cells #[.int .i64 x.kind, .int .u64 (x.v.a : Int), .int .u64 (x.v.b : Int), .int .u64 (x.v.c : Int), .slice x.A x.v.pre.length x.c, .slice x.B x.v.build.length x.d, .slice x.L x.n x.e] 29)).alloc (.cells #[.int .i64 x.kind, .int .u64 (x.v.a : Int), .int .u64 (x.v.b : Int), .int .u64 (x.v.c : Int), .slice x.A x.v.pre.length x.c, .slice x.B x.v.build.length x.d, .slice x.L x.n x.e] 29)) (fun g => From (w.heap.size + 1) g ∧ some g ≠ v.ownBlock) r x := (hx3.out.keep (KeepS.alloc _ _)).mono fun g hS _ => ⟨Nat.le_trans hz1 hS, fun e => by have := HOwn.out _ e.symm; unfold From at hS; omega⟩
             exact (h1.keep (KeepS.grown hgr fun g hS => hS.2)).mono fun g hS _ => hS.1
           clear hown hgr hat)
        | fail)
      clear g1 g2 d0 d1 d2 d3 d4 d5 d6 hr3 hm3 h73 ho3 hx3 ha3 hw3
      refine (HFU.out W4 q1 s1 hR4.out hW4.out HP2.out).mono ?_
      rintro e W5 ⟨hM5, hfp⟩
      have HM5 := Lib.hid (hM4.out.trans hM5)
      have H75 := Lib.hid (h74.out.moved hM5 hne)
      have HA5 := Lib.hid (hA4.out.moved hM5 (by omega))
      have HO5 := Lib.hid (hO4.out.moved hM5 (by omega))
      have HX5 : Hid (Lies W5 (From (w.heap.size + 1)) r x) := hX4.out.keep (KeepS.moved hM5 (fun h => by unfold From at h; omega))
      clear hM5 hR4 hM4 h74 hA4 hO4 hW4 hX4
      have hprog := HG.out (by first | rfl | trivial)
      cases hfu : fur s1 with
      | some s2 =>
        rw [hfu] at hfp
        obtain ⟨rfl, q2, hp5, hr5⟩ := hfp
        have HTo2 : Hid (sev pf fur kind k (acc ++ [r]) s2 = tot) := by
          have := HO_.out s2 (by first | rfl | trivial) hfu
          exact this.symm.trans HTo.out
        have hl2 := HFA.out s1 s2 hfu
        have HR5 := Lib.hid hr5
        have HP5 := Lib.hid hp5
        clear hr5 hp5 hfu
        go_wp2
        go_step3
        refine ⟨rfl, ⟨acc ++ [r], xs ++ [x], q2, s2, k, v', _, _, _, _, _, _, _, _, _, _, _, _, _, _, _, _, _, _, _, _, _, _, _, _, _, HR5.out, HP5.out, HM5.out, H75.out, HO5.out, by rw [List.length_append, List.length_singleton]; omega, by omega, HTo2.out, rfl⟩, ?_⟩
        have e1 := HP1.out.len
        have e2 := HP5.out.len
        have e3 := HP1.out.le
        have e4 := HP5.out.le
        exact psM_less HR5.out HRq.out (by rw [HL.out] at e1 e2 e3 e4; omega)
      | none =>
        rw [hfu] at hfp
        obtain ⟨rfl, hr5⟩ := hfp
        have HTo2 : Hid (tot = (0, s1, whole kind acc r)) := by
          have := HE.out (by first | rfl | trivial) hfu
          exact HTo.out.symm.trans this
        have HR5 := Lib.hid hr5
        clear hr5 hfu
        obtain ⟨L, e, rfl, he, hnil, hrow⟩ := HO5.out.row
        have HRw := Lib.hid hrow
        clear hrow HO5
        obtain ⟨y1, y2, c0, c1, c2, c3, c4, c5, c6⟩ := H75.out
        obtain ⟨g1, g2, d0, d1, d2, d3, d4, d5, d6⟩ := HA5.out
        have hw1 : W1.heap.size ≠ w.heap.size := by omega
        by_cases hac : acc = []
        · subst hac
          have HTo3 : Hid (tot = (0, s1, r)) := HTo2.out
          go_wp2
          simp only [Exit.jump]
          exact bodyPost_ret (v := .tuple #[.agg #[.int .i64 x.kind, .int .u64 (x.v.a : Int), .int .u64 (x.v.b : Int), .int .u64 (x.v.c : Int), .slice x.A x.v.pre.length x.c, .slice x.B x.v.build.length x.d, .slice x.L x.n x.e], .int .i64 0]) (by simp [results, Tryd.results29, go_sem, c0, c1, c2, c3, c4, c5, c6]) rfl (by rw [HTo3.out]; exact rg_end (x := x) hbw HX5.out HP2.out HR5.out HM5.out)
        · have hl2 : (acc ++ [r]).length ≠ 1 := by
            cases acc with
            | nil => exact absurd rfl hac
            | cons => simp
          have HTo3 : Hid (tot = (0, s1, .mk kind noVer (acc ++ [r]))) := by have := HTo2.out; unfold whole at this; rw [if_neg hac] at this; exact this
          generalize acc ++ [r] = al at hl2 he HRw HTo3 ⊢
          have hb1 : ((al.length : Int) == 1) = false := by simp; omega
          go_wp2
          simp only [Exit.jump]
          exact bodyPost_ret (v := .tuple #[.agg #[.int .i64 kind, .int .u64 0, .int .u64 0, .int .u64 0, .slice none 0 0, .slice none 0 0, .slice L al.length e], .int .i64 0]) (by simp [results, Tryd.results29, go_sem, c0, c1, c2, c3, c4, c5, c6]) rfl (by rw [HTo3.out]; exact rg_end (x := ⟨kind, noVer, none, 0, none, 0, L, al.length, e⟩) hbw (Lies.many kind HRw.out he hnil) HP2.out HR5.out HM5.out)
    · have HTo2 : Hid (tot = (f, s1, noRng)) := HTo.out.symm.trans (HB.out h0)
      have hb1 : ((f : Int) != 0) = true := by simp [h0]
      have hb2 : ((f : Int) == 0) = false := by simp [h0]
      clear h0 HB HO_ HE
      obtain ⟨y1, y2, c0, c1, c2, c3, c4, c5, c6⟩ := H72.out
      have hw1 : W1.heap.size ≠ w.heap.size := by omega
      go_wp2
      simp only [Exit.jump]
      exact bodyPost_ret (v := .tuple #[.agg #[.int .i64 0, .int .u64 0, .int .u64 0, .int .u64 0, .slice none 0 0, .slice none 0 0, .slice none 0 0], .int .i64 (f : Int)]) (by simp [results, Tryd.results29, go_sem, c0, c1, c2, c3, c4, c5, c6, y1]) rfl (by rw [HTo2.out]; exact (rg_end (x := zeroRV 0) hbw (Lies.zero _ _ 0) HP2.out HR2.out HM2.out).alloc hbw _)
  · intro HK
    go_wp2
    go_step3
    rename_i hK
    exact hK _ _ (HK.out _ _ ⟨[], [], p, s, s.length + 1, .slice none 0 0, _, _, _, _, _, _, _, _, _, _, _, _, _, _, _, _, _, _, _, _, _, _, _, _, _, HR.out.alloc _, HP.out, HM.out, H7.out, OwnRg.nil _ _, by have := HP.out.len; have h2 := HP.out.le; simp; omega, Nat.lt_succ_self _, HTot.out, rfl⟩)
end Go.Proofs.YtolkcblkciafiaaDoor.Range

namespace Go.Proofs.YtolkcblkciafiaaDoor.Range
open Go.RowKit Num Ident Semver

/-- A part's reader does what pf tells, so deep. -/
def PartOK (f : FuncId) (b : Nat) (A : Option Addr) (n c : Nat) (l : List UInt8) (deep : Int) (pf : List UInt8 → Out) : Prop :=
  ∀ (W : World) (q : Nat) (t : List UInt8), Rd W b A n c q → Row W A n l → OpsTab W → Pl l q t → Calls Tryd.prog f #[.pointer (some ⟨b, 0, none⟩), .int .i64 deep] W (RgPost b A n c l W (pf t))
set_option maxRecDepth 100000 in
set_option maxHeartbeats 3200000 in
theorem every_ok (b : Nat) (A : Option Addr) (n c : Nat) (l : List UInt8) (deep : Int) (pf : List UInt8 → Out) (hn : n ≤ 100000) (hc : n ≤ c) (hpr : Prog pf) (hpc : Pieces pf) (ho : PartOK 37 b A n c l deep pf) : PartOK 30 b A n c l deep (fun s => sev pf furO 9 (s.length + 1) [] s) := by
  intro w p s hR hr ht hs
  have HS : Hid (∀ W, Rd W b A n c p → Row W A n l → OpsTab W → Calls Tryd.prog 29 #[.int .i64 9, .int .i64 deep, .func (.func 37) #[.pointer (some ⟨b, 0, none⟩)] #[], .func (.func 38) #[.pointer (some ⟨b, 0, none⟩)] #[]] W (RgPost b A n c l W (sev pf furO 9 (s.length + 1) [] s))) := fun W h1 h2 h3 =>
    severalO b A n c p l s 9 deep pf furO W h1 h2 hn hs h3 hpr furO_piece.falls hpc ho (fun W q t h1 h2 h3 => furO_any b A n c q l t W h1 h2 hc h3)
  clear ho
  obtain ⟨t, htt⟩ : ∃ t, sev pf furO 9 (s.length + 1) [] s = t := ⟨_, rfl⟩
  rw [htt] at HS
  show Calls _ _ _ _ (RgPost b A n c l w (sev pf furO 9 (s.length + 1) [] s))
  rw [htt]
  clear htt
  have hbw := hR.lt
  have HP := Lib.hid hs
  have HL := Lib.hid hr.1
  have HR := Lib.hid hR
  have HRow := Lib.hid hr
  have HT := Lib.hid ht
  have H7 : Hid (RAt (w.alloc (.cells #[.int .i64 0, .int .u64 0, .int .u64 0, .int .u64 0, .slice none 0 0, .slice none 0 0, .slice none 0 0] 29)) w.heap.size (zeroRV 0)) := RAt.new w 29 (zeroRV 0)
  have HM : Hid (Moved b w (w.alloc (.cells #[.int .i64 0, .int .u64 0, .int .u64 0, .int .u64 0, .slice none 0 0, .slice none 0 0, .slice none 0 0] 29))) := (Moved.refl b w).alloc hbw _
  have HR0 : Hid (Rd (w.alloc (.cells #[.int .i64 0, .int .u64 0, .int .u64 0, .int .u64 0, .slice none 0 0, .slice none 0 0, .slice none 0 0] 29)) b A n c p) := hR.alloc _
  have HRow0 : Hid (Row (w.alloc (.cells #[.int .i64 0, .int .u64 0, .int .u64 0, .int .u64 0, .slice none 0 0, .slice none 0 0, .slice none 0 0] 29)) A n l) := hr.kept ((Below.refl _ _).alloc (Nat.le_refl _) _)
  have HT0 : Hid (OpsTab (w.alloc (.cells #[.int .i64 0, .int .u64 0, .int .u64 0, .int .u64 0, .slice none 0 0, .slice none 0 0, .slice none 0 0] 29))) := ht.keep (Keep.of_below ((Below.refl _ _).alloc (Nat.le_refl _) _))
  have hne : w.heap.size ≠ b := by omega
  have hmf : ∀ (fn : Fn) (first cap : Array Value) (w : World), (Instr.makeFunc fn first cap).run Tryd.prog w = .ok (.func fn first cap) w := fun _ _ _ _ => rfl
  clear hR hr hs ht
  go_enter Tryd.func30, Tryd.ntmps30
  go_wp2_with fail
  refine (HS.out _ HR0.out HRow0.out HT0.out).mono ?_
  rintro e W1 ⟨x, q1, rfl, hx, hP1, hR1, hM1⟩
  unfold RV.agg
  have HX := Lib.hid hx
  rw [size_alloc] at HX
  have HP1 := Lib.hid hP1
  have HR1 := Lib.hid hR1
  have HM1 := Lib.hid (HM.out.trans hM1)
  have H71 := Lib.hid (H7.out.moved hM1 hne)
  clear hx hP1 hR1 hM1
  obtain ⟨y1, y2, c0, c1, c2, c3, c4, c5, c6⟩ := H71.out
  go_wp2
  exact bodyPost_ret (v := .tuple #[.agg #[.int .i64 x.kind, .int .u64 (x.v.a : Int), .int .u64 (x.v.b : Int), .int .u64 (x.v.c : Int), .slice x.A x.v.pre.length x.c, .slice x.B x.v.build.length x.d, .slice x.L x.n x.e], .int .i64 (t.1 : Int)]) (by simp [results, Tryd.results30, go_sem, c0, c1, c2, c3, c4, c5, c6]) rfl (rg_end (x := x) (f := t.1) (s := t.2.1) (r := t.2.2) hbw HX.out HP1.out HR1.out HM1.out)
set_option maxRecDepth 100000 in
set_option maxHeartbeats 3200000 in
theorem expr_ok (b : Nat) (A : Option Addr) (n c : Nat) (l : List UInt8) (deep : Int) (pf : List UInt8 → Out) (hn : n ≤ 100000) (hc : n ≤ c) (hpr : Prog pf) (hpc : Pieces pf) (ho : PartOK 30 b A n c l deep pf) : PartOK 21 b A n c l deep (fun s => sev pf furE 10 (s.length + 1) [] s) := by
  intro w p s hR hr ht hs
  have HS : Hid (∀ W, Rd W b A n c p → Row W A n l → OpsTab W → Calls Tryd.prog 29 #[.int .i64 10, .int .i64 deep, .func (.func 30) #[.pointer (some ⟨b, 0, none⟩)] #[], .func (.func 31) #[.pointer (some ⟨b, 0, none⟩)] #[]] W (RgPost b A n c l W (sev pf furE 10 (s.length + 1) [] s))) := fun W h1 h2 h3 =>
    severalE b A n c p l s 10 deep pf furE W h1 h2 hn hs h3 hpr furE_piece.falls hpc ho (fun W q t h1 h2 h3 => furE_any b A n c q l t W h1 h2 hc h3)
  clear ho
  obtain ⟨t, htt⟩ : ∃ t, sev pf furE 10 (s.length + 1) [] s = t := ⟨_, rfl⟩
  rw [htt] at HS
  show Calls _ _ _ _ (RgPost b A n c l w (sev pf furE 10 (s.length + 1) [] s))
  rw [htt]
  clear htt
  have hbw := hR.lt
  have HP := Lib.hid hs
  have HL := Lib.hid hr.1
  have HR := Lib.hid hR
  have HRow := Lib.hid hr
  have HT := Lib.hid ht
  have H7 : Hid (RAt (w.alloc (.cells #[.int .i64 0, .int .u64 0, .int .u64 0, .int .u64 0, .slice none 0 0, .slice none 0 0, .slice none 0 0] 29)) w.heap.size (zeroRV 0)) := RAt.new w 29 (zeroRV 0)
  have HM : Hid (Moved b w (w.alloc (.cells #[.int .i64 0, .int .u64 0, .int .u64 0, .int .u64 0, .slice none 0 0, .slice none 0 0, .slice none 0 0] 29))) := (Moved.refl b w).alloc hbw _
  have HR0 : Hid (Rd (w.alloc (.cells #[.int .i64 0, .int .u64 0, .int .u64 0, .int .u64 0, .slice none 0 0, .slice none 0 0, .slice none 0 0] 29)) b A n c p) := hR.alloc _
  have HRow0 : Hid (Row (w.alloc (.cells #[.int .i64 0, .int .u64 0, .int .u64 0, .int .u64 0, .slice none 0 0, .slice none 0 0, .slice none 0 0] 29)) A n l) := hr.kept ((Below.refl _ _).alloc (Nat.le_refl _) _)
  have HT0 : Hid (OpsTab (w.alloc (.cells #[.int .i64 0, .int .u64 0, .int .u64 0, .int .u64 0, .slice none 0 0, .slice none 0 0, .slice none 0 0] 29))) := ht.keep (Keep.of_below ((Below.refl _ _).alloc (Nat.le_refl _) _))
  have hne : w.heap.size ≠ b := by omega
  have hmf : ∀ (fn : Fn) (first cap : Array Value) (w : World), (Instr.makeFunc fn first cap).run Tryd.prog w = .ok (.func fn first cap) w := fun _ _ _ _ => rfl
  clear hR hr hs ht
  go_enter Tryd.func21, Tryd.ntmps21
  go_wp2_with fail
  refine (HS.out _ HR0.out HRow0.out HT0.out).mono ?_
  rintro e W1 ⟨x, q1, rfl, hx, hP1, hR1, hM1⟩
  unfold RV.agg
  have HX := Lib.hid hx
  rw [size_alloc] at HX
  have HP1 := Lib.hid hP1
  have HR1 := Lib.hid hR1
  have HM1 := Lib.hid (HM.out.trans hM1)
  have H71 := Lib.hid (H7.out.moved hM1 hne)
  clear hx hP1 hR1 hM1
  obtain ⟨y1, y2, c0, c1, c2, c3, c4, c5, c6⟩ := H71.out
  go_wp2
  exact bodyPost_ret (v := .tuple #[.agg #[.int .i64 x.kind, .int .u64 (x.v.a : Int), .int .u64 (x.v.b : Int), .int .u64 (x.v.c : Int), .slice x.A x.v.pre.length x.c, .slice x.B x.v.build.length x.d, .slice x.L x.n x.e], .int .i64 (t.1 : Int)]) (by simp [results, Tryd.results21, go_sem, c0, c1, c2, c3, c4, c5, c6]) rfl (rg_end (x := x) (f := t.1) (s := t.2.1) (r := t.2.2) hbw HX.out HP1.out HR1.out HM1.out)
end Go.Proofs.YtolkcblkciafiaaDoor.Range

namespace Go.Proofs.YtolkcblkciafiaaDoor.Range
open Go.RowKit Num Ident Semver

/-- What stands one deeper behind a mark. -/
def insideF (deep : Int) (m : Nat) (pf : List UInt8 → Out) (s : List UInt8) : Out := if deep = 64 then (8, s, noRng) else pf (blanks (s.drop m))
set_option maxRecDepth 100000 in
set_option maxHeartbeats 3200000 in
theorem insideE (b : Nat) (A : Option Addr) (n c : Nat) (l : List UInt8) (p : Nat) (s mark : List UInt8) (deep : Int) (pf : List UInt8 → Out) (w : World) (hR : Rd w b A n c p) (hr : Row w A n l) (hs : Pl l p s) (ht : OpsTab w) (hd : 0 ≤ deep ∧ deep ≤ 64) (hst : stands mark s = true) (hp : deep ≠ 64 → PartOK 21 b A n c l (deep + 1) pf) :
    Calls Tryd.prog 54 #[.pointer (some ⟨b, 0, none⟩), .string (mk mark), .int .i64 deep, .func (.func 21) #[.pointer (some ⟨b, 0, none⟩)] #[]] w (RgPost b A n c l w (insideF deep mark.length pf s)) := by
  have hpm : p + mark.length ≤ n := by
    have h1 := stands_len hst
    rw [hs.len, hr.1] at h1
    have h2 := hs.le
    rw [hr.1] at h2
    omega
  have hbw := hR.lt
  have HP := Lib.hid hs
  have HL := Lib.hid hr.1
  have HR := Lib.hid hR
  have HRow := Lib.hid hr
  have HT := Lib.hid ht
  have H7 : Hid (RAt (w.alloc (.cells #[.int .i64 0, .int .u64 0, .int .u64 0, .int .u64 0, .slice none 0 0, .slice none 0 0, .slice none 0 0] 29)) w.heap.size (zeroRV 0)) := RAt.new w 29 (zeroRV 0)
  have HM : Hid (Moved b w (w.alloc (.cells #[.int .i64 0, .int .u64 0, .int .u64 0, .int .u64 0, .slice none 0 0, .slice none 0 0, .slice none 0 0] 29))) := (Moved.refl b w).alloc hbw _
  have HR0 : Hid (Rd (w.alloc (.cells #[.int .i64 0, .int .u64 0, .int .u64 0, .int .u64 0, .slice none 0 0, .slice none 0 0, .slice none 0 0] 29)) b A n c p) := hR.alloc _
  have HRow0 : Hid (Row (w.alloc (.cells #[.int .i64 0, .int .u64 0, .int .u64 0, .int .u64 0, .slice none 0 0, .slice none 0 0, .slice none 0 0] 29)) A n l) := hr.kept ((Below.refl _ _).alloc (Nat.le_refl _) _)
  have HT0 : Hid (OpsTab (w.alloc (.cells #[.int .i64 0, .int .u64 0, .int .u64 0, .int .u64 0, .slice none 0 0, .slice none 0 0, .slice none 0 0] 29))) := ht.keep (Keep.of_below ((Below.refl _ _).alloc (Nat.le_refl _) _))
  have hne : w.heap.size ≠ b := by omega
  have hmf : ∀ (fn : Fn) (first cap : Array Value) (w : World), (Instr.makeFunc fn first cap).run Tryd.prog w = .ok (.func fn first cap) w := fun _ _ _ _ => rfl
  clear hR hr hs ht
  by_cases h64 : deep = 64
  · have HF : Hid (insideF deep mark.length pf s = (8, s, noRng)) := if_pos h64
    subst h64
    clear hp hst
    obtain ⟨y1, y2, c0, c1, c2, c3, c4, c5, c6⟩ := H7.out
    rw [HF.out]
    go_enter Tryd.func54, Tryd.ntmps54
    go_wp2
    exact bodyPost_ret (v := .tuple #[.agg #[.int .i64 0, .int .u64 0, .int .u64 0, .int .u64 0, .slice none 0 0, .slice none 0 0, .slice none 0 0], .int .i64 8]) (by simp [results, Tryd.results54, go_sem]) rfl (⟨zeroRV 0, p, rfl, Lies.zero _ _ 0, HP.out, HR0.out, HM.out⟩)
  · have HF : Hid (insideF deep mark.length pf s = pf (blanks (s.drop mark.length))) := if_neg h64
    have HPP := Lib.hid (hp h64)
    have hb1 : (deep == 64) = false := by simp [h64]
    have hd1 := hd.1
    have hd2 := hd.2
    obtain ⟨s2, hs2⟩ : ∃ s2, blanks (s.drop mark.length) = s2 := ⟨_, rfl⟩
    obtain ⟨t, ht⟩ : ∃ t, pf s2 = t := ⟨_, rfl⟩
    rw [HF.out, hs2, ht]
    have HS2 := Lib.hid hs2
    have HTT := Lib.hid ht
    clear hp hst h64 hd hs2 ht
    go_enter Tryd.func54, Tryd.ntmps54
    go_wp2_with fail
    have hsz : ((mk mark).size : Int) = (mark.length : Int) := rfl
    first
      | refine (pass_any b A n c p mark.length l s _ HR0.out HRow0.out HP.out hpm).mono ?_
      | (rw [hsz]; refine (pass_any b A n c p mark.length l s _ HR0.out HRow0.out HP.out hpm).mono ?_)
    rintro e W2 ⟨rfl, q2, hq2, hR2, hM2⟩
    rw [HS2.out] at hq2
    have HR2 := Lib.hid hR2
    have HP2 := Lib.hid hq2
    have H72 := Lib.hid (H7.out.moved hM2 hne)
    have HK2 := Lib.hid (HR0.out.keep hM2)
    have HRow2 := Lib.hid (row_keep HRow0.out HK2.out)
    have HT2 := Lib.hid (HT0.out.keep HK2.out)
    have HM2 := Lib.hid (HM.out.trans hM2)
    have hz2 : w.heap.size < W2.heap.size := H72.out.1
    clear hR2 hq2 hM2 HK2 HR0 HM H7 HRow0 HT0 HF
    go_wp2_with fail
    refine (HPP.out W2 q2 s2 HR2.out HRow2.out HT2.out HP2.out).mono ?_
    rw [HTT.out]
    rintro e W3 ⟨x, q3, rfl, hx, hP3, hR3, hM3⟩
    unfold RV.agg
    have HX : Hid (Lies W3 (From (w.heap.size + 1)) t.2.2 x) := hx.from_ hz2
    have HP3 := Lib.hid hP3
    have HR3 := Lib.hid hR3
    have HM3 := Lib.hid (HM2.out.trans hM3)
    have H73 := Lib.hid (H72.out.moved hM3 hne)
    clear hx hP3 hR3 hM3
    obtain ⟨y1, y2, c0, c1, c2, c3, c4, c5, c6⟩ := H73.out
    go_wp2
    exact bodyPost_ret (v := .tuple #[.agg #[.int .i64 x.kind, .int .u64 (x.v.a : Int), .int .u64 (x.v.b : Int), .int .u64 (x.v.c : Int), .slice x.A x.v.pre.length x.c, .slice x.B x.v.build.length x.d, .slice x.L x.n x.e], .int .i64 (t.1 : Int)]) (by simp [results, Tryd.results54, go_sem, c0, c1, c2, c3, c4, c5, c6]) rfl (rg_end (x := x) (f := t.1) (s := t.2.1) (r := t.2.2) hbw HX.out HP3.out HR3.out HM3.out)
set_option maxRecDepth 100000 in
set_option maxHeartbeats 3200000 in
theorem insideO (b : Nat) (A : Option Addr) (n c : Nat) (l : List UInt8) (p : Nat) (s mark : List UInt8) (deep : Int) (pf : List UInt8 → Out) (w : World) (hR : Rd w b A n c p) (hr : Row w A n l) (hs : Pl l p s) (ht : OpsTab w) (hd : 0 ≤ deep ∧ deep ≤ 64) (hst : stands mark s = true) (hp : deep ≠ 64 → PartOK 37 b A n c l (deep + 1) pf) :
    Calls Tryd.prog 54 #[.pointer (some ⟨b, 0, none⟩), .string (mk mark), .int .i64 deep, .func (.func 37) #[.pointer (some ⟨b, 0, none⟩)] #[]] w (RgPost b A n c l w (insideF deep mark.length pf s)) := by
  have hpm : p + mark.length ≤ n := by
    have h1 := stands_len hst
    rw [hs.len, hr.1] at h1
    have h2 := hs.le
    rw [hr.1] at h2
    omega
  have hbw := hR.lt
  have HP := Lib.hid hs
  have HL := Lib.hid hr.1
  have HR := Lib.hid hR
  have HRow := Lib.hid hr
  have HT := Lib.hid ht
  have H7 : Hid (RAt (w.alloc (.cells #[.int .i64 0, .int .u64 0, .int .u64 0, .int .u64 0, .slice none 0 0, .slice none 0 0, .slice none 0 0] 29)) w.heap.size (zeroRV 0)) := RAt.new w 29 (zeroRV 0)
  have HM : Hid (Moved b w (w.alloc (.cells #[.int .i64 0, .int .u64 0, .int .u64 0, .int .u64 0, .slice none 0 0, .slice none 0 0, .slice none 0 0] 29))) := (Moved.refl b w).alloc hbw _
  have HR0 : Hid (Rd (w.alloc (.cells #[.int .i64 0, .int .u64 0, .int .u64 0, .int .u64 0, .slice none 0 0, .slice none 0 0, .slice none 0 0] 29)) b A n c p) := hR.alloc _
  have HRow0 : Hid (Row (w.alloc (.cells #[.int .i64 0, .int .u64 0, .int .u64 0, .int .u64 0, .slice none 0 0, .slice none 0 0, .slice none 0 0] 29)) A n l) := hr.kept ((Below.refl _ _).alloc (Nat.le_refl _) _)
  have HT0 : Hid (OpsTab (w.alloc (.cells #[.int .i64 0, .int .u64 0, .int .u64 0, .int .u64 0, .slice none 0 0, .slice none 0 0, .slice none 0 0] 29))) := ht.keep (Keep.of_below ((Below.refl _ _).alloc (Nat.le_refl _) _))
  have hne : w.heap.size ≠ b := by omega
  have hmf : ∀ (fn : Fn) (first cap : Array Value) (w : World), (Instr.makeFunc fn first cap).run Tryd.prog w = .ok (.func fn first cap) w := fun _ _ _ _ => rfl
  clear hR hr hs ht
  by_cases h64 : deep = 64
  · have HF : Hid (insideF deep mark.length pf s = (8, s, noRng)) := if_pos h64
    subst h64
    clear hp hst
    obtain ⟨y1, y2, c0, c1, c2, c3, c4, c5, c6⟩ := H7.out
    rw [HF.out]
    go_enter Tryd.func54, Tryd.ntmps54
    go_wp2
    exact bodyPost_ret (v := .tuple #[.agg #[.int .i64 0, .int .u64 0, .int .u64 0, .int .u64 0, .slice none 0 0, .slice none 0 0, .slice none 0 0], .int .i64 8]) (by simp [results, Tryd.results54, go_sem]) rfl (⟨zeroRV 0, p, rfl, Lies.zero _ _ 0, HP.out, HR0.out, HM.out⟩)
  · have HF : Hid (insideF deep mark.length pf s = pf (blanks (s.drop mark.length))) := if_neg h64
    have HPP := Lib.hid (hp h64)
    have hb1 : (deep == 64) = false := by simp [h64]
    have hd1 := hd.1
    have hd2 := hd.2
    obtain ⟨s2, hs2⟩ : ∃ s2, blanks (s.drop mark.length) = s2 := ⟨_, rfl⟩
    obtain ⟨t, ht⟩ : ∃ t, pf s2 = t := ⟨_, rfl⟩
    rw [HF.out, hs2, ht]
    have HS2 := Lib.hid hs2
    have HTT := Lib.hid ht
    clear hp hst h64 hd hs2 ht
    go_enter Tryd.func54, Tryd.ntmps54
    go_wp2_with fail
    have hsz : ((mk mark).size : Int) = (mark.length : Int) := rfl
    first
      | refine (pass_any b A n c p mark.length l s _ HR0.out HRow0.out HP.out hpm).mono ?_
      | (rw [hsz]; refine (pass_any b A n c p mark.length l s _ HR0.out HRow0.out HP.out hpm).mono ?_)
    rintro e W2 ⟨rfl, q2, hq2, hR2, hM2⟩
    rw [HS2.out] at hq2
    have HR2 := Lib.hid hR2
    have HP2 := Lib.hid hq2
    have H72 := Lib.hid (H7.out.moved hM2 hne)
    have HK2 := Lib.hid (HR0.out.keep hM2)
    have HRow2 := Lib.hid (row_keep HRow0.out HK2.out)
    have HT2 := Lib.hid (HT0.out.keep HK2.out)
    have HM2 := Lib.hid (HM.out.trans hM2)
    have hz2 : w.heap.size < W2.heap.size := H72.out.1
    clear hR2 hq2 hM2 HK2 HR0 HM H7 HRow0 HT0 HF
    go_wp2_with fail
    refine (HPP.out W2 q2 s2 HR2.out HRow2.out HT2.out HP2.out).mono ?_
    rw [HTT.out]
    rintro e W3 ⟨x, q3, rfl, hx, hP3, hR3, hM3⟩
    unfold RV.agg
    have HX : Hid (Lies W3 (From (w.heap.size + 1)) t.2.2 x) := hx.from_ hz2
    have HP3 := Lib.hid hP3
    have HR3 := Lib.hid hR3
    have HM3 := Lib.hid (HM2.out.trans hM3)
    have H73 := Lib.hid (H72.out.moved hM3 hne)
    clear hx hP3 hR3 hM3
    obtain ⟨y1, y2, c0, c1, c2, c3, c4, c5, c6⟩ := H73.out
    go_wp2
    exact bodyPost_ret (v := .tuple #[.agg #[.int .i64 x.kind, .int .u64 (x.v.a : Int), .int .u64 (x.v.b : Int), .int .u64 (x.v.c : Int), .slice x.A x.v.pre.length x.c, .slice x.B x.v.build.length x.d, .slice x.L x.n x.e], .int .i64 (t.1 : Int)]) (by simp [results, Tryd.results54, go_sem, c0, c1, c2, c3, c4, c5, c6]) rfl (rg_end (x := x) (f := t.1) (s := t.2.1) (r := t.2.2) hbw HX.out HP3.out HR3.out HM3.out)
set_option maxRecDepth 100000 in
set_option maxHeartbeats 6400000 in
theorem bracket_ok (b : Nat) (A : Option Addr) (n c : Nat) (l : List UInt8) (p : Nat) (s : List UInt8) (deep : Int) (pf : List UInt8 → Out) (w : World) (hR : Rd w b A n c p) (hr : Row w A n l) (hs : Pl l p s) (ht : OpsTab w) (hc : n ≤ c) (hd : 0 ≤ deep ∧ deep ≤ 64) (hst : stands [40] s = true) (hp : deep ≠ 64 → PartOK 21 b A n c l (deep + 1) pf) :
    Calls Tryd.prog 45 #[.pointer (some ⟨b, 0, none⟩), .int .i64 deep] w (RgPost b A n c l w (shutF (insideF deep 1 pf s))) := by
  have hbw := hR.lt
  have HP := Lib.hid hs
  have HL := Lib.hid hr.1
  have HR := Lib.hid hR
  have HRow := Lib.hid hr
  have HT := Lib.hid ht
  have H7 : Hid (RAt (w.alloc (.cells #[.int .i64 0, .int .u64 0, .int .u64 0, .int .u64 0, .slice none 0 0, .slice none 0 0, .slice none 0 0] 29)) w.heap.size (zeroRV 0)) := RAt.new w 29 (zeroRV 0)
  have HM : Hid (Moved b w (w.alloc (.cells #[.int .i64 0, .int .u64 0, .int .u64 0, .int .u64 0, .slice none 0 0, .slice none 0 0, .slice none 0 0] 29))) := (Moved.refl b w).alloc hbw _
  have HR0 : Hid (Rd (w.alloc (.cells #[.int .i64 0, .int .u64 0, .int .u64 0, .int .u64 0, .slice none 0 0, .slice none 0 0, .slice none 0 0] 29)) b A n c p) := hR.alloc _
  have HRow0 : Hid (Row (w.alloc (.cells #[.int .i64 0, .int .u64 0, .int .u64 0, .int .u64 0, .slice none 0 0, .slice none 0 0, .slice none 0 0] 29)) A n l) := hr.kept ((Below.refl _ _).alloc (Nat.le_refl _) _)
  have HT0 : Hid (OpsTab (w.alloc (.cells #[.int .i64 0, .int .u64 0, .int .u64 0, .int .u64 0, .slice none 0 0, .slice none 0 0, .slice none 0 0] 29))) := ht.keep (Keep.of_below ((Below.refl _ _).alloc (Nat.le_refl _) _))
  have hne : w.heap.size ≠ b := by omega
  have hmf : ∀ (fn : Fn) (first cap : Array Value) (w : World), (Instr.makeFunc fn first cap).run Tryd.prog w = .ok (.func fn first cap) w := fun _ _ _ _ => rfl
  clear hR hr hs ht
  obtain ⟨⟨f, s1, r⟩, hk⟩ : ∃ t, insideF deep 1 pf s = t := ⟨_, rfl⟩
  rw [hk]
  have HKI := Lib.hid hk
  clear hk
  go_enter Tryd.func45, Tryd.ntmps45
  go_wp2_with fail
  refine (insideE b A n c l p s [40] deep pf _ HR0.out HRow0.out HP.out HT0.out hd hst hp).mono ?_
  have e1 : insideF deep ([40] : List UInt8).length pf s = (f, s1, r) := HKI.out
  rw [e1]
  rintro e W1 ⟨x, q1, rfl, hx, hP1, hR1, hM1⟩
  unfold RV.agg
  simp only at hx hP1 ⊢
  have HX := Lib.hid hx
  rw [size_alloc] at HX
  have HP1 := Lib.hid hP1
  have HR1 := Lib.hid hR1
  have HM1 := Lib.hid (HM.out.trans hM1)
  have H71 := Lib.hid (H7.out.moved hM1 hne)
  have hz1 : w.heap.size < W1.heap.size := H71.out.1
  have HK1 := Lib.hid (HR.out.keep HM1.out)
  have HRow1 := Lib.hid (row_keep HRow.out HK1.out)
  clear hx hP1 hR1 hM1 HR0 HM H7 HRow0 HT0 hp hst
  by_cases h0 : f = 0
  · subst h0
    have HF : Hid (shutF (0, s1, r) = if stands [41] s1 = true then (0, blanks (s1.drop 1), r) else (lackN s1, s1, noRng)) := if_neg (by simp)
    have hR2 : Hid (Rd (W1.alloc (.cells #[.int .i64 x.kind, .int .u64 (x.v.a : Int), .int .u64 (x.v.b : Int), .int .u64 (x.v.c : Int), .slice x.A x.v.pre.length x.c, .slice x.B x.v.build.length x.d, .slice x.L x.n x.e] 29)) b A n c q1) := HR1.out.alloc _
    have hM2 : Hid (Moved b w (W1.alloc (.cells #[.int .i64 x.kind, .int .u64 (x.v.a : Int), .int .u64 (x.v.b : Int), .int .u64 (x.v.c : Int), .slice x.A x.v.pre.length x.c, .slice x.B x.v.build.length x.d, .slice x.L x.n x.e] 29))) := HM1.out.alloc hbw _
    have h72 : Hid (RAt (W1.alloc (.cells #[.int .i64 x.kind, .int .u64 (x.v.a : Int), .int .u64 (x.v.b : Int), .int .u64 (x.v.c : Int), .slice x.A x.v.pre.length x.c, .slice x.B x.v.build.length x.d, .slice x.L x.n x.e] 29)) w.heap.size (zeroRV 0)) := H71.out.kept ((Below.refl W1.heap.size W1).alloc (Nat.le_refl _) _) hz1
    have ha2 : Hid (RAt (W1.alloc (.cells #[.int .i64 x.kind, .int .u64 (x.v.a : Int), .int .u64 (x.v.b : Int), .int .u64 (x.v.c : Int), .slice x.A x.v.pre.length x.c, .slice x.B x.v.build.length x.d, .slice x.L x.n x.e] 29)) W1.heap.size x) := RAt.new W1 29 x
    have hX2 : Hid (Lies (W1.alloc (.cells #[.int .i64 x.kind, .int .u64 (x.v.a : Int), .int .u64 (x.v.b : Int), .int .u64 (x.v.c : Int), .slice x.A x.v.pre.length x.c, .slice x.B x.v.build.length x.d, .slice x.L x.n x.e] 29)) (From (w.heap.size + 1)) r x) := HX.out.keep (KeepS.alloc _ _)
    have hRow2 : Hid (Row (W1.alloc (.cells #[.int .i64 x.kind, .int .u64 (x.v.a : Int), .int .u64 (x.v.b : Int), .int .u64 (x.v.c : Int), .slice x.A x.v.pre.length x.c, .slice x.B x.v.build.length x.d, .slice x.L x.n x.e] 29)) A n l) := HRow1.out.kept ((Below.refl _ _).alloc (Nat.le_refl _) _)
    clear HR1 HM1 H71 HX HRow1 HK1
    go_wp2_with fail
    refine (stands_any b A n c q1 l s1 [41] _ hR2.out hRow2.out hc HP1.out (by decide)).mono ?_
    rintro e W3 ⟨rfl, hr3, hm3⟩
    have HR3 := Lib.hid hr3
    have HM3 := Lib.hid (hM2.out.trans hm3)
    have H73 := Lib.hid (h72.out.moved hm3 hne)
    have HA3 := Lib.hid (ha2.out.moved hm3 (by omega))
    have HX3 : Hid (Lies W3 (From (w.heap.size + 1)) r x) := hX2.out.keep (KeepS.moved hm3 (fun h => by unfold From at h; omega))
    have HRow3 := Lib.hid (row_keep HRow.out (HR.out.keep HM3.out))
    clear hr3 hm3 hR2 hM2 h72 ha2 hX2 hRow2
    cases hst1 : stands [41] s1 with
    | true =>
      have HF2 : Hid (shutF (0, s1, r) = (0, blanks (s1.drop 1), r)) := HF.out.trans (if_pos hst1)
      have hpm : q1 + 1 ≤ n := by
        have h1 := stands_len hst1
        rw [HP1.out.len, HL.out] at h1
        have h2 := HP1.out.le
        rw [HL.out] at h2
        simp only [List.length_singleton] at h1
        omega
      clear hst1
      go_wp2_with fail
      refine (pass_any b A n c q1 1 l s1 _ HR3.out HRow3.out HP1.out hpm).mono ?_
      rintro e W4 ⟨rfl, q4, hq4, hr4, hm4⟩
      have HR4 := Lib.hid hr4
      have HP4 := Lib.hid hq4
      have HM4 := Lib.hid (HM3.out.trans hm4)
      have H74 := Lib.hid (H73.out.moved hm4 hne)
      have HA4 := Lib.hid (HA3.out.moved hm4 (by omega))
      have HX4 : Hid (Lies W4 (From (w.heap.size + 1)) r x) := HX3.out.keep (KeepS.moved hm4 (fun h => by unfold From at h; omega))
      clear hr4 hq4 hm4 HR3 HM3 H73 HA3 HX3 HRow3
      obtain ⟨y1, y2, c0, c1, c2, c3, c4, c5, c6⟩ := H74.out
      obtain ⟨_, _, d0, d1, d2, d3, d4, d5, d6⟩ := HA4.out
      go_wp2
      exact bodyPost_ret (v := .tuple #[.agg #[.int .i64 x.kind, .int .u64 (x.v.a : Int), .int .u64 (x.v.b : Int), .int .u64 (x.v.c : Int), .slice x.A x.v.pre.length x.c, .slice x.B x.v.build.length x.d, .slice x.L x.n x.e], .int .i64 0]) (by simp [results, Tryd.results45, go_sem, c0, c1, c2, c3, c4, c5, c6]) rfl (by rw [HF2.out]; exact rg_end (x := x) (f := 0) hbw HX4.out HP4.out HR4.out HM4.out)
    | false =>
      have HF2 : Hid (shutF (0, s1, r) = (lackN s1, s1, noRng)) := HF.out.trans (if_neg (by rw [hst1]; simp))
      clear hst1
      go_wp2_with fail
      refine (lack_any b A n c q1 l s1 _ HR3.out HRow3.out HP1.out).mono ?_
      rintro e W4 ⟨rfl, hr4, hm4⟩
      have HR4 := Lib.hid hr4
      have HM4 := Lib.hid (HM3.out.trans hm4)
      have H74 := Lib.hid (H73.out.moved hm4 hne)
      clear hr4 hm4 HR3 HM3 H73 HA3 HX3 HRow3
      obtain ⟨y1, y2, c0, c1, c2, c3, c4, c5, c6⟩ := H74.out
      go_wp2
      exact bodyPost_ret (v := .tuple #[.agg #[.int .i64 0, .int .u64 0, .int .u64 0, .int .u64 0, .slice none 0 0, .slice none 0 0, .slice none 0 0], .int .i64 (lackN s1 : Int)]) (by simp [results, Tryd.results45, go_sem, c0, c1, c2, c3, c4, c5, c6]) rfl (by rw [HF2.out]; exact rg_end (x := zeroRV 0) hbw (Lies.zero _ _ 0) HP1.out HR4.out HM4.out)
  · have HF : Hid (shutF (f, s1, r) = (f, s1, noRng)) := if_pos h0
    have hb1 : ((f : Int) != 0) = true := by simp [h0]
    have hb2 : ((f : Int) == 0) = false := by simp [h0]
    clear h0
    obtain ⟨y1, y2, c0, c1, c2, c3, c4, c5, c6⟩ := H71.out
    have hw1 : W1.heap.size ≠ w.heap.size := by omega
    go_wp2
    exact bodyPost_ret (v := .tuple #[.agg #[.int .i64 0, .int .u64 0, .int .u64 0, .int .u64 0, .slice none 0 0, .slice none 0 0, .slice none 0 0], .int .i64 (f : Int)]) (by simp [results, Tryd.results45, go_sem, c0, c1, c2, c3, c4, c5, c6, y1]) rfl (by rw [HF.out]; exact (rg_end (x := zeroRV 0) hbw (Lies.zero _ _ 0) HP1.out HR1.out HM1.out).alloc hbw _)
set_option maxRecDepth 100000 in
set_option maxHeartbeats 6400000 in
theorem not_ok (b : Nat) (A : Option Addr) (n c : Nat) (l : List UInt8) (p : Nat) (s : List UInt8) (deep : Int) (pf : List UInt8 → Out) (w : World) (hR : Rd w b A n c p) (hr : Row w A n l) (hs : Pl l p s) (ht : OpsTab w) (hd : 0 ≤ deep ∧ deep ≤ 64) (hst : stands [33] s = true) (hp : deep ≠ 64 → PartOK 37 b A n c l (deep + 1) pf) :
    Calls Tryd.prog 46 #[.pointer (some ⟨b, 0, none⟩), .int .i64 deep] w (RgPost b A n c l w (notF (insideF deep 1 pf s))) := by
  have hbw := hR.lt
  have HP := Lib.hid hs
  have HL := Lib.hid hr.1
  have HR := Lib.hid hR
  have HRow := Lib.hid hr
  have HT := Lib.hid ht
  have H7 : Hid (RAt (w.alloc (.cells #[.int .i64 0, .int .u64 0, .int .u64 0, .int .u64 0, .slice none 0 0, .slice none 0 0, .slice none 0 0] 29)) w.heap.size (zeroRV 0)) := RAt.new w 29 (zeroRV 0)
  have HM : Hid (Moved b w (w.alloc (.cells #[.int .i64 0, .int .u64 0, .int .u64 0, .int .u64 0, .slice none 0 0, .slice none 0 0, .slice none 0 0] 29))) := (Moved.refl b w).alloc hbw _
  have HR0 : Hid (Rd (w.alloc (.cells #[.int .i64 0, .int .u64 0, .int .u64 0, .int .u64 0, .slice none 0 0, .slice none 0 0, .slice none 0 0] 29)) b A n c p) := hR.alloc _
  have HRow0 : Hid (Row (w.alloc (.cells #[.int .i64 0, .int .u64 0, .int .u64 0, .int .u64 0, .slice none 0 0, .slice none 0 0, .slice none 0 0] 29)) A n l) := hr.kept ((Below.refl _ _).alloc (Nat.le_refl _) _)
  have HT0 : Hid (OpsTab (w.alloc (.cells #[.int .i64 0, .int .u64 0, .int .u64 0, .int .u64 0, .slice none 0 0, .slice none 0 0, .slice none 0 0] 29))) := ht.keep (Keep.of_below ((Below.refl _ _).alloc (Nat.le_refl _) _))
  have hne : w.heap.size ≠ b := by omega
  have hmf : ∀ (fn : Fn) (first cap : Array Value) (w : World), (Instr.makeFunc fn first cap).run Tryd.prog w = .ok (.func fn first cap) w := fun _ _ _ _ => rfl
  clear hR hr hs ht
  obtain ⟨⟨f, s1, r⟩, hk⟩ : ∃ t, insideF deep 1 pf s = t := ⟨_, rfl⟩
  rw [hk]
  have HKI := Lib.hid hk
  clear hk
  go_enter Tryd.func46, Tryd.ntmps46
  go_wp2_with fail
  refine (insideO b A n c l p s [33] deep pf _ HR0.out HRow0.out HP.out HT0.out hd hst hp).mono ?_
  have e1 : insideF deep ([33] : List UInt8).length pf s = (f, s1, r) := HKI.out
  rw [e1]
  rintro e W1 ⟨x, q1, rfl, hx, hP1, hR1, hM1⟩
  unfold RV.agg
  simp only at hx hP1 ⊢
  have HX := Lib.hid hx
  rw [size_alloc] at HX
  have HP1 := Lib.hid hP1
  have HR1 := Lib.hid hR1
  have HM1 := Lib.hid (HM.out.trans hM1)
  have H71 := Lib.hid (H7.out.moved hM1 hne)
  have hz1 : w.heap.size < W1.heap.size := H71.out.1
  have HK1 := Lib.hid (HR.out.keep HM1.out)
  have HRow1 := Lib.hid (row_keep HRow.out HK1.out)
  clear hx hP1 hR1 hM1 HR0 HM H7 HRow0 HT0 hp hst
  by_cases h0 : f = 0
  · subst h0
    have HF : Hid (notF (0, s1, r) = (0, s1, .mk 11 noVer [r])) := if_neg (by simp)
    obtain ⟨V, hV⟩ : ∃ V, setR W1 w.heap.size ⟨11, noVer, none, 0, none, 0, some ⟨W1.heap.size + 1, 0, none⟩, 1, 1⟩ = V := ⟨_, rfl⟩
    have hVs : V.heap.size = W1.heap.size := by rw [← hV]; unfold setR; simp
    have hXV : Hid (Lies V (From (w.heap.size + 1)) r x) := by rw [← hV]; exact HX.out.keep (setR_keep (Nat.not_succ_le_self _) _)
    have hX2 : Hid (Lies ((V.alloc (.cells #[.int .i64 x.kind, .int .u64 (x.v.a : Int), .int .u64 (x.v.b : Int), .int .u64 (x.v.c : Int), .slice x.A x.v.pre.length x.c, .slice x.B x.v.build.length x.d, .slice x.L x.n x.e] 29)).alloc (.cells #[.int .i64 x.kind, .int .u64 (x.v.a : Int), .int .u64 (x.v.b : Int), .int .u64 (x.v.c : Int), .slice x.A x.v.pre.length x.c, .slice x.B x.v.build.length x.d, .slice x.L x.n x.e] 29)) (From (w.heap.size + 1)) r x) := (hXV.out.keep (KeepS.alloc _ _)).keep (KeepS.alloc _ _)
    have hrow : Hid (RgRow ((V.alloc (.cells #[.int .i64 x.kind, .int .u64 (x.v.a : Int), .int .u64 (x.v.b : Int), .int .u64 (x.v.c : Int), .slice x.A x.v.pre.length x.c, .slice x.B x.v.build.length x.d, .slice x.L x.n x.e] 29)).alloc (.cells #[.int .i64 x.kind, .int .u64 (x.v.a : Int), .int .u64 (x.v.b : Int), .int .u64 (x.v.c : Int), .slice x.A x.v.pre.length x.c, .slice x.B x.v.build.length x.d, .slice x.L x.n x.e] 29)) (From (w.heap.size + 1)) (some ⟨W1.heap.size + 1, 0, none⟩) 1 [r]) := by
      refine ⟨fun _ => x, rfl, fun _ => ⟨W1.heap.size + 1, 0, rfl, by unfold From; omega, fun k hk i u hu => ?_⟩, fun k hk => ?_⟩
      · obtain rfl : k = 0 := by omega
        have := news_new (V.alloc (.cells #[.int .i64 x.kind, .int .u64 (x.v.a : Int), .int .u64 (x.v.b : Int), .int .u64 (x.v.c : Int), .slice x.A x.v.pre.length x.c, .slice x.B x.v.build.length x.d, .slice x.L x.n x.e] 29)) x.vals 29 i u hu
        rw [size_alloc, add_none, hVs] at this
        rw [Nat.zero_mul, Nat.add_zero]; exact this
      · obtain rfl : k = 0 := by omega
        exact hX2.out
    have hR2 : Hid (Rd ((V.alloc (.cells #[.int .i64 x.kind, .int .u64 (x.v.a : Int), .int .u64 (x.v.b : Int), .int .u64 (x.v.c : Int), .slice x.A x.v.pre.length x.c, .slice x.B x.v.build.length x.d, .slice x.L x.n x.e] 29)).alloc (.cells #[.int .i64 x.kind, .int .u64 (x.v.a : Int), .int .u64 (x.v.b : Int), .int .u64 (x.v.c : Int), .slice x.A x.v.pre.length x.c, .slice x.B x.v.build.length x.d, .slice x.L x.n x.e] 29)) b A n c q1) := by rw [← hV]; exact ((setR_rd HR1.out hbw _).alloc _).alloc _
    have hM2 : Hid (Moved b w ((V.alloc (.cells #[.int .i64 x.kind, .int .u64 (x.v.a : Int), .int .u64 (x.v.b : Int), .int .u64 (x.v.c : Int), .slice x.A x.v.pre.length x.c, .slice x.B x.v.build.length x.d, .slice x.L x.n x.e] 29)).alloc (.cells #[.int .i64 x.kind, .int .u64 (x.v.a : Int), .int .u64 (x.v.b : Int), .int .u64 (x.v.c : Int), .slice x.A x.v.pre.length x.c, .slice x.B x.v.build.length x.d, .slice x.L x.n x.e] 29))) := by rw [← hV]; exact ((setR_moved HM1.out hbw (Nat.le_refl _) _).alloc hbw _).alloc hbw _
    have hfin : Hid (RgPost b A n c l w (0, s1, .mk 11 noVer [r]) (.returned (.tuple #[(RV.agg ⟨11, noVer, none, 0, none, 0, some ⟨W1.heap.size + 1, 0, none⟩, 1, 1⟩), .int .i64 0])) ((V.alloc (.cells #[.int .i64 x.kind, .int .u64 (x.v.a : Int), .int .u64 (x.v.b : Int), .int .u64 (x.v.c : Int), .slice x.A x.v.pre.length x.c, .slice x.B x.v.build.length x.d, .slice x.L x.n x.e] 29)).alloc (.cells #[.int .i64 x.kind, .int .u64 (x.v.a : Int), .int .u64 (x.v.b : Int), .int .u64 (x.v.c : Int), .slice x.A x.v.pre.length x.c, .slice x.B x.v.build.length x.d, .slice x.L x.n x.e] 29))) :=
      ⟨⟨11, noVer, none, 0, none, 0, some ⟨W1.heap.size + 1, 0, none⟩, 1, 1⟩, q1, rfl, (Lies.many 11 hrow.out (Nat.le_refl _) (fun h => by cases h)).from_ (Nat.le_succ _), HP1.out, hR2.out, hM2.out⟩
    rw [← hV] at hfin
    clear hV hVs hXV hX2 hrow hR2 hM2
    obtain ⟨y1, y2, c0, c1, c2, c3, c4, c5, c6⟩ := H71.out
    have hw1 : W1.heap.size ≠ w.heap.size := by omega
    have hw2 : W1.heap.size + 1 ≠ w.heap.size := by omega
    have y3 : w.heap.size < W1.heap.size + 1 := by omega
    go_wp2
    exact bodyPost_ret (v := .tuple #[.agg #[.int .i64 11, .int .u64 0, .int .u64 0, .int .u64 0, .slice none 0 0, .slice none 0 0, .slice (some ⟨W1.heap.size + 1, 0, none⟩) 1 1], .int .i64 0]) (by simp [results, Tryd.results46, go_sem, c0, c1, c2, c3, c4, c5, c6, y1, y3]) rfl (by rw [HF.out]; exact hfin.out)
  · have HF : Hid (notF (f, s1, r) = (f, s1, noRng)) := if_pos h0
    have hb1 : ((f : Int) != 0) = true := by simp [h0]
    have hb2 : ((f : Int) == 0) = false := by simp [h0]
    clear h0
    obtain ⟨y1, y2, c0, c1, c2, c3, c4, c5, c6⟩ := H71.out
    have hw1 : W1.heap.size ≠ w.heap.size := by omega
    go_wp2
    exact bodyPost_ret (v := .tuple #[.agg #[.int .i64 0, .int .u64 0, .int .u64 0, .int .u64 0, .slice none 0 0, .slice none 0 0, .slice none 0 0], .int .i64 (f : Int)]) (by simp [results, Tryd.results46, go_sem, c0, c1, c2, c3, c4, c5, c6, y1]) rfl (by rw [HF.out]; exact (rg_end (x := zeroRV 0) hbw (Lies.zero _ _ 0) HP1.out HR1.out HM1.out).alloc hbw _)
end Go.Proofs.YtolkcblkciafiaaDoor.Range

namespace Go.Proofs.YtolkcblkciafiaaDoor.Range
open Go.RowKit Num Ident Semver

/-- A one that stands so deep, by what reads an expr and a one that stand one deeper. -/
def oneD (deep : Int) (pe po : List UInt8 → Out) (s : List UInt8) : Out :=
  if stands [42] s = true then (0, blanks (s.drop 1), noRng)
  else if stands [40] s = true then shutF (insideF deep 1 pe s)
  else if (opOf s).2 = [] ∧ stands [33] s = true then notF (insideF deep 1 po s)
  else verAt (opOf s).1 (blanks (s.drop (opOf s).2.length))
theorem pone_oneD (k : Nat) (d : Int) (h : d + k = 64) (s : List UInt8) : pone k s = oneD d (exprF (pone (k - 1))) (pone (k - 1)) s := by
  cases k with
  | zero =>
    have hd : d = 64 := by omega
    subst hd
    rw [pone_zero]
    unfold oneF oneD insideF
    rfl
  | succ k =>
    have hd : d ≠ 64 := by omega
    rw [pone_succ, Nat.add_sub_cancel]
    unfold oneF oneD insideF
    rw [if_neg hd, if_neg hd]
theorem op_stands (s : List UInt8) : stands (opOf s).2 s = true := by
  have hop : ∀ (l : List (List UInt8)) (k : Int), stands (opFrom s l k).2 s = true := by
    intro l
    induction l with
    | nil => intro k; exact stands_nil s
    | cons t r ih =>
      intro k
      rw [opFrom]
      split
      · rename_i h; exact h
      · exact ih _
  exact hop _ _
theorem mk_empty : (mk []).toList.isEmpty = true := (empty_iff _).2 rfl
theorem mk_some {t : List UInt8} (h : t ≠ []) : (mk t).toList.isEmpty = false := (empty_no _).2 fun e => h (List.eq_nil_of_length_eq_zero e)
theorem mk_eq0 : ((mk []).toList == (⟨#[]⟩ : ByteArray).toList) = true := by rw [show (⟨#[]⟩ : ByteArray) = mk [] from rfl]; simp
theorem mk_ne0 {t : List UInt8} (h : t ≠ []) : ((mk t).toList == (⟨#[]⟩ : ByteArray).toList) = false := by
  rw [Lib.toList_data, Lib.toList_data, beq_eq_false_iff_ne]; exact h
set_option maxRecDepth 100000 in
set_option maxHeartbeats 6400000 in
theorem one_ok (b : Nat) (A : Option Addr) (n c : Nat) (l : List UInt8) (deep : Int) (pe po : List UInt8 → Out) (hc : n ≤ c) (hd : 0 ≤ deep ∧ deep ≤ 64) (he : deep ≠ 64 → PartOK 21 b A n c l (deep + 1) pe) (ho : deep ≠ 64 → PartOK 37 b A n c l (deep + 1) po) : PartOK 37 b A n c l deep (oneD deep pe po) := by
  intro w p s hR hr ht hs
  have hbw := hR.lt
  have HP := Lib.hid hs
  have HL := Lib.hid hr.1
  have HR := Lib.hid hR
  have HRow := Lib.hid hr
  have HT := Lib.hid ht
  have H7 : Hid (RAt (w.alloc (.cells #[.int .i64 0, .int .u64 0, .int .u64 0, .int .u64 0, .slice none 0 0, .slice none 0 0, .slice none 0 0] 29)) w.heap.size (zeroRV 0)) := RAt.new w 29 (zeroRV 0)
  have HM : Hid (Moved b w (w.alloc (.cells #[.int .i64 0, .int .u64 0, .int .u64 0, .int .u64 0, .slice none 0 0, .slice none 0 0, .slice none 0 0] 29))) := (Moved.refl b w).alloc hbw _
  have HR0 : Hid (Rd (w.alloc (.cells #[.int .i64 0, .int .u64 0, .int .u64 0, .int .u64 0, .slice none 0 0, .slice none 0 0, .slice none 0 0] 29)) b A n c p) := hR.alloc _
  have HRow0 : Hid (Row (w.alloc (.cells #[.int .i64 0, .int .u64 0, .int .u64 0, .int .u64 0, .slice none 0 0, .slice none 0 0, .slice none 0 0] 29)) A n l) := hr.kept ((Below.refl _ _).alloc (Nat.le_refl _) _)
  have HT0 : Hid (OpsTab (w.alloc (.cells #[.int .i64 0, .int .u64 0, .int .u64 0, .int .u64 0, .slice none 0 0, .slice none 0 0, .slice none 0 0] 29))) := ht.keep (Keep.of_below ((Below.refl _ _).alloc (Nat.le_refl _) _))
  have hne : w.heap.size ≠ b := by omega
  have hmf : ∀ (fn : Fn) (first cap : Array Value) (w : World), (Instr.makeFunc fn first cap).run Tryd.prog w = .ok (.func fn first cap) w := fun _ _ _ _ => rfl
  clear hR hr hs ht
  have hpn : p ≤ n := by have := HP.out.le; rw [HL.out] at this; exact this
  have HLE : Hid (∀ t : List UInt8, stands t s = true → p + t.length ≤ n) := fun t h => by
    have h1 := stands_len h
    rw [HP.out.len, HL.out] at h1
    omega
  have HOS := Lib.hid (HLE.out _ (op_stands s))
  have HOL : Hid ((opOf s).2.length ≤ 10) := by
    have := opFrom_kind s
    rcases this with ⟨_, h⟩ | ⟨_, h⟩ | ⟨_, h⟩ | ⟨_, h⟩ | ⟨_, h⟩ | ⟨_, h⟩ | ⟨_, h⟩ | ⟨_, h⟩ | ⟨_, h⟩ <;> (unfold Hid; rw [h]; decide)
  obtain ⟨t, htt⟩ : ∃ t, oneD deep pe po s = t := ⟨_, rfl⟩
  rw [htt]
  have HT_ : Hid ((if stands [42] s = true then (0, blanks (s.drop 1), noRng) else if stands [40] s = true then shutF (insideF deep 1 pe s) else if (opOf s).2 = [] ∧ stands [33] s = true then notF (insideF deep 1 po s) else verAt (opOf s).1 (blanks (s.drop (opOf s).2.length))) = t) := htt
  clear htt
  have HOP := Lib.hid (fun W h1 h2 h3 => op_any b A n c p l s W h1 h2 hc HP.out h3)
  obtain ⟨⟨kd, o⟩, hop⟩ : ∃ z, opOf s = z := ⟨_, rfl⟩
  rw [hop] at HOP HT_ HOS HOL
  simp only at HOP HT_ HOS HOL
  clear hop
  go_enter Tryd.func37, Tryd.ntmps37
  go_wp2_with fail
  refine (HOP.out _ HR0.out HRow0.out HT0.out).mono ?_
  rintro e W1 ⟨rfl, hR, hM⟩
  have HM1 := Lib.hid (HM.out.trans hM)
  have H71 := Lib.hid (H7.out.moved hM hne)
  have HR1 := Lib.hid hR
  have HRow1 := Lib.hid (row_keep HRow.out (HR.out.keep HM1.out))
  have HT1 := Lib.hid (HT.out.keep (HR.out.keep HM1.out))
  clear hR hM HR0 HM H7 HRow0 HT0
  go_wp2_with fail
  refine (stands_any b A n c p l s [42] _ HR1.out HRow1.out hc HP.out (by decide)).mono ?_
  rintro e W2 ⟨rfl, hR, hM⟩
  have HM2 := Lib.hid (HM1.out.trans hM)
  have H72 := Lib.hid (H71.out.moved hM hne)
  have HR2 := Lib.hid hR
  have HRow2 := Lib.hid (row_keep HRow.out (HR.out.keep HM2.out))
  have HT2 := Lib.hid (HT.out.keep (HR.out.keep HM2.out))
  clear hR hM HR1 HM1 H71 HRow1 HT1
  cases h42 : stands [42] s with
  | true =>
    have HF : Hid (t = (0, blanks (s.drop 1), noRng)) := HT_.out.symm.trans (if_pos h42)
    have hpm := HLE.out [42] h42
    clear h42
    go_wp2_with fail
    refine (pass_any b A n c p 1 l s _ HR2.out HRow2.out HP.out hpm).mono ?_
    rintro e W3 ⟨rfl, q3, hP, hR, hM⟩
    have HM3 := Lib.hid (HM2.out.trans hM)
    have H73 := Lib.hid (H72.out.moved hM hne)
    have HR3 := Lib.hid hR
    have HP3 := Lib.hid hP
    clear hR hM hP
    obtain ⟨y1, y2, c0, c1, c2, c3, c4, c5, c6⟩ := H73.out
    go_wp2
    exact bodyPost_ret (v := .tuple #[.agg #[.int .i64 0, .int .u64 0, .int .u64 0, .int .u64 0, .slice none 0 0, .slice none 0 0, .slice none 0 0], .int .i64 0]) (by simp [results, Tryd.results37, go_sem, c0, c1, c2, c3, c4, c5, c6]) rfl (by rw [HF.out]; exact rg_end (x := zeroRV 0) (f := 0) hbw (Lies.zero _ _ 0) HP3.out HR3.out HM3.out)
  | false =>
    have HT2_ : Hid ((if stands [40] s = true then shutF (insideF deep 1 pe s) else if o = [] ∧ stands [33] s = true then notF (insideF deep 1 po s) else verAt kd (blanks (s.drop o.length))) = t) := (if_neg (by rw [h42]; simp)).symm.trans HT_.out
    clear h42 HT_
    go_wp2_with fail
    refine (stands_any b A n c p l s [40] _ HR2.out HRow2.out hc HP.out (by decide)).mono ?_
    rintro e W3 ⟨rfl, hR, hM⟩
    have HM3 := Lib.hid (HM2.out.trans hM)
    have H73 := Lib.hid (H72.out.moved hM hne)
    have HR3 := Lib.hid hR
    have HRow3 := Lib.hid (row_keep HRow.out (HR.out.keep HM3.out))
    have HT3 := Lib.hid (HT.out.keep (HR.out.keep HM3.out))
    clear hR hM HR2 HM2 H72 HRow2 HT2
    cases h40 : stands [40] s with
    | true =>
      have HF : Hid (shutF (insideF deep 1 pe s) = t) := (if_pos h40).symm.trans HT2_.out
      have HST := Lib.hid h40
      clear h40
      go_wp2_with fail
      refine (bracket_ok b A n c l p s deep pe _ HR3.out HRow3.out HP.out HT3.out hc hd HST.out he).mono ?_
      rw [HF.out]
      rintro e W4 ⟨x, q4, rfl, hx, hP, hR, hM⟩
      unfold RV.agg
      have hz : w.heap.size < W3.heap.size := H73.out.1
      have HX : Hid (Lies W4 (From (w.heap.size + 1)) t.2.2 x) := hx.from_ hz
      have HPx := Lib.hid hP
      have HRx := Lib.hid hR
      have HMx := Lib.hid (HM3.out.trans hM)
      have H7x := Lib.hid (H73.out.moved hM hne)
      clear hx hP hR hM
      obtain ⟨y1, y2, c0, c1, c2, c3, c4, c5, c6⟩ := H7x.out
      go_wp2
      exact bodyPost_ret (v := .tuple #[.agg #[.int .i64 x.kind, .int .u64 (x.v.a : Int), .int .u64 (x.v.b : Int), .int .u64 (x.v.c : Int), .slice x.A x.v.pre.length x.c, .slice x.B x.v.build.length x.d, .slice x.L x.n x.e], .int .i64 (t.1 : Int)]) (by simp [results, Tryd.results37, go_sem, c0, c1, c2, c3, c4, c5, c6]) rfl (rg_end (x := x) (f := t.1) (s := t.2.1) (r := t.2.2) hbw HX.out HPx.out HRx.out HMx.out)
    | false =>
      have HT3_ : Hid ((if o = [] ∧ stands [33] s = true then notF (insideF deep 1 po s) else verAt kd (blanks (s.drop o.length))) = t) := (if_neg (by rw [h40]; simp)).symm.trans HT2_.out
      clear h40 HT2_
      have HVER : Hid (∀ (W : World) (q : Nat) (s2 : List UInt8), Rd W b A n c q → Row W A n l → Pl l q s2 → Calls Tryd.prog 47 #[.pointer (some ⟨b, 0, none⟩), .int .i64 kd] W (RgPost b A n c l W (verAt kd s2))) := fun W q s2 h1 h2 h3 => ver_any b A n c q l s2 kd W h1 h2 hc h3
      have hsz : ((mk o).size : Int) = (o.length : Int) := rfl
      have hpo := HOS.out
      by_cases ho0 : o = []
      · subst ho0
        have he1 := mk_empty
        have he2 := mk_eq0
        go_wp2_with fail
        refine (stands_any b A n c p l s [33] _ HR3.out HRow3.out hc HP.out (by decide)).mono ?_
        rintro e W4 ⟨rfl, hR, hM⟩
        have HM4 := Lib.hid (HM3.out.trans hM)
        have H74 := Lib.hid (H73.out.moved hM hne)
        have HR4 := Lib.hid hR
        have HRow4 := Lib.hid (row_keep HRow.out (HR.out.keep HM4.out))
        have HT4 := Lib.hid (HT.out.keep (HR.out.keep HM4.out))
        clear hR hM HR3 HM3 H73 HRow3 HT3
        cases h33 : stands [33] s with
        | true =>
          have HF : Hid (notF (insideF deep 1 po s) = t) := (if_pos ⟨by first | rfl | trivial, h33⟩).symm.trans HT3_.out
          have HST := Lib.hid h33
          clear h33
          go_wp2_with fail
          refine (not_ok b A n c l p s deep po _ HR4.out HRow4.out HP.out HT4.out hd HST.out ho).mono ?_
          rw [HF.out]
          rintro e W5 ⟨x, q5, rfl, hx, hP, hR, hM⟩
          unfold RV.agg
          have hz : w.heap.size < W4.heap.size := H74.out.1
          have HX : Hid (Lies W5 (From (w.heap.size + 1)) t.2.2 x) := hx.from_ hz
          have HPx := Lib.hid hP
          have HRx := Lib.hid hR
          have HMx := Lib.hid (HM4.out.trans hM)
          have H7x := Lib.hid (H74.out.moved hM hne)
          clear hx hP hR hM
          obtain ⟨y1, y2, c0, c1, c2, c3, c4, c5, c6⟩ := H7x.out
          go_wp2
          exact bodyPost_ret (v := .tuple #[.agg #[.int .i64 x.kind, .int .u64 (x.v.a : Int), .int .u64 (x.v.b : Int), .int .u64 (x.v.c : Int), .slice x.A x.v.pre.length x.c, .slice x.B x.v.build.length x.d, .slice x.L x.n x.e], .int .i64 (t.1 : Int)]) (by simp [results, Tryd.results37, go_sem, c0, c1, c2, c3, c4, c5, c6]) rfl (rg_end (x := x) (f := t.1) (s := t.2.1) (r := t.2.2) hbw HX.out HPx.out HRx.out HMx.out)
        | false =>
          have HF : Hid (verAt kd (blanks (s.drop ([] : List UInt8).length)) = t) := (if_neg (by rw [h33]; simp)).symm.trans HT3_.out
          clear h33
          obtain ⟨s2, hs2⟩ : ∃ s2, blanks (s.drop ([] : List UInt8).length) = s2 := ⟨_, rfl⟩
          rw [hs2] at HF
          go_wp2_with fail
          first
            | refine (pass_any b A n c p ([] : List UInt8).length l s _ HR4.out HRow4.out HP.out hpo).mono ?_
            | (rw [hsz]; refine (pass_any b A n c p ([] : List UInt8).length l s _ HR4.out HRow4.out HP.out hpo).mono ?_)
          rintro e W5 ⟨rfl, q5, hP, hR, hM⟩
          rw [hs2] at hP
          have HP5 := Lib.hid hP
          have HM5 := Lib.hid (HM4.out.trans hM)
          have H75 := Lib.hid (H74.out.moved hM hne)
          have HR5 := Lib.hid hR
          have HRow5 := Lib.hid (row_keep HRow.out (HR.out.keep HM5.out))
          clear hR hM hP hs2
          go_wp2_with fail
          refine (HVER.out W5 q5 s2 HR5.out HRow5.out HP5.out).mono ?_
          rw [HF.out]
          rintro e W6 ⟨x, q6, rfl, hx, hP, hR, hM⟩
          unfold RV.agg
          have hz : w.heap.size < W5.heap.size := H75.out.1
          have HX : Hid (Lies W6 (From (w.heap.size + 1)) t.2.2 x) := hx.from_ hz
          have HPx := Lib.hid hP
          have HRx := Lib.hid hR
          have HMx := Lib.hid (HM5.out.trans hM)
          have H7x := Lib.hid (H75.out.moved hM hne)
          clear hx hP hR hM
          obtain ⟨y1, y2, c0, c1, c2, c3, c4, c5, c6⟩ := H7x.out
          go_wp2
          exact bodyPost_ret (v := .tuple #[.agg #[.int .i64 x.kind, .int .u64 (x.v.a : Int), .int .u64 (x.v.b : Int), .int .u64 (x.v.c : Int), .slice x.A x.v.pre.length x.c, .slice x.B x.v.build.length x.d, .slice x.L x.n x.e], .int .i64 (t.1 : Int)]) (by simp [results, Tryd.results37, go_sem, c0, c1, c2, c3, c4, c5, c6]) rfl (rg_end (x := x) (f := t.1) (s := t.2.1) (r := t.2.2) hbw HX.out HPx.out HRx.out HMx.out)
      · have he1 := mk_some ho0
        have he2 := mk_ne0 ho0
        have HF : Hid (verAt kd (blanks (s.drop o.length)) = t) := (if_neg (fun h => ho0 h.1)).symm.trans HT3_.out
        clear ho0
        obtain ⟨s2, hs2⟩ : ∃ s2, blanks (s.drop o.length) = s2 := ⟨_, rfl⟩
        rw [hs2] at HF
        go_wp2_with fail
        first
          | refine (pass_any b A n c p o.length l s _ HR3.out HRow3.out HP.out hpo).mono ?_
          | (rw [hsz]; refine (pass_any b A n c p o.length l s _ HR3.out HRow3.out HP.out hpo).mono ?_)
        rintro e W4 ⟨rfl, q4, hP, hR, hM⟩
        rw [hs2] at hP
        have HP4 := Lib.hid hP
        have HM4 := Lib.hid (HM3.out.trans hM)
        have H74 := Lib.hid (H73.out.moved hM hne)
        have HR4 := Lib.hid hR
        have HRow4 := Lib.hid (row_keep HRow.out (HR.out.keep HM4.out))
        clear hR hM hP hs2
        go_wp2_with fail
        refine (HVER.out W4 q4 s2 HR4.out HRow4.out HP4.out).mono ?_
        rw [HF.out]
        rintro e W5 ⟨x, q5, rfl, hx, hP, hR, hM⟩
        unfold RV.agg
        have hz : w.heap.size < W4.heap.size := H74.out.1
        have HX : Hid (Lies W5 (From (w.heap.size + 1)) t.2.2 x) := hx.from_ hz
        have HPx := Lib.hid hP
        have HRx := Lib.hid hR
        have HMx := Lib.hid (HM4.out.trans hM)
        have H7x := Lib.hid (H74.out.moved hM hne)
        clear hx hP hR hM
        obtain ⟨y1, y2, c0, c1, c2, c3, c4, c5, c6⟩ := H7x.out
        go_wp2
        exact bodyPost_ret (v := .tuple #[.agg #[.int .i64 x.kind, .int .u64 (x.v.a : Int), .int .u64 (x.v.b : Int), .int .u64 (x.v.c : Int), .slice x.A x.v.pre.length x.c, .slice x.B x.v.build.length x.d, .slice x.L x.n x.e], .int .i64 (t.1 : Int)]) (by simp [results, Tryd.results37, go_sem, c0, c1, c2, c3, c4, c5, c6]) rfl (rg_end (x := x) (f := t.1) (s := t.2.1) (r := t.2.2) hbw HX.out HPx.out HRx.out HMx.out)
/-- All of the reader, by how much deeper its ones may stand. -/
theorem pone_ok (b : Nat) (A : Option Addr) (n c : Nat) (l : List UInt8) (hn : n ≤ 100000) (hc : n ≤ c) : ∀ (k : Nat) (d : Int), 0 ≤ d → d + k = 64 → PartOK 37 b A n c l d (pone k) := by
  have hev : ∀ (k : Nat) (d : Int), PartOK 37 b A n c l d (pone k) → PartOK 21 b A n c l d (exprF (pone k)) := fun k d h => by
    have h1 := every_ok b A n c l d (pone k) hn hc (pone_prog k) (pone_piece k) h
    exact expr_ok b A n c l d (everyF (pone k)) hn hc (everyF_prog (pone_prog k)) (everyF_piece (pone_piece k)) h1
  intro k
  induction k with
  | zero =>
    intro d hd0 hd
    have hd64 : d = 64 := by omega
    subst hd64
    have h := one_ok b A n c l 64 (exprF (pone (0 - 1))) (pone (0 - 1)) hc ⟨by omega, by omega⟩ (fun h => absurd rfl h) (fun h => absurd rfl h)
    intro W q t h1 h2 h3 h4
    rw [pone_oneD 0 64 (by omega)]
    exact h W q t h1 h2 h3 h4
  | succ k ih =>
    intro d hd0 hd
    have hk := ih (d + 1) (by omega) (by omega)
    have h := one_ok b A n c l d (exprF (pone (k + 1 - 1))) (pone (k + 1 - 1)) hc ⟨by omega, by omega⟩ (fun _ => hev k (d + 1) hk) (fun _ => hk)
    intro W q t h1 h2 h3 h4
    rw [pone_oneD (k + 1) d (by omega)]
    exact h W q t h1 h2 h3 h4
theorem expr64_ok (b : Nat) (A : Option Addr) (n c : Nat) (l : List UInt8) (hn : n ≤ 100000) (hc : n ≤ c) : PartOK 21 b A n c l 0 (exprF (pone 64)) := by
  have h1 := every_ok b A n c l 0 (pone 64) hn hc (pone_prog 64) (pone_piece 64) (pone_ok b A n c l hn hc 64 0 (by omega) (by omega))
  exact expr_ok b A n c l 0 (everyF (pone 64)) hn hc (everyF_prog (pone_prog 64)) (everyF_piece (pone_piece 64)) h1
end Go.Proofs.YtolkcblkciafiaaDoor.Range

namespace Go.Proofs.YtolkcblkciafiaaDoor.Range
open Go.RowKit Num Ident Semver

/-- What Parse and Read leave: the range, the place, the error's number. -/
def ParPost (w : World) (r : POut) (e : Ending) (w' : World) : Prop :=
  ∃ x : RV, e = .returned (.tuple #[x.agg, .int .i64 (r.2.1 : Int), .int .i64 (r.1 : Int)]) ∧ Lies w' (From w.heap.size) r.2.2 x ∧ Below w.heap.size w w'
theorem par_end {w W : World} {f q : Nat} {r : Rng} {x : RV} (hL : Lies W (From (w.heap.size + 1)) r x) (hb : Below w.heap.size w W) : ParPost w (f, q, r) (.returned (.tuple #[x.agg, .int .i64 (q : Int), .int .i64 (f : Int)])) (setR W w.heap.size x) :=
  ⟨x, rfl, (hL.keep (setR_keep (Nat.not_succ_le_self _) x)).from_ (Nat.le_succ _), hb.trans (setR_below _ (Nat.le_refl _) x)⟩
theorem setR_rd_lt {W : World} {g b : Nat} {A : Option Addr} {n c p : Nat} {x : RV} (h : Rd W b A n c p) (hne : b ≠ g) : Rd (setR W g x) b A n c p := by
  have hb : (setR W g x).heap[b]? = W.heap[b]? := by
    unfold setR
    simp only [Below.heap_setCell _ _ _ _ (show b ≠ Addr.block ⟨g, _, none⟩ from hne)]
  have hz : (setR W g x).heap.size = W.heap.size := by unfold setR; simp
  have kc : ∀ o, (setR W g x).cell? ⟨b, o, none⟩ = W.cell? ⟨b, o, none⟩ := fun o => World.cell?_of_block (w := W) (a := ⟨b, o, none⟩) hb
  exact ⟨by rw [hz]; exact h.lt, fun o => (World.frozen?_of_block (w := W) (a := ⟨b, o, none⟩) hb).trans (h.open_ o), (kc 0).trans h.row, (kc 1).trans h.at_, (kc 2).trans h.end_⟩
theorem KeepS.drew (S : Nat → Prop) (w : World) : KeepS S w w.drew := ⟨Nat.le_refl _, fun _ _ _ _ h => h⟩
theorem RAt.drew {W : World} {g : Nat} {x : RV} (h : RAt W g x) : RAt W.drew g x := h
theorem ParPost.drew {w W : World} {r : POut} {e : Ending} (h : ParPost w r e W) : ParPost w r e W.drew := by
  obtain ⟨x, h1, h2, h3⟩ := h
  exact ⟨x, h1, h2.keep (KeepS.drew _ _), h3.drew⟩
theorem Rd.new (w : World) (A : Option Addr) (n c p : Nat) (t : TypeId) : Rd (w.alloc (.cells #[.slice A n c, .int .i64 (p : Int)] t)) w.heap.size A n c p := by
  refine ⟨by simp, fun o => by simp [go_sem], ?_, ?_, ?_⟩ <;> simp [go_sem]
set_option maxRecDepth 100000 in
set_option maxHeartbeats 1600000 in
theorem parse_out (A : Option Addr) (n c : Nat) (l : List UInt8) (p : Int) (w : World) (h : Row w A n l) (ho : p < 0 ∨ (n : Int) < p) :
    Calls Tryd.prog 11 #[.slice A n c, .int .i64 p] w (ParPost w (pparse l p)) := by
  have HE : Hid (pparse l p = (1, 0, noRng)) := by unfold Hid pparse; rw [if_pos (by rw [h.1]; exact ho)]
  have HB : Hid (Below w.heap.size w (w.alloc (.cells #[.int .i64 0, .int .u64 0, .int .u64 0, .int .u64 0, .slice none 0 0, .slice none 0 0, .slice none 0 0] 29))) := (Below.refl _ _).alloc (Nat.le_refl _) _
  rw [HE.out]
  clear h HE
  by_cases h0 : p < 0
  · go_enter Tryd.func11, Tryd.ntmps11
    go_wp2
    exact bodyPost_ret (v := .tuple #[.agg #[.int .i64 0, .int .u64 0, .int .u64 0, .int .u64 0, .slice none 0 0, .slice none 0 0, .slice none 0 0], .int .i64 0, .int .i64 1]) (by simp [results, Tryd.results11, go_sem]) rfl (⟨zeroRV 0, rfl, Lies.zero _ _ 0, HB.out⟩)
  · have h1 : (n : Int) < p := by omega
    clear ho
    go_enter Tryd.func11, Tryd.ntmps11
    go_wp2
    exact bodyPost_ret (v := .tuple #[.agg #[.int .i64 0, .int .u64 0, .int .u64 0, .int .u64 0, .slice none 0 0, .slice none 0 0, .slice none 0 0], .int .i64 0, .int .i64 1]) (by simp [results, Tryd.results11, go_sem]) rfl (⟨zeroRV 0, rfl, Lies.zero _ _ 0, HB.out⟩)
set_option maxRecDepth 100000 in
set_option maxHeartbeats 6400000 in
theorem parse_in (A : Option Addr) (n c : Nat) (l : List UInt8) (p : Nat) (w : World) (h : Row w A n l) (hc : n ≤ c) (hn : n ≤ 100000) (hp : p ≤ n) (ht : OpsTab w) :
    Calls Tryd.prog 11 #[.slice A n c, .int .i64 p] w (ParPost w (pparse l p)) := by
  have HL := Lib.hid h.1
  have hp0 : ¬ (p : Int) < 0 := by omega
  have hp1 : ¬ n < p := by omega
  obtain ⟨b, hb⟩ : ∃ b, w.heap.size + 1 = b := ⟨_, rfl⟩
  have HR0 : Hid (Rd ((w.alloc (.cells #[.int .i64 0, .int .u64 0, .int .u64 0, .int .u64 0, .slice none 0 0, .slice none 0 0, .slice none 0 0] 29)).alloc (.cells #[.slice A n c, .int .i64 (p : Int)] 61)) b A n c p) := by have := Rd.new (w.alloc (.cells #[.int .i64 0, .int .u64 0, .int .u64 0, .int .u64 0, .slice none 0 0, .slice none 0 0, .slice none 0 0] 29)) A n c p 61; rw [size_alloc, hb] at this; exact this
  have HB0 : Hid (Below w.heap.size w ((w.alloc (.cells #[.int .i64 0, .int .u64 0, .int .u64 0, .int .u64 0, .slice none 0 0, .slice none 0 0, .slice none 0 0] 29)).alloc (.cells #[.slice A n c, .int .i64 (p : Int)] 61))) := ((Below.refl _ _).alloc (Nat.le_refl _) _).alloc (by simp) _
  have HRow0 : Hid (Row ((w.alloc (.cells #[.int .i64 0, .int .u64 0, .int .u64 0, .int .u64 0, .slice none 0 0, .slice none 0 0, .slice none 0 0] 29)).alloc (.cells #[.slice A n c, .int .i64 (p : Int)] 61)) A n l) := h.kept HB0.out
  have HT0 : Hid (OpsTab ((w.alloc (.cells #[.int .i64 0, .int .u64 0, .int .u64 0, .int .u64 0, .slice none 0 0, .slice none 0 0, .slice none 0 0] 29)).alloc (.cells #[.slice A n c, .int .i64 (p : Int)] 61))) := ht.keep (Keep.of_below HB0.out)
  have H70 : Hid (RAt ((w.alloc (.cells #[.int .i64 0, .int .u64 0, .int .u64 0, .int .u64 0, .slice none 0 0, .slice none 0 0, .slice none 0 0] 29)).alloc (.cells #[.slice A n c, .int .i64 (p : Int)] 61)) w.heap.size (zeroRV 0)) := (RAt.new w 29 (zeroRV 0)).kept ((Below.refl _ _).alloc (Nat.le_refl _) _) (by simp)
  have HPl : Hid (Pl l p (l.drop p)) := ⟨by rw [HL.out]; exact hp, rfl⟩
  have HX : Hid (PartOK 21 b A n c l 0 (exprF (pone 64))) := expr64_ok b A n c l hn hc
  have hne : w.heap.size ≠ b := by omega
  have hbs : b < (((w.alloc (.cells #[.int .i64 0, .int .u64 0, .int .u64 0, .int .u64 0, .slice none 0 0, .slice none 0 0, .slice none 0 0] 29)).alloc (.cells #[.slice A n c, .int .i64 (p : Int)] 61))).heap.size := HR0.out.lt
  obtain ⟨⟨f, s2, r⟩, hk⟩ : ∃ t, exprF (pone 64) (blanks (l.drop p)) = t := ⟨_, rfl⟩
  have HE : Hid (pparse l p = (f, l.length - s2.length, r)) := by
    unfold Hid pparse; rw [if_neg (by rw [HL.out]; omega), Int.toNat_natCast, hk]
  have HKx := Lib.hid hk
  rw [HE.out]
  clear h ht hk
  go_enter Tryd.func11, Tryd.ntmps11
  go_wp2_with fail
  try rw [hb]
  refine (pass_any b A n c p 0 l (l.drop p) _ HR0.out HRow0.out HPl.out hp).mono ?_
  rw [List.drop_zero]
  rintro e W1 ⟨rfl, q1, hq1, hR1, hM1⟩
  have HK1 := Lib.hid (HR0.out.keep hM1)
  have HRow1 := Lib.hid (row_keep HRow0.out HK1.out)
  have HT1 := Lib.hid (HT0.out.keep HK1.out)
  have H71 := Lib.hid (H70.out.moved hM1 hne)
  have HB1 := Lib.hid (HB0.out.trans ((hM1.below_of (Nat.le_of_lt hbs)).mono (by omega)))
  have HR1 := Lib.hid hR1
  have HQ1 := Lib.hid hq1
  have hbs1 : b < W1.heap.size := hR1.lt
  clear hR1 hM1 hq1 HR0 HRow0 HT0 H70 HB0 HK1
  go_wp2_with fail
  refine (HX.out W1 q1 _ HR1.out HRow1.out HT1.out HQ1.out).mono ?_
  rw [HKx.out]
  rintro e W2 ⟨x, q2, rfl, hx, hP2, hR2, hM2⟩
  unfold RV.agg
  simp only at hx hP2 ⊢
  have H72 := Lib.hid (H71.out.moved hM2 hne)
  have HB2 := Lib.hid (HB1.out.trans ((hM2.below_of (Nat.le_of_lt hbs1)).mono (by omega)))
  have HR2 := Lib.hid hR2
  have HX2 : Hid (Lies W2 (From (w.heap.size + 1)) r x) := hx.from_ (by omega)
  have hq2 : q2 = l.length - s2.length := by
    have h1 := hP2.len
    have h2 := hP2.le
    omega
  subst hq2
  clear hx hP2 hR2 hM2 H71 HB1 HR1 HRow1 HT1 HQ1 HKx HX
  obtain ⟨y1, y2, c0, c1, c2, c3, c4, c5, c6⟩ := H72.out
  have HV : Hid (RAt (((((((W2.setCell ⟨w.heap.size, 0, none⟩ (.int .i64 x.kind)).setCell ⟨w.heap.size, 1, none⟩ (.int .u64 (x.v.a : Int))).setCell ⟨w.heap.size, 2, none⟩ (.int .u64 (x.v.b : Int))).setCell ⟨w.heap.size, 3, none⟩ (.int .u64 (x.v.c : Int))).setCell ⟨w.heap.size, 4, none⟩ (.slice x.A x.v.pre.length x.c)).setCell ⟨w.heap.size, 5, none⟩ (.slice x.B x.v.build.length x.d)).setCell ⟨w.heap.size, 6, none⟩ (.slice x.L x.n x.e)) w.heap.size x) := setR_at H72.out
  have HRV : Hid (Rd (((((((W2.setCell ⟨w.heap.size, 0, none⟩ (.int .i64 x.kind)).setCell ⟨w.heap.size, 1, none⟩ (.int .u64 (x.v.a : Int))).setCell ⟨w.heap.size, 2, none⟩ (.int .u64 (x.v.b : Int))).setCell ⟨w.heap.size, 3, none⟩ (.int .u64 (x.v.c : Int))).setCell ⟨w.heap.size, 4, none⟩ (.slice x.A x.v.pre.length x.c)).setCell ⟨w.heap.size, 5, none⟩ (.slice x.B x.v.build.length x.d)).setCell ⟨w.heap.size, 6, none⟩ (.slice x.L x.n x.e)) b A n c (l.length - s2.length)) := setR_rd_lt HR2.out hne.symm
  have HBV : Hid (Below w.heap.size w (((((((W2.setCell ⟨w.heap.size, 0, none⟩ (.int .i64 x.kind)).setCell ⟨w.heap.size, 1, none⟩ (.int .u64 (x.v.a : Int))).setCell ⟨w.heap.size, 2, none⟩ (.int .u64 (x.v.b : Int))).setCell ⟨w.heap.size, 3, none⟩ (.int .u64 (x.v.c : Int))).setCell ⟨w.heap.size, 4, none⟩ (.slice x.A x.v.pre.length x.c)).setCell ⟨w.heap.size, 5, none⟩ (.slice x.B x.v.build.length x.d)).setCell ⟨w.heap.size, 6, none⟩ (.slice x.L x.n x.e))) := HB2.out.trans (setR_below _ (Nat.le_refl _) x)
  have HXV : Hid (Lies (((((((W2.setCell ⟨w.heap.size, 0, none⟩ (.int .i64 x.kind)).setCell ⟨w.heap.size, 1, none⟩ (.int .u64 (x.v.a : Int))).setCell ⟨w.heap.size, 2, none⟩ (.int .u64 (x.v.b : Int))).setCell ⟨w.heap.size, 3, none⟩ (.int .u64 (x.v.c : Int))).setCell ⟨w.heap.size, 4, none⟩ (.slice x.A x.v.pre.length x.c)).setCell ⟨w.heap.size, 5, none⟩ (.slice x.B x.v.build.length x.d)).setCell ⟨w.heap.size, 6, none⟩ (.slice x.L x.n x.e)) (From (w.heap.size + 1)) r x) := HX2.out.keep (setR_keep (Nat.not_succ_le_self _) x)
  go_upto_region 6 with (fail)
  clear y1 y2 c0 c1 c2 c3 c4 c5 c6 H72 HR2 HB2 HX2
  generalize (((((((W2.setCell ⟨w.heap.size, 0, none⟩ (.int .i64 x.kind)).setCell ⟨w.heap.size, 1, none⟩ (.int .u64 (x.v.a : Int))).setCell ⟨w.heap.size, 2, none⟩ (.int .u64 (x.v.b : Int))).setCell ⟨w.heap.size, 3, none⟩ (.int .u64 (x.v.c : Int))).setCell ⟨w.heap.size, 4, none⟩ (.slice x.A x.v.pre.length x.c)).setCell ⟨w.heap.size, 5, none⟩ (.slice x.B x.v.build.length x.d)).setCell ⟨w.heap.size, 6, none⟩ (.slice x.L x.n x.e)) = V at HV HRV HBV HXV ⊢
  have HVd : Hid (RAt V.drew w.heap.size x) := HV.out.drew
  have HRd : Hid (Rd V.drew b A n c (l.length - s2.length)) := HRV.out.drew
  refine wp_region_held_drew (S := fun w' => RAt w' w.heap.size x ∧ w'.cell? ⟨b, 1, none⟩ = some (.int .i64 ((l.length - s2.length : Nat) : Int))) (by kernel_rfl) ⟨HVd.out, HRd.out.at_⟩ (fun hHeld => ?_)
  refine wpAnyH_take (i := 0) (oi := { dst := some 25, op := Op.load 29 (Operand.tmp 4), type := 29, pos := "rangeexpr.go:45", after := #[], guard := none }) (v := .agg #[.int .i64 x.kind, .int .u64 (x.v.a : Int), .int .u64 (x.v.b : Int), .int .u64 (x.v.c : Int), .slice x.A x.v.pre.length x.c, .slice x.B x.v.build.length x.d, .slice x.L x.n x.e]) rfl (by kernel_rfl) (by kernel_rfl) (by kernel_rfl) (fun _ _ _ h => h) (Or.inl ⟨by rfl, fun w' hS' => by obtain ⟨_, _, x0, x1, x2, x3, x4, x5, x6⟩ := hS'.1; go_simp⟩) (by assumption) ?_
  simp only [Act.put, List.setIfInBounds_toArray, List.set_cons_zero, List.set_cons_succ]
  refine wpAnyH_take (i := 1) (oi := { dst := some 26, op := Op.fieldAddr 61 (Operand.tmp 7) 1, type := 0, pos := "rangeexpr.go:45", after := #[{ on := 4, ground := Ground.gcOnly Departure.lateStores }], guard := none }) (v := .pointer (some ⟨b, 1, none⟩)) rfl (by kernel_rfl) (by kernel_rfl) (by kernel_rfl) (fun _ _ _ h => h) (Or.inl ⟨by rfl, fun w' hS' => by go_simp⟩) (by assumption) ?_
  simp only [Act.put, List.setIfInBounds_toArray, List.set_cons_zero, List.set_cons_succ]
  refine wpAnyH_take (i := 2) (oi := { dst := some 27, op := Op.load 3 (Operand.tmp 26), type := 3, pos := "rangeexpr.go:45", after := #[{ on := 1, ground := Ground.data }, { on := 4, ground := Ground.gcOnly Departure.lateStores }], guard := none }) (v := .int .i64 ((l.length - s2.length : Nat) : Int)) rfl (by kernel_rfl) (by kernel_rfl) (by kernel_rfl) (fun _ _ _ h => h) (Or.inl ⟨by rfl, fun w' hS' => by have x := hS'.2; go_simp⟩) (by assumption) ?_
  simp only [Act.put, List.setIfInBounds_toArray, List.set_cons_zero, List.set_cons_succ]
  refine wpAnyH_take (i := 3) (oi := { dst := some 28, op := Op.move (Operand.tmp 6), type := 30, pos := "rangeexpr.go:45", after := #[{ on := 5, ground := Ground.gcOnly Departure.lateStores }], guard := none }) (v := .int .i64 (f : Int)) rfl (by kernel_rfl) (by kernel_rfl) (by kernel_rfl) (fun _ _ _ h => h) (Or.inl ⟨by rfl, fun w' hS' => by go_simp⟩) (by assumption) ?_
  simp only [Act.put, List.setIfInBounds_toArray, List.set_cons_zero, List.set_cons_succ]
  refine wpAnyH_ready (rs := [4]) (by kernel_rfl) (by simp) ?_
  refine AllReadyH.cons (o := { dst := none, op := Op.store 29 (Operand.tmp 4) (Operand.tmp 25), type := 0, pos := "rangeexpr.go:45", after := #[{ on := 0, ground := Ground.data }, { on := 0, ground := Ground.phase }, { on := 1, ground := Ground.textOnly Departure.lateStores }, { on := 2, ground := Ground.textOnly Departure.lateStores }, { on := 3, ground := Ground.textOnly Departure.lateStores }], guard := none }) rfl (fun K hK => ?_) AllReadyH.nil
  obtain ⟨z1, z2, x0, x1, x2, x3, x4, x5, x6⟩ := HV.out
  go_simp
  have HV2 : Hid (RAt (setR V w.heap.size x).drew w.heap.size x) := RAt.drew (setR_at HV.out)
  have HRV2 : Hid (Rd (setR V w.heap.size x).drew b A n c (l.length - s2.length)) := (setR_rd_lt HRV.out hne.symm).drew
  have HP2 : Hid (ParPost w (f, l.length - s2.length, r) (.returned (.tuple #[x.agg, .int .i64 ((l.length - s2.length : Nat) : Int), .int .i64 (f : Int)])) (setR V w.heap.size x).drew) := ParPost.drew (par_end HXV.out HBV.out)
  clear z1 z2 x0 x1 x2 x3 x4 x5 x6 hHeld
  refine hK.out _ _ ⟨HV2.out, HRV2.out.at_⟩ (fun hHeld => ?_)
  clear hK K
  try simp only [Act.put, List.setIfInBounds_toArray, List.set_cons_zero, List.set_cons_succ]
  refine wpAnyH_take (i := 5) (oi := { dst := some 5, op := Op.assign (Operand.tmp 27), type := 3, pos := "rangeexpr.go:45", after := #[{ on := 2, ground := Ground.data }, { on := 4, ground := Ground.chain }, { on := 0, ground := Ground.phase }, { on := 1, ground := Ground.phase }, { on := 2, ground := Ground.phase }, { on := 3, ground := Ground.textOnly Departure.lateStores }, { on := 4, ground := Ground.phase }], guard := none }) (v := .int .i64 ((l.length - s2.length : Nat) : Int)) rfl (by kernel_rfl) (by kernel_rfl) (by kernel_rfl) (fun _ _ _ h => h) (Or.inl ⟨by rfl, fun w' hS' => by go_simp⟩) (by assumption) ?_
  simp only [Act.put, List.setIfInBounds_toArray, List.set_cons_zero, List.set_cons_succ]
  refine wpAnyH_take (i := 6) (oi := { dst := some 6, op := Op.assign (Operand.tmp 28), type := 30, pos := "rangeexpr.go:45", after := #[{ on := 3, ground := Ground.data }, { on := 5, ground := Ground.chain }, { on := 0, ground := Ground.phase }, { on := 1, ground := Ground.phase }, { on := 2, ground := Ground.phase }, { on := 3, ground := Ground.phase }, { on := 4, ground := Ground.phase }, { on := 5, ground := Ground.phase }], guard := none }) (v := .int .i64 (f : Int)) rfl (by kernel_rfl) (by kernel_rfl) (by kernel_rfl) (fun _ _ _ h => h) (Or.inl ⟨by rfl, fun w' hS' => by go_simp⟩) (by assumption) ?_
  simp only [Act.put, List.setIfInBounds_toArray, List.set_cons_zero, List.set_cons_succ]
  refine wpAnyH_done (by kernel_rfl) ?_ _
  change Exit.then _ _ _ _ (setR V w.heap.size x).drew
  generalize (setR V w.heap.size x).drew = U at HV2 HP2 ⊢
  obtain ⟨z1, z2, x0, x1, x2, x3, x4, x5, x6⟩ := HV2.out
  go_wp2
  exact bodyPost_ret (v := .tuple #[.agg #[.int .i64 x.kind, .int .u64 (x.v.a : Int), .int .u64 (x.v.b : Int), .int .u64 (x.v.c : Int), .slice x.A x.v.pre.length x.c, .slice x.B x.v.build.length x.d, .slice x.L x.n x.e], .int .i64 ((l.length - s2.length : Nat) : Int), .int .i64 (f : Int)]) (by simp [results, Tryd.results11, go_sem, x0, x1, x2, x3, x4, x5, x6]) rfl HP2.out

theorem parse_any (A : Option Addr) (n c : Nat) (l : List UInt8) (p : Int) (w : World) (h : Row w A n l) (hc : n ≤ c) (hn : n ≤ 100000) (ht : OpsTab w) :
    Calls Tryd.prog 11 #[.slice A n c, .int .i64 p] w (ParPost w (pparse l p)) := by
  by_cases ho : p < 0 ∨ (n : Int) < p
  · exact parse_out A n c l p w h ho
  · obtain ⟨k, rfl⟩ := Int.eq_ofNat_of_zero_le (show 0 ≤ p by omega)
    exact parse_in A n c l k w h hc hn (by omega) ht
set_option maxRecDepth 100000 in
set_option maxHeartbeats 3200000 in
theorem read_any (s : ByteArray) (w : World) (hs : s.size ≤ 100000) (ht : OpsTab w) :
    Calls Tryd.prog 7 #[.string s] w (ParPost w (pread s.data.toList)) := by
  have HL := Lib.hid (Lib.size_eq s)
  obtain ⟨cc, W, hcc, hcv, hr, hb⟩ := run_bytes (w.alloc (.cells #[.int .i64 0, .int .u64 0, .int .u64 0, .int .u64 0, .slice none 0 0, .slice none 0 0, .slice none 0 0] 29)) s (by unfold maxLen; omega)
  have H7 : Hid (RAt W w.heap.size (zeroRV 0)) := (RAt.new w 29 (zeroRV 0)).kept hb (by simp)
  have HB : Hid (Below w.heap.size w W) := ((Below.refl w.heap.size w).alloc (Nat.le_refl _) _).trans (hb.mono (by simp))
  have HT : Hid (OpsTab W) := ht.keep (Keep.of_below HB.out)
  have hz : w.heap.size + 1 ≤ W.heap.size := by have := hb.size; simpa using this
  rw [size_alloc] at hr hcv
  have HR := Lib.hid hr
  clear hr hb ht
  generalize s.data.toList = l at HL HR
  have HP := Lib.hid (fun A n c W hW hc hn hT => parse_any A n c l 0 W hW hc hn hT)
  have HI : Hid (pread l = if (pparse l 0).1 ≠ 0 then ((pparse l 0).1, (pparse l 0).2.1, noRng) else if (pparse l 0).2.1 ≠ l.length then (13, (pparse l 0).2.1, noRng) else (0, 0, (pparse l 0).2.2)) := rfl
  obtain ⟨⟨f, q, r⟩, hk⟩ : ∃ t, pparse l 0 = t := ⟨_, rfl⟩
  rw [hk] at HP HI
  simp only at HI
  clear hk
  go_enter Tryd.func7, Tryd.ntmps7
  go_wp2_with fail
  refine (HP.out _ _ _ W HR.out hcc hs HT.out).mono ?_
  rintro e W1 ⟨x, rfl, hx, hb1⟩
  unfold RV.agg
  simp only at hx ⊢
  have H71 := Lib.hid (H7.out.kept hb1 (by omega))
  have HB1 := Lib.hid (HB.out.trans (hb1.mono (by omega)))
  have HX : Hid (Lies W1 (From (w.heap.size + 1)) r x) := hx.from_ (by omega)
  obtain ⟨y1, y2, c0, c1, c2, c3, c4, c5, c6⟩ := H71.out
  have HV : Hid (RAt (((((((W1.setCell ⟨w.heap.size, 0, none⟩ (.int .i64 x.kind)).setCell ⟨w.heap.size, 1, none⟩ (.int .u64 (x.v.a : Int))).setCell ⟨w.heap.size, 2, none⟩ (.int .u64 (x.v.b : Int))).setCell ⟨w.heap.size, 3, none⟩ (.int .u64 (x.v.c : Int))).setCell ⟨w.heap.size, 4, none⟩ (.slice x.A x.v.pre.length x.c)).setCell ⟨w.heap.size, 5, none⟩ (.slice x.B x.v.build.length x.d)).setCell ⟨w.heap.size, 6, none⟩ (.slice x.L x.n x.e)) w.heap.size x) := setR_at H71.out
  have HBV : Hid (Below w.heap.size w (((((((W1.setCell ⟨w.heap.size, 0, none⟩ (.int .i64 x.kind)).setCell ⟨w.heap.size, 1, none⟩ (.int .u64 (x.v.a : Int))).setCell ⟨w.heap.size, 2, none⟩ (.int .u64 (x.v.b : Int))).setCell ⟨w.heap.size, 3, none⟩ (.int .u64 (x.v.c : Int))).setCell ⟨w.heap.size, 4, none⟩ (.slice x.A x.v.pre.length x.c)).setCell ⟨w.heap.size, 5, none⟩ (.slice x.B x.v.build.length x.d)).setCell ⟨w.heap.size, 6, none⟩ (.slice x.L x.n x.e))) := HB1.out.trans (setR_below _ (Nat.le_refl _) x)
  have HXV : Hid (Lies (((((((W1.setCell ⟨w.heap.size, 0, none⟩ (.int .i64 x.kind)).setCell ⟨w.heap.size, 1, none⟩ (.int .u64 (x.v.a : Int))).setCell ⟨w.heap.size, 2, none⟩ (.int .u64 (x.v.b : Int))).setCell ⟨w.heap.size, 3, none⟩ (.int .u64 (x.v.c : Int))).setCell ⟨w.heap.size, 4, none⟩ (.slice x.A x.v.pre.length x.c)).setCell ⟨w.heap.size, 5, none⟩ (.slice x.B x.v.build.length x.d)).setCell ⟨w.heap.size, 6, none⟩ (.slice x.L x.n x.e)) (From (w.heap.size + 1)) r x) := HX.out.keep (setR_keep (Nat.not_succ_le_self _) x)
  clear hx hb1 H7 HB HT hcv HR
  go_upto_region 2 with (fail)
  clear y1 y2 c0 c1 c2 c3 c4 c5 c6 H71 HB1 HX
  generalize (((((((W1.setCell ⟨w.heap.size, 0, none⟩ (.int .i64 x.kind)).setCell ⟨w.heap.size, 1, none⟩ (.int .u64 (x.v.a : Int))).setCell ⟨w.heap.size, 2, none⟩ (.int .u64 (x.v.b : Int))).setCell ⟨w.heap.size, 3, none⟩ (.int .u64 (x.v.c : Int))).setCell ⟨w.heap.size, 4, none⟩ (.slice x.A x.v.pre.length x.c)).setCell ⟨w.heap.size, 5, none⟩ (.slice x.B x.v.build.length x.d)).setCell ⟨w.heap.size, 6, none⟩ (.slice x.L x.n x.e)) = V at HV HBV HXV ⊢
  obtain ⟨y1, y2, c0, c1, c2, c3, c4, c5, c6⟩ := HV.out
  by_cases h0 : f = 0
  · subst h0
    by_cases h1 : q = s.size
    · have HI2 : Hid (pread l = (0, 0, r)) := HI.out.trans ((if_neg (by simp)).trans (if_neg (by rw [← HL.out]; simpa using h1)))
      have hb1 : ((q : Int) != (s.size : Int)) = false := by simp [h1]
      clear h1 HI
      go_wp2
      exact bodyPost_ret (v := .tuple #[.agg #[.int .i64 x.kind, .int .u64 (x.v.a : Int), .int .u64 (x.v.b : Int), .int .u64 (x.v.c : Int), .slice x.A x.v.pre.length x.c, .slice x.B x.v.build.length x.d, .slice x.L x.n x.e], .int .i64 0, .int .i64 0]) (by simp [results, Tryd.results7, go_sem, c0, c1, c2, c3, c4, c5, c6]) rfl (by rw [HI2.out]; exact par_end (x := x) (f := 0) (q := 0) HXV.out HBV.out)
    · have HI2 : Hid (pread l = (13, q, noRng)) := HI.out.trans ((if_neg (by simp)).trans (if_pos (by rw [← HL.out]; exact h1)))
      have hb1 : ((q : Int) != (s.size : Int)) = true := by simp; omega
      clear h1 HI
      go_wp2
      exact bodyPost_ret (v := .tuple #[.agg #[.int .i64 0, .int .u64 0, .int .u64 0, .int .u64 0, .slice none 0 0, .slice none 0 0, .slice none 0 0], .int .i64 (q : Int), .int .i64 13]) (by simp [results, Tryd.results7, go_sem, c0, c1, c2, c3, c4, c5, c6]) rfl (by rw [HI2.out]; exact par_end (x := zeroRV 0) (f := 13) (Lies.zero _ _ 0) HBV.out)
  · have HI2 : Hid (pread l = (f, q, noRng)) := HI.out.trans (if_pos h0)
    have hb1 : ((f : Int) != 0) = true := by simp [h0]
    have hb2 : ((f : Int) == 0) = false := by simp [h0]
    clear h0 HI
    go_wp2
    exact bodyPost_ret (v := .tuple #[.agg #[.int .i64 0, .int .u64 0, .int .u64 0, .int .u64 0, .slice none 0 0, .slice none 0 0, .slice none 0 0], .int .i64 (q : Int), .int .i64 (f : Int)]) (by simp [results, Tryd.results7, go_sem, c0, c1, c2, c3, c4, c5, c6]) rfl (by rw [HI2.out]; exact par_end (x := zeroRV 0) (Lies.zero _ _ 0) HBV.out)
end Go.Proofs.YtolkcblkciafiaaDoor.Range

namespace Go.Proofs.YtolkcblkciafiaaDoor.Range
open Go.RowKit Num Ident Semver

def ex1 : List UInt8 := (⟨#[94, 49, 46, 50, 46, 51, 32, 124, 124, 32, 62, 61, 50, 46, 48, 46, 48, 44, 32, 33, 61, 50, 46, 49, 46, 48]⟩ : ByteArray).data.toList
theorem ex_whole : (pread ex1).1 = 0 ∧ (pread ex1).2.1 = 0 ∧ (pread ex1).2.2.kind = 10 ∧ (pread ex1).2.2.subs.length = 2 ∧ ((pread ex1).2.2.subs.getD 1 noRng).kind = 9 := by decide +kernel
theorem ex_short : (pread (⟨#[40, 49, 46, 48, 46, 48]⟩ : ByteArray).data.toList).1 = 5 ∧ (pread (⟨#[40, 49, 46, 48, 46, 48]⟩ : ByteArray).data.toList).2.1 = 6 := by decide +kernel
set_option maxRecDepth 100000 in
set_option maxHeartbeats 3200000 in
theorem awake_any (w : World) (ht : OpsTab w) :
    Calls Tryd.prog 6 #[] w fun e w' => e = .returned (.bool true) ∧ Below w.heap.size w w' := by
  have HT := Lib.hid ht
  clear ht
  obtain ⟨⟨f, q, r⟩, hk⟩ : ∃ t, pread ex1 = t := ⟨_, rfl⟩
  obtain ⟨⟨f2, q2, r2⟩, hk2⟩ : ∃ t, pread (⟨#[40, 49, 46, 48, 46, 48]⟩ : ByteArray).data.toList = t := ⟨_, rfl⟩
  have h1 := ex_whole
  have h2 := ex_short
  rw [hk] at h1
  rw [hk2] at h2
  obtain ⟨a1, a2, a3, a4, a5⟩ := h1
  obtain ⟨b1, b2⟩ := h2
  simp only at a1 a2 a3 a4 a5 b1 b2
  subst a1; subst a2; subst b1; subst b2
  have HK := Lib.hid hk
  have HK2 := Lib.hid hk2
  have A3 := Lib.hid a3
  have A4 := Lib.hid a4
  have A5 := Lib.hid a5
  clear hk hk2 a3 a4 a5
  go_enter Tryd.func6, Tryd.ntmps6
  go_wp2_with fail
  refine (read_any ⟨#[94, 49, 46, 50, 46, 51, 32, 124, 124, 32, 62, 61, 50, 46, 48, 46, 48, 44, 32, 33, 61, 50, 46, 49, 46, 48]⟩ _ (by decide) HT.out).mono ?_
  rw [show (⟨#[94, 49, 46, 50, 46, 51, 32, 124, 124, 32, 62, 61, 50, 46, 48, 46, 48, 44, 32, 33, 61, 50, 46, 49, 46, 48]⟩ : ByteArray).data.toList = ex1 from rfl, HK.out]
  rintro e W1 ⟨x, rfl, hx, hb1⟩
  unfold RV.agg
  simp only at hx ⊢
  have HB1 := Lib.hid hb1
  have hz1 := hb1.size
  clear hb1
  have hs := hx.says
  obtain ⟨fn, hn, hcl, hli⟩ := hs.subs
  have hkd : x.kind = 10 := by rw [← hs.kind]; exact A3.out
  have hxn : x.n = 2 := by rw [← hn]; exact A4.out
  obtain ⟨g, o, hL, _, hce⟩ := hcl (by omega)
  have hk1 : (fn 1).kind = 9 := by rw [← (hli 1 (by omega)).says.kind]; exact A5.out
  have hce1 : W1.cell? ⟨g, o + 7, none⟩ = some (.int .i64 9) := by
    have := (hce 1 (by omega)).cells.1
    rw [hk1, Nat.one_mul] at this
    exact this
  obtain ⟨kd, v, A1, c1, B1, d1, L, n, e1⟩ := x
  simp only at hkd hxn hL
  subst hkd; subst hxn; subst hL
  clear hs hn hcl hli hce hk1 hx
  have hg := block_lt hce1
  have HB2 : Hid (Below w.heap.size w (W1.alloc (.cells #[.int .i64 10, .int .u64 (v.a : Int), .int .u64 (v.b : Int), .int .u64 (v.c : Int), .slice A1 v.pre.length c1, .slice B1 v.build.length d1, .slice (some ⟨g, o, none⟩) 2 e1] 29))) := HB1.out.alloc hz1 _
  have HA2 : Hid (RAt (W1.alloc (.cells #[.int .i64 10, .int .u64 (v.a : Int), .int .u64 (v.b : Int), .int .u64 (v.c : Int), .slice A1 v.pre.length c1, .slice B1 v.build.length d1, .slice (some ⟨g, o, none⟩) 2 e1] 29)) W1.heap.size ⟨10, v, A1, c1, B1, d1, some ⟨g, o, none⟩, 2, e1⟩) := RAt.new W1 29 ⟨10, v, A1, c1, B1, d1, some ⟨g, o, none⟩, 2, e1⟩
  have HT2 : Hid (OpsTab (W1.alloc (.cells #[.int .i64 10, .int .u64 (v.a : Int), .int .u64 (v.b : Int), .int .u64 (v.c : Int), .slice A1 v.pre.length c1, .slice B1 v.build.length d1, .slice (some ⟨g, o, none⟩) 2 e1] 29))) := HT.out.keep (Keep.of_below HB2.out)
  have HC2 : Hid ((W1.alloc (.cells #[.int .i64 10, .int .u64 (v.a : Int), .int .u64 (v.b : Int), .int .u64 (v.c : Int), .slice A1 v.pre.length c1, .slice B1 v.build.length d1, .slice (some ⟨g, o, none⟩) 2 e1] 29)).cell? ⟨g, o + 7, none⟩ = some (.int .i64 9)) := (((Below.refl W1.heap.size W1).alloc (Nat.le_refl _) _).cell (p := ⟨g, o + 7, none⟩) hg).trans hce1
  clear hce1
  go_wp2_with fail
  refine (read_any ⟨#[40, 49, 46, 48, 46, 48]⟩ _ (by decide) HT2.out).mono ?_
  rw [HK2.out]
  rintro e W2 ⟨x2, rfl, hx2, hb2⟩
  unfold RV.agg
  simp only at hx2 ⊢
  have HB3 := Lib.hid (HB2.out.trans (hb2.mono (by simp; omega)))
  have HA3 := Lib.hid (HA2.out.kept hb2 (by simp))
  have HC3 : W2.cell? ⟨g, o + 7, none⟩ = some (.int .i64 9) := (hb2.cell (p := ⟨g, o + 7, none⟩) (by simp; omega)).trans HC2.out
  have hz3 : w.heap.size ≤ W2.heap.size := HB3.out.size
  have hgz : g < W2.heap.size := block_lt HC3
  clear hb2 hx2
  obtain ⟨y1, y2, z0, z1, z2, z3, z4, z5, z6⟩ := HA3.out
  go_wp2
  go_ret
  exact ⟨rfl, HB3.out.alloc hz3 _⟩
end Go.Proofs.YtolkcblkciafiaaDoor.Range

namespace Go.Proofs.YtolkcblkciafiaaDoor.Range
open Num Ident Semver

/-- What stands behind goes on with no version. -/
def Stop (B : List UInt8) : Prop := ∀ b t, B = b :: t → isId b = false ∧ b.toNat ≠ 46 ∧ b.toNat ≠ 43
theorem Stop.nil : Stop [] := fun b t h => by cases h
theorem Stop.cons {b : UInt8} {t : List UInt8} (h : isId b = false ∧ b.toNat ≠ 46 ∧ b.toNat ≠ 43) : Stop (b :: t) := fun b' t' e => by injection e with e _; rw [← e]; exact h
theorem id_dig {b : UInt8} (h : isId b = false) : isDig b = false := by
  cases hd : isDig b with
  | false => rfl
  | true => unfold isId at h; rw [hd] at h; simp at h
theorem id_45 {b : UInt8} (h : isId b = false) : b.toNat ≠ 45 := by
  intro e
  have e2 : b = 45 := UInt8.toNat_inj.1 e
  rw [e2] at h
  exact absurd h (by decide)
theorem run_ext {B : List UInt8} (hB : Stop B) : ∀ x : List UInt8, run (x ++ B) = run x
  | [] => by
    cases B with
    | nil => rfl
    | cons b t =>
      have h := id_dig (hB b t rfl).1
      show run (b :: t) = 0
      unfold run; rw [h]; rfl
  | b :: x => by rw [List.cons_append, run, run, run_ext hB x]
theorem parse_ext {B : List UInt8} (hB : Stop B) {l : List UInt8} {p : Nat} (hp : p ≤ l.length) : parse (l ++ B) p = parse l p := by
  have a1 : ¬ ((p : Int) < 0 ∨ ((l ++ B).length : Int) < (p : Int)) := by rw [List.length_append]; omega
  have a2 : ¬ ((p : Int) < 0 ∨ (l.length : Int) < (p : Int)) := by omega
  unfold parse
  rw [if_neg a1, if_neg a2, Int.toNat_natCast, List.drop_append_of_le_length hp]
  simp only [run_ext hB, List.take_append_of_le_length (run_le (l.drop p))]
theorem go_ext {B : List UInt8} (hB : Stop B) (pre : Bool) : ∀ (x w : List UInt8) (acc : List (List UInt8)) (n : Nat), go pre (x ++ B) w acc n = go pre x w acc n
  | [], w, acc, n => by
    cases B with
    | nil => rfl
    | cons b t => rw [List.nil_append, go_else (hB b t rfl).1 (hB b t rfl).2.1, go]
  | b :: x, w, acc, n => by rw [List.cons_append, go, go, go_ext hB pre x, go_ext hB pre x]
theorem row_ext {B : List UInt8} (hB : Stop B) {l : List UInt8} {p : Nat} (pre : Bool) (hp : p ≤ l.length) : row (l ++ B) (p : Int) pre = row l (p : Int) pre := by
  have a1 : ¬ ((p : Int) < 0 ∨ ((l ++ B).length : Int) < (p : Int)) := by rw [List.length_append]; omega
  have a2 : ¬ ((p : Int) < 0 ∨ (l.length : Int) < (p : Int)) := by omega
  unfold row
  rw [if_neg a1, if_neg a2, Int.toNat_natCast, List.drop_append_of_le_length hp, go_ext hB]
theorem byte_in (l B : List UInt8) {q : Nat} (hq : q < l.length) : byteAt (l ++ B) q = byteAt l q := by
  unfold byteAt List.getD
  rw [List.getElem?_append_left hq]
theorem byte_end (l : List UInt8) {B : List UInt8} (hB : Stop B) : byteAt (l ++ B) l.length ≠ 46 ∧ byteAt (l ++ B) l.length ≠ 45 ∧ byteAt (l ++ B) l.length ≠ 43 := by
  have := byteAt_place l B 0
  rw [Nat.add_zero] at this
  rw [this]
  cases B with
  | nil => decide
  | cons b t =>
    have h := hB b t rfl
    have h2 := id_45 h.1
    unfold byteAt
    simp only [List.getD_cons_zero]
    omega
theorem point_ext {B : List UInt8} (hB : Stop B) {l : List UInt8} {q : Nat} (hq : q ≤ l.length) : point (l ++ B) q = 0 ↔ point l q = 0 := by
  by_cases h : q = l.length
  · subst h
    rw [point_end rfl]
    by_cases h2 : l.length = (l ++ B).length
    · rw [point_end h2]
    · rw [Semver.point_no h2 (byte_end l hB).1]; simp
  · unfold point
    rw [byte_in l B (by omega), if_neg h, if_neg (by rw [List.length_append]; omega)]
theorem rowAt_ext {B : List UInt8} (hB : Stop B) {l : List UInt8} {p m : Nat} (hm : m = 45 ∨ m = 43) (hp : p ≤ l.length) : Semver.rowAt (l ++ B) p m = Semver.rowAt l p m := by
  by_cases h : p = l.length
  · rw [rowAt_none (.inl h), rowAt_none]
    right
    rw [h]
    have := byte_end l hB
    rcases hm with rfl | rfl
    · exact this.2.1
    · exact this.2.2
  · unfold Semver.rowAt
    rw [byte_in l B (by omega), row_ext hB _ (by omega)]
    have e : (p = (l ++ B).length ∨ byteAt l p ≠ (m : Int)) ↔ (p = l.length ∨ byteAt l p ≠ (m : Int)) := by
      rw [List.length_append]
      constructor
      · rintro (h1 | h1)
        · omega
        · exact .inr h1
      · rintro (h1 | h1)
        · omega
        · exact .inr h1
    simp only [e]
/-- The same but for which error it is. -/
def Alike {α : Type} (a b : Nat × α) : Prop := (a.1 = 0 ↔ b.1 = 0) ∧ a.2 = b.2
theorem Alike.refl {α : Type} (a : Nat × α) : Alike a a := ⟨Iff.rfl, rfl⟩
theorem core2_ext {B : List UInt8} (hB : Stop B) {l : List UInt8} (x y : Nat) {p : Nat} (hp : p ≤ l.length) : core2 (l ++ B) x y p = core2 l x y p := by
  unfold core2; rw [parse_ext hB hp]
theorem after2_ext {B : List UInt8} (hB : Stop B) {l : List UInt8} (x y : Nat) {q : Nat} (hq : q ≤ l.length) : Alike (after2 (l ++ B) x y q) (after2 l x y q) := by
  have h := point_ext hB hq
  unfold after2
  by_cases h0 : point l q = 0
  · rw [if_neg (by simp [h.2 h0]), if_neg (by simp [h0]), core2_ext hB x y (point_lt hq h0)]
    exact Alike.refl _
  · have h1 : point (l ++ B) q ≠ 0 := fun e => h0 (h.1 e)
    rw [if_pos h1, if_pos h0]
    exact ⟨⟨fun e => absurd e h1, fun e => absurd e h0⟩, rfl⟩
theorem core1_ext {B : List UInt8} (hB : Stop B) {l : List UInt8} (x : Nat) {p : Nat} (hp : p ≤ l.length) : Alike (core1 (l ++ B) x p) (core1 l x p) := by
  unfold core1
  rw [parse_ext hB hp]
  split
  · exact Alike.refl _
  · exact after2_ext hB _ _ (parse_end l p hp)
theorem after1_ext {B : List UInt8} (hB : Stop B) {l : List UInt8} (x : Nat) {q : Nat} (hq : q ≤ l.length) : Alike (after1 (l ++ B) x q) (after1 l x q) := by
  have h := point_ext hB hq
  unfold after1
  by_cases h0 : point l q = 0
  · rw [if_neg (by simp [h.2 h0]), if_neg (by simp [h0])]
    exact core1_ext hB x (point_lt hq h0)
  · have h1 : point (l ++ B) q ≠ 0 := fun e => h0 (h.1 e)
    rw [if_pos h1, if_pos h0]
    exact ⟨⟨fun e => absurd e h1, fun e => absurd e h0⟩, rfl⟩
theorem core_ext {B : List UInt8} (hB : Stop B) {l : List UInt8} {p : Nat} (hp : p ≤ l.length) : Alike (core (l ++ B) p) (core l p) := by
  unfold core
  rw [parse_ext hB hp]
  split
  · exact Alike.refl _
  · exact after1_ext hB _ (parse_end l p hp)
theorem vparse_ext {B : List UInt8} (hB : Stop B) (l : List UInt8) : Alike (vparse (l ++ B) 0) (vparse l 0) := by
  unfold vparse
  rw [if_neg (by omega), if_neg (by omega), Int.toNat_zero]
  obtain ⟨h1, h2⟩ := core_ext hB (Nat.zero_le l.length)
  have hce := core_end l 0 (Nat.zero_le _)
  unfold inside
  rw [h2]
  by_cases h0 : (core l 0).1 = 0
  · rw [if_neg (by simp [h1.2 h0]), if_neg (by simp [h0])]
    have hre := rowAt_end l (core l 0).2.1 45 hce
    unfold tail1
    rw [rowAt_ext hB (.inl rfl) hce]
    split
    · exact Alike.refl _
    · unfold tail2
      rw [rowAt_ext hB (.inr rfl) hre]
      exact Alike.refl _
  · have h3 : (core (l ++ B) 0).1 ≠ 0 := fun e => h0 (h1.1 e)
    rw [if_pos h3, if_pos h0]
    exact ⟨⟨fun e => absurd e h3, fun e => absurd e h0⟩, rfl⟩
/-- A right version's text is read as it, whatever stands behind that is none of a version's. -/
theorem vparse_cat {v : Ver} (h : goodV v = true) {B : List UInt8} (hB : Stop B) : vparse (vtext v ++ B) 0 = (0, (vtext v).length, v) := by
  have h1 := text_read h
  obtain ⟨e1, e2⟩ := vparse_ext hB (vtext v)
  unfold vread at h1
  generalize vparse (vtext v ++ B) 0 = t at e1 e2 ⊢
  generalize vparse (vtext v) 0 = u at e1 e2 h1
  generalize (vtext v).length = n at h1 ⊢
  obtain ⟨x, y, z⟩ := t
  obtain ⟨f, q, r⟩ := u
  simp only at e1 e2 h1
  by_cases h0 : f ≠ 0
  · rw [if_pos h0] at h1
    exact absurd (congrArg Prod.fst h1) h0
  · rw [if_neg h0] at h1
    have hf : f = 0 := by simpa using h0
    by_cases h2 : q ≠ n
    · rw [if_pos h2] at h1
      exact absurd (congrArg Prod.fst h1) (show (13 : Nat) ≠ 0 by decide)
    · rw [if_neg h2] at h1
      have hq : q = n := by simpa using h2
      have hr : r = v := congrArg (fun t => t.2.2) h1
      have hx : x = 0 := e1.2 hf
      have hy : y = q := congrArg Prod.fst e2
      have hz : z = r := congrArg Prod.snd e2
      rw [hx, hy, hz, hq, hr]
end Go.Proofs.YtolkcblkciafiaaDoor.Range

namespace Go.Proofs.YtolkcblkciafiaaDoor.Range
open Num Ident Semver

theorem sameV_eq {u v : Ver} (h : sameV u v = true) : u = v := by
  unfold sameV at h
  rw [Bool.and_eq_true, Bool.and_eq_true, decide_eq_true_eq, sameB_iff, sameB_iff] at h
  obtain ⟨a, b, c, p, q⟩ := u
  obtain ⟨a', b', c', p', q'⟩ := v
  obtain ⟨⟨h1, h2, h3⟩, h4, h5⟩ := h
  simp only at h1 h2 h3 h4 h5
  rw [h1, h2, h3, h4, h5]
theorem dig_mem {b : UInt8} (h : isDig b = true) : b ∈ digits := by
  rw [isDig_iff] at h
  have h2 : b.toNat = 48 ∨ b.toNat = 49 ∨ b.toNat = 50 ∨ b.toNat = 51 ∨ b.toNat = 52 ∨ b.toNat = 53 ∨ b.toNat = 54 ∨ b.toNat = 55 ∨ b.toNat = 56 ∨ b.toNat = 57 := by omega
  have e : ∀ k : UInt8, b.toNat = k.toNat → b = k := fun k hk => UInt8.toNat_inj.1 hk
  unfold digits
  rcases h2 with h | h | h | h | h | h | h | h | h | h
  · rw [e 48 h]; decide
  · rw [e 49 h]; decide
  · rw [e 50 h]; decide
  · rw [e 51 h]; decide
  · rw [e 52 h]; decide
  · rw [e 53 h]; decide
  · rw [e 54 h]; decide
  · rw [e 55 h]; decide
  · rw [e 56 h]; decide
  · rw [e 57 h]; decide
theorem dig_no {b : UInt8} (h : isDig b = true) (k : UInt8) (hk : isDig k = false) : (k == b) = false := by
  rw [beq_eq_false_iff_ne]; intro e; rw [e, h] at hk; cases hk
theorem vtext_head (v : Ver) : ∃ b t, vtext v = b :: t ∧ isDig b = true := by
  have h := (isNum_iff (Lib.decDigits v.a)).1 (dec_num v.a)
  cases hd : Lib.decDigits v.a with
  | nil => rw [hd] at h; simp at h
  | cons b t =>
    refine ⟨b, t ++ [46] ++ Lib.decDigits v.b ++ [46] ++ Lib.decDigits v.c ++ rowText 45 v.pre ++ rowText 43 v.build, ?_, ?_⟩
    · unfold vtext; rw [hd]; simp
    · have h2 := run_dig (Lib.decDigits v.a) 0 (by rw [h.2.1]; exact h.1)
      rw [hd] at h2
      simpa using h2
theorem dig_blank {b : UInt8} (h : isDig b = true) : blankB b = false := by
  unfold blankB
  rw [isDig_iff] at h
  have h1 : b ≠ 32 := fun e => by rw [e] at h; exact absurd h.1 (by decide)
  have h2 : b ≠ 9 := fun e => by rw [e] at h; exact absurd h.1 (by decide)
  simp [h1, h2]
/-- The op of a kind, ahead of a digit. -/
theorem op_at {kind : Int} (h1 : 1 ≤ kind) (h2 : kind ≤ 8) {b : UInt8} (hb : isDig b = true) (t : List UInt8) :
    opOf (ops.getD (kind - 1).toNat [] ++ b :: t) = (kind, ops.getD (kind - 1).toNat []) ∧ ops.getD (kind - 1).toNat [] ≠ [] ∧ stands [42] (ops.getD (kind - 1).toNat [] ++ b :: t) = false ∧ stands [40] (ops.getD (kind - 1).toNat [] ++ b :: t) = false := by
  have e61 : ¬ (61 : UInt8) = b := by have := dig_no hb 61 (by decide); simpa using this
  have hk : kind = 1 ∨ kind = 2 ∨ kind = 3 ∨ kind = 4 ∨ kind = 5 ∨ kind = 6 ∨ kind = 7 ∨ kind = 8 := by omega
  rcases hk with rfl | rfl | rfl | rfl | rfl | rfl | rfl | rfl <;> simp [opOf, ops, opFrom, stands_cons, stands_nil, e61]
theorem verAt_cat {v : Ver} (hv : goodV v = true) (kind : Int) {rest : List UInt8} (hr : Stop rest) : verAt kind (vtext v ++ rest) = (0, blanks rest, .mk kind v []) := by
  obtain ⟨b, t, e, hb⟩ := vtext_head v
  have h1 : oneOf digits (vtext v ++ rest) = true := by rw [e]; exact decide_eq_true (dig_mem hb)
  have h2 := vparse_cat hv hr
  unfold verAt
  rw [if_pos h1, h2]
  simp
theorem oneF_ver {sub : Option (List UInt8 → Out)} {kind : Int} (h1 : 1 ≤ kind) (h2 : kind ≤ 8) {v : Ver} (hv : goodV v = true) {rest : List UInt8} (hr : Stop rest) : oneF sub (textR (.mk kind v []) ++ rest) = (0, blanks rest, .mk kind v []) := by
  obtain ⟨b, t, e, hb⟩ := vtext_head v
  have e1 : textR (.mk kind v []) ++ rest = ops.getD (kind - 1).toNat [] ++ b :: (t ++ rest) := by rw [text_ver h1 h2, e]; simp
  have e2 : b :: (t ++ rest) = vtext v ++ rest := by rw [e]; rfl
  obtain ⟨a1, a2, a3, a4⟩ := op_at h1 h2 hb (t ++ rest)
  have e3 : blanks ((ops.getD (kind - 1).toNat [] ++ b :: (t ++ rest)).drop (ops.getD (kind - 1).toNat []).length) = vtext v ++ rest := by
    rw [List.drop_left, blanks_no _ (dig_blank hb), e2]
  rw [e1]
  unfold oneF
  rw [a3, a4, a1]
  simp only [a2, false_and, if_false, Bool.false_eq_true]
  rw [e3]
  exact verAt_cat hv kind hr
theorem oneF_all {sub : Option (List UInt8 → Out)} (rest : List UInt8) : oneF sub (textR noRng ++ rest) = (0, blanks rest, noRng) := by
  have e : textR noRng ++ rest = 42 :: rest := rfl
  rw [e]
  unfold oneF
  rw [stands_cons, stands_nil]
  rfl
/-- What is right, kind by kind. -/
theorem good_cases {kind : Int} {v : Ver} {l : List Rng} {d : Nat} (h : goodR (.mk kind v l) d = true) :
    d ≤ 64 ∧ goodL kind l d = true ∧ ((1 ≤ kind ∧ kind ≤ 8 ∧ goodV v = true ∧ l = []) ∨ (v = noVer ∧ ((kind = 0 ∧ l = []) ∨ ((kind = 9 ∨ kind = 10) ∧ 2 ≤ l.length) ∨ (kind = 11 ∧ ∃ x, l = [x])))) := by
  rw [goodR_eq, Bool.and_eq_true, Bool.and_eq_true, decide_eq_true_eq] at h
  refine ⟨h.1.1, h.2, ?_⟩
  have hf := h.1.2
  unfold fits at hf
  by_cases h1 : ofVersion kind = true
  · rw [if_pos h1, Bool.and_eq_true, decide_eq_true_eq] at hf
    unfold ofVersion at h1
    rw [decide_eq_true_eq] at h1
    exact .inl ⟨h1.1, h1.2, hf.1, List.eq_nil_of_length_eq_zero hf.2⟩
  · rw [if_neg h1] at hf
    by_cases h2 : sameV v noVer = false
    · rw [if_pos h2] at hf; cases hf
    · rw [if_neg h2] at hf
      refine .inr ⟨sameV_eq (by simpa using h2), ?_⟩
      by_cases h3 : kind = 0
      · rw [if_pos h3, decide_eq_true_eq] at hf; exact .inl ⟨h3, List.eq_nil_of_length_eq_zero hf⟩
      · rw [if_neg h3] at hf
        by_cases h4 : kind = 9 ∨ kind = 10
        · rw [if_pos h4, decide_eq_true_eq] at hf; exact .inr (.inl ⟨h4, hf⟩)
        · rw [if_neg h4] at hf
          by_cases h5 : kind = 11
          · rw [if_pos h5, decide_eq_true_eq] at hf
            exact .inr (.inr ⟨h5, List.length_eq_one_iff.1 hf⟩)
          · rw [if_neg h5] at hf; cases hf
theorem oneOf_at (some : List UInt8) (b : UInt8) (s : List UInt8) : oneOf some (b :: s) = decide (b ∈ some) := rfl
/-- A text that begins with no blank. -/
def Bare (s : List UInt8) : Prop := ∃ b t, s = b :: t ∧ blankB b = false
theorem Bare.blanks {s : List UInt8} (h : Bare s) (r : List UInt8) : blanks (s ++ r) = s ++ r := by
  obtain ⟨b, t, rfl, hb⟩ := h
  exact blanks_no _ hb
theorem Bare.cat {s : List UInt8} (h : Bare s) (r : List UInt8) : Bare (s ++ r) := by
  obtain ⟨b, t, rfl, hb⟩ := h
  exact ⟨b, t ++ r, rfl, hb⟩
/-- A one's text, in brackets if it stands so. -/
def elt (o : Int) (x : Rng) : List UInt8 := openR o x.kind ++ textR x ++ shutR o x.kind
theorem elt_bare {o : Int} {x : Rng} (h : Bare (textR x)) : Bare (elt o x) := by
  unfold elt openR
  split
  · exact ⟨40, _, rfl, by decide⟩
  · rw [List.nil_append]; exact h.cat _
theorem op_bare {kind : Int} (h1 : 1 ≤ kind) (h2 : kind ≤ 8) : ∃ b t, ops.getD (kind - 1).toNat [] = b :: t ∧ blankB b = false ∧ (kind ≠ 5 → (61 == b) = false) := by
  have hk : kind = 1 ∨ kind = 2 ∨ kind = 3 ∨ kind = 4 ∨ kind = 5 ∨ kind = 6 ∨ kind = 7 ∨ kind = 8 := by omega
  rcases hk with rfl | rfl | rfl | rfl | rfl | rfl | rfl | rfl <;> exact ⟨_, _, rfl, by decide, by decide⟩
theorem text_many {kind : Int} (h : kind = 9 ∨ kind = 10) (v : Ver) (l : List Rng) : textR (.mk kind v l) = textL kind l.length l 0 := by
  rw [textR_eq]
  have e1 : markR kind v = [] := by unfold markR; rw [if_neg (by omega), if_pos h]
  have e2 : most kind l.length = l.length := by unfold most; rw [if_pos h]
  rw [e1, e2]; rfl
theorem text_not (v : Ver) (x : Rng) : textR (.mk 11 v [x]) = 33 :: (aheadR 11 x.kind 0 ++ elt 11 x) := by
  rw [textR_eq, textL_cons]; simp [markR, most, textL, elt]
theorem size_mem {x : Rng} {kind : Int} {v : Ver} {l : List Rng} (h : x ∈ l) : SizeOf.sizeOf x < SizeOf.sizeOf (Rng.mk kind v l) := by
  have := List.sizeOf_lt_of_mem h
  rw [Rng.mk.sizeOf_spec]; omega
theorem goodL_mem {o : Int} {x : Rng} : ∀ {l : List Rng} {d : Nat}, goodL o l d = true → x ∈ l → goodR x (d + opens o x.kind) = true
  | [], _, _, h => by cases h
  | r :: rs, d, hg, h => by
    rw [goodL_cons, Bool.and_eq_true] at hg
    rcases List.mem_cons.1 h with rfl | h
    · exact hg.1
    · exact goodL_mem hg.2 h
/-- A right range's text begins with no blank; a one's with = only if it is one of =. -/
theorem text_bare : ∀ (n : Nat) (r : Rng), SizeOf.sizeOf r ≤ n → ∀ d, goodR r d = true → Bare (textR r) := by
  intro n
  induction n with
  | zero => intro r h; cases r; rw [Rng.mk.sizeOf_spec] at h; omega
  | succ n ih =>
    rintro ⟨kind, v, l⟩ hn d hg
    obtain ⟨_, hl, h⟩ := good_cases hg
    rcases h with ⟨h1, h2, h3, rfl⟩ | ⟨rfl, ⟨rfl, rfl⟩ | ⟨h1, h2⟩ | ⟨rfl, x, rfl⟩⟩
    · obtain ⟨b, t, e, hb, _⟩ := op_bare h1 h2
      rw [text_ver h1 h2, e]; exact ⟨b, _, rfl, hb⟩
    · exact ⟨42, [], rfl, by decide⟩
    · cases l with
      | nil => simp at h2
      | cons x xs =>
        have hx := ih x (by have := size_mem (kind := kind) (v := noVer) (l := x :: xs) (x := x) (by simp); omega) _ (goodL_mem (x := x) hl (by simp))
        rw [text_many h1, textL_cons, if_pos (by simp), ahead_first _ h1, List.nil_append]
        exact (elt_bare hx).cat _
    · rw [text_not]; exact ⟨33, _, rfl, by decide⟩
theorem bare_of {r : Rng} {d : Nat} (h : goodR r d = true) : Bare (textR r) := text_bare _ r (Nat.le_refl _) d h

/-- What stands between two ones. -/
def sep (kind : Int) : List UInt8 := if kind = 10 then [32, 124, 124, 32] else [44, 32]
def seps (kind : Int) (xs : List Rng) : List UInt8 := xs.flatMap fun y => sep kind ++ elt kind y
theorem textL_seps {kind : Int} (h : kind = 9 ∨ kind = 10) (m : Nat) : ∀ (xs : List Rng) (i : Nat), i + 1 + xs.length ≤ m → textL kind m xs (i + 1) = seps kind xs
  | [], _, _ => by simp [textL, seps]
  | x :: xs, i, hm => by
    rw [List.length_cons] at hm
    have e : aheadR kind x.kind (i + 1) = sep kind := by
      unfold aheadR sep
      rw [if_neg (by rintro ⟨h1, _⟩; omega), if_neg (by omega)]
    rw [textL_cons, if_pos (by omega), e, textL_seps h m xs (i + 1) (by omega)]
    simp [seps, elt]
theorem text_list {kind : Int} (h : kind = 9 ∨ kind = 10) (v : Ver) (x : Rng) (xs : List Rng) : textR (.mk kind v (x :: xs)) = elt kind x ++ seps kind xs := by
  rw [text_many h, textL_cons, if_pos (by simp), ahead_first _ h, textL_seps h _ xs 0 (by simp; omega)]; rfl
/-- Parts that are read one by one. -/
theorem sev_list {pf : List UInt8 → Out} {ff : List UInt8 → Option (List UInt8)} {kind : Int} (Cond : List UInt8 → Prop)
    (hsep : ∀ (x : Rng) (Z : List UInt8), Bare (textR x) → Cond (sep kind ++ (elt kind x ++ Z)) ∧ ff (blanks (sep kind ++ (elt kind x ++ Z))) = some (elt kind x ++ Z)) : ∀ (xs : List Rng) (x : Rng) (acc : List Rng) (rest : List UInt8) (n : Nat), xs.length < n →
    (∀ y, y ∈ x :: xs → Bare (textR y) ∧ ∀ R, Cond R → pf (elt kind y ++ R) = (0, blanks R, y)) → Cond rest → ff (blanks rest) = none →
    sev pf ff kind n acc (elt kind x ++ (seps kind xs ++ rest)) = (0, blanks rest, if acc = [] ∧ xs = [] then x else .mk kind noVer (acc ++ x :: xs))
  | _, _, _, _, 0, h, _, _, _ => absurd h (Nat.not_lt_zero _)
  | [], x, acc, rest, n + 1, _, hy, hc, hf => by
    have h1 := (hy x (by simp)).2 rest hc
    have e : elt kind x ++ (seps kind [] ++ rest) = elt kind x ++ rest := by simp [seps]
    rw [e, sev_end (by rw [h1]) (by rw [h1]; exact hf), h1]
    unfold whole
    by_cases h0 : acc = []
    · rw [if_pos h0, if_pos ⟨h0, rfl⟩]
    · rw [if_neg h0, if_neg (fun h => h0 h.1)]
  | y :: xs, x, acc, rest, n + 1, hn, hy, hc, hf => by
    have e : seps kind (y :: xs) ++ rest = sep kind ++ (elt kind y ++ (seps kind xs ++ rest)) := by simp [seps]
    obtain ⟨s1, s2⟩ := hsep y (seps kind xs ++ rest) (hy y (by simp)).1
    rw [e]
    have h1 := (hy x (by simp)).2 _ s1
    rw [sev_on (by rw [h1]) (by rw [h1]; exact s2), h1]
    rw [sev_list Cond hsep xs y _ rest n (by simpa using hn) (fun z hz => hy z (List.mem_cons_of_mem _ hz)) hc hf]
    rw [if_neg (by rintro ⟨h, _⟩; simp at h), if_neg (by rintro ⟨_, h⟩; cases h), List.append_assoc]
    rfl
theorem sep_stop (kind : Int) (Z : List UInt8) : Stop (sep kind ++ Z) := by
  unfold sep; split
  · exact Stop.cons (by decide)
  · exact Stop.cons (by decide)
theorem sep_9 {x : Rng} (hx : Bare (textR x)) (Z : List UInt8) : furO (blanks (sep 9 ++ (elt 9 x ++ Z))) = some (elt 9 x ++ Z) := by
  have h2 : sep 9 ++ (elt 9 x ++ Z) = 44 :: 32 :: (elt 9 x ++ Z) := rfl
  rw [h2, blanks_no _ (by decide)]
  unfold furO
  rw [stands_cons, stands_nil]
  show some (blanks (32 :: (elt 9 x ++ Z))) = _
  rw [blanks_yes _ (by decide), (elt_bare hx).blanks]
theorem sep_10 {x : Rng} (hx : Bare (textR x)) (Z : List UInt8) : furO (blanks (sep 10 ++ (elt 10 x ++ Z))) = none ∧ furE (blanks (sep 10 ++ (elt 10 x ++ Z))) = some (elt 10 x ++ Z) := by
  have h2 : sep 10 ++ (elt 10 x ++ Z) = 32 :: 124 :: 124 :: 32 :: (elt 10 x ++ Z) := rfl
  rw [h2, blanks_yes _ (by decide), blanks_no _ (by decide)]
  refine ⟨?_, ?_⟩
  · unfold furO
    rw [stands_cons, if_neg (by simp), oneOf_at, if_neg (by decide)]
  · unfold furE
    rw [stands_cons, stands_cons, stands_nil]
    show some (blanks (32 :: (elt 10 x ++ Z))) = _
    rw [blanks_yes _ (by decide), (elt_bare hx).blanks]
theorem fuel_9 {pf : List UInt8 → Out} (h : Prog pf) (s : List UInt8) (m : Nat) (hm : s.length < m) : everyF pf s = sev pf furO 9 m [] s := sev_fuel h furO_piece.falls _ _ _ _ (Nat.lt_succ_self _) hm
theorem fuel_10 {pf : List UInt8 → Out} (h : Prog pf) (s : List UInt8) (m : Nat) (hm : s.length < m) : exprF pf s = sev (everyF pf) furE 10 m [] s := sev_fuel (everyF_prog h) furE_piece.falls _ _ _ _ (Nat.lt_succ_self _) hm
/-- What the three readers make of a range's text. -/
structure Reads (r : Rng) (k : Nat) (rest : List UInt8) : Prop where
  one : r.kind ≠ 9 → r.kind ≠ 10 → pone k (textR r ++ rest) = (0, blanks rest, r)
  every : r.kind ≠ 10 → furO (blanks rest) = none → everyF (pone k) (textR r ++ rest) = (0, blanks rest, r)
  expr : furO (blanks rest) = none → furE (blanks rest) = none → exprF (pone k) (textR r ++ rest) = (0, blanks rest, r)
theorem stop_41 (rest : List UInt8) : Stop (41 :: rest) := Stop.cons (by decide)
theorem end_41 (rest : List UInt8) : blanks (41 :: rest) = 41 :: rest ∧ furO (41 :: rest) = none ∧ furE (41 :: rest) = none := by
  refine ⟨blanks_no _ (by decide), ?_, ?_⟩
  · unfold furO; rw [stands_cons, if_neg (by simp), oneOf_at, if_neg (by decide)]
  · unfold furE; rw [stands_cons, if_neg (by simp)]
/-- A range in brackets. -/
theorem one_shut {x : Rng} {k : Nat} (hb : Bare (textR x)) (h : ∀ rest, Stop rest → Reads x k rest) (rest : List UInt8) : pone (k + 1) (40 :: (textR x ++ 41 :: rest)) = (0, blanks rest, x) := by
  have h1 := (h (41 :: rest) (stop_41 rest)).expr (by rw [(end_41 rest).1]; exact (end_41 rest).2.1) (by rw [(end_41 rest).1]; exact (end_41 rest).2.2)
  rw [(end_41 rest).1] at h1
  rw [pone_succ]
  unfold oneF
  rw [stands_cons, stands_cons, stands_nil, if_neg (by simp), if_pos (by decide)]
  show shutF (exprF (pone k) (blanks (textR x ++ 41 :: rest))) = _
  rw [hb.blanks, h1]
  unfold shutF
  rw [if_neg (by simp), if_pos (by rw [stands_cons, stands_nil]; rfl)]
  rfl
/-- A one's text, bracketed or not, as a one. -/
theorem elt_one {o : Int} (ho : o ≠ 10) {x : Rng} {d k : Nat} (hdk : d + k = 64) (hg : goodR x (d + (if bracketed o x.kind = true then 1 else 0)) = true) (h : ∀ (d k : Nat), d + k = 64 → goodR x d = true → ∀ rest, Stop rest → Reads x k rest) (rest : List UInt8) (hr : Stop rest) : pone k (elt o x ++ rest) = (0, blanks rest, x) := by
  by_cases hb : bracketed o x.kind = true
  · rw [if_pos hb] at hg
    have hd : d + 1 ≤ 64 := by
      obtain ⟨kind, v, l⟩ := x
      exact (good_cases hg).1
    obtain ⟨k, rfl⟩ : ∃ j, k = j + 1 := ⟨k - 1, by omega⟩
    have e : elt o x ++ rest = 40 :: (textR x ++ 41 :: rest) := by unfold elt openR shutR; rw [if_pos hb, if_pos hb]; simp
    rw [e]
    exact one_shut (bare_of hg) (h (d + 1) k (by omega) hg) rest
  · rw [if_neg hb] at hg
    have e : elt o x ++ rest = textR x ++ rest := by unfold elt openR shutR; rw [if_neg hb, if_neg hb]; simp
    rw [e]
    refine (h d k hdk hg rest hr).one ?_ ?_
    · intro e; apply hb; unfold bracketed; simp [e, ho]
    · intro e; apply hb; unfold bracketed; simp [e]
theorem opens_9 (k : Int) : opens 9 k = if bracketed 9 k = true then 1 else 0 := by unfold opens; simp
theorem opens_10 (k : Int) : opens 10 k = if bracketed 10 k = true then 1 else 0 := by unfold opens; simp
theorem opens_11 (k : Int) : opens 11 k = 1 + if bracketed 11 k = true then 1 else 0 := by unfold opens; simp
/-- A right range's text is read as it. -/
theorem reads : ∀ (n : Nat) (r : Rng), SizeOf.sizeOf r ≤ n → ∀ (d k : Nat), d + k = 64 → goodR r d = true → ∀ rest, Stop rest → Reads r k rest := by
  intro n
  induction n with
  | zero => intro r h; cases r; rw [Rng.mk.sizeOf_spec] at h; omega
  | succ n ih =>
    rintro ⟨kind, v, l⟩ hn d k hdk hg rest hr
    obtain ⟨_, hl, h⟩ := good_cases hg
    have ihl : ∀ x, x ∈ l → ∀ (d k : Nat), d + k = 64 → goodR x d = true → ∀ rest, Stop rest → Reads x k rest := fun x hx => ih x (by have := size_mem (kind := kind) (v := v) hx; omega)
    have bl : ∀ x, x ∈ l → Bare (textR x) := fun x hx => bare_of (goodL_mem hl hx)
    have h1 : kind ≠ 9 → kind ≠ 10 → pone k (textR (.mk kind v l) ++ rest) = (0, blanks rest, .mk kind v l) := by
      intro n9 n10
      rcases h with ⟨h1, h2, h3, rfl⟩ | ⟨rfl, ⟨rfl, rfl⟩ | ⟨h1, h2⟩ | ⟨rfl, x, rfl⟩⟩
      · cases k with
        | zero => exact oneF_ver h1 h2 h3 hr
        | succ k => exact oneF_ver h1 h2 h3 hr
      · cases k with
        | zero => exact oneF_all rest
        | succ k => exact oneF_all rest
      · omega
      · have hx := goodL_mem (x := x) hl (by simp)
        rw [opens_11] at hx
        have hd : d + 1 ≤ 64 := by
          obtain ⟨kd, vd, ld⟩ := x
          have := (good_cases hx).1; omega
        obtain ⟨k, rfl⟩ : ∃ j, k = j + 1 := ⟨k - 1, by omega⟩
        have hel := elt_one (o := 11) (by decide) (d := d + 1) (k := k) (by omega) (by rw [Nat.add_assoc]; exact hx) (ihl x (by simp)) rest hr
        have hbx := bl x (by simp)
        obtain ⟨b, t, eb, hbb⟩ := elt_bare (o := 11) hbx
        have e : textR (.mk 11 noVer [x]) ++ rest = 33 :: (aheadR 11 x.kind 0 ++ (elt 11 x ++ rest)) := by rw [text_not]; simp
        have hin : blanks (aheadR 11 x.kind 0 ++ (elt 11 x ++ rest)) = elt 11 x ++ rest := by
          unfold aheadR
          split
          · show blanks (32 :: (elt 11 x ++ rest)) = _
            rw [blanks_yes _ (by decide), (elt_bare hbx).blanks]
          · rw [if_pos rfl, List.nil_append, (elt_bare hbx).blanks]
        have hop : opOf (33 :: (aheadR 11 x.kind 0 ++ (elt 11 x ++ rest))) = (5, []) := by
          obtain ⟨c, u, ec, hc⟩ : ∃ c u, aheadR 11 x.kind 0 ++ (elt 11 x ++ rest) = c :: u ∧ ¬ (61 : UInt8) = c := by
            unfold aheadR
            split
            · exact ⟨32, elt 11 x ++ rest, rfl, by decide⟩
            · rename_i h5
              have h5' : x.kind ≠ 5 := fun e => h5 ⟨rfl, e⟩
              rw [if_pos rfl, List.nil_append, eb]
              refine ⟨b, t ++ rest, rfl, ?_⟩
              intro e61
              subst e61
              unfold elt openR at eb
              split at eb
              · injection eb with eb _; exact absurd eb (by decide)
              · rename_i hbr
                rw [List.nil_append] at eb
                obtain ⟨kd, vd, ld⟩ := x
                obtain ⟨_, _, hk⟩ := good_cases hx
                rcases hk with ⟨k1, k2, _, rfl⟩ | ⟨rfl, ⟨rfl, rfl⟩ | ⟨k1, _⟩ | ⟨rfl, y, rfl⟩⟩
                · obtain ⟨c, u, ec, _, hc⟩ := op_bare k1 k2
                  rw [text_ver k1 k2, ec] at eb
                  injection eb with eb _
                  have := hc h5'
                  rw [eb] at this
                  exact absurd this (by decide)
                · injection eb with eb _; exact absurd eb (by decide)
                · apply hbr
                  unfold bracketed
                  rw [decide_eq_true_eq]
                  rcases k1 with k1 | k1
                  · exact .inr ⟨k1, by decide⟩
                  · exact .inl k1
                · rw [text_not] at eb
                  injection eb with eb _; exact absurd eb (by decide)
          rw [ec]
          simp [opOf, ops, opFrom, stands_cons, stands_nil, hc]
        rw [e, pone_succ]
        unfold oneF
        rw [hop, stands_cons, stands_cons, stands_cons, stands_nil, if_neg (by simp), if_neg (by simp), if_pos ⟨rfl, rfl⟩]
        show notF (pone k (blanks (aheadR 11 x.kind 0 ++ (elt 11 x ++ rest)))) = _
        rw [hin, hel]
        rfl
    have h2 : kind ≠ 10 → furO (blanks rest) = none → everyF (pone k) (textR (.mk kind v l) ++ rest) = (0, blanks rest, .mk kind v l) := by
      intro n10 hf
      by_cases n9 : kind = 9
      · subst n9
        rcases h with ⟨_, h2, _⟩ | ⟨rfl, ⟨h2, _⟩ | ⟨_, h2⟩ | ⟨h2, _⟩⟩
        · omega
        · omega
        · cases l with
          | nil => simp at h2
          | cons x xs =>
            rw [text_list (.inl rfl), List.append_assoc, fuel_9 (pone_prog k) _ ((elt 9 x ++ (seps 9 xs ++ rest)).length + 1 + xs.length) (by omega)]
            rw [sev_list Stop (fun y Z hy => ⟨sep_stop 9 _, sep_9 hy Z⟩) xs x [] rest _ (by omega) (fun y hy => ⟨bl y hy, fun R hR => elt_one (by decide) hdk (by rw [← opens_9]; exact goodL_mem hl hy) (ihl y hy) R hR⟩) hr hf]
            rw [if_neg (by rintro ⟨_, h⟩; subst h; simp at h2)]
            rfl
        · omega
      · have e := h1 n9 n10
        unfold everyF
        rw [sev_end (by rw [e]) (by rw [e]; exact hf), e]
        rfl
    refine ⟨h1, h2, fun hf hf2 => ?_⟩
    by_cases n10 : kind = 10
    · subst n10
      rcases h with ⟨_, h2, _⟩ | ⟨rfl, ⟨h2, _⟩ | ⟨_, h2⟩ | ⟨h2, _⟩⟩
      · omega
      · omega
      · cases l with
        | nil => simp at h2
        | cons x xs =>
          rw [text_list (.inr rfl), List.append_assoc, fuel_10 (pone_prog k) _ ((elt 10 x ++ (seps 10 xs ++ rest)).length + 1 + xs.length) (by omega)]
          rw [sev_list (fun R => Stop R ∧ furO (blanks R) = none) (fun y Z hy => ⟨⟨sep_stop 10 _, (sep_10 hy Z).1⟩, (sep_10 hy Z).2⟩) xs x [] rest _ (by omega) (fun y hy => ⟨bl y hy, fun R hR => ?_⟩) ⟨hr, hf⟩ hf2]
          · rw [if_neg (by rintro ⟨_, h⟩; subst h; simp at h2)]
            rfl
          · have hgy := goodL_mem hl hy
            rw [opens_10] at hgy
            by_cases hb : bracketed 10 y.kind = true
            · rw [if_pos hb] at hgy
              have hd : d + 1 ≤ 64 := by
                obtain ⟨kd, vd, ld⟩ := y
                exact (good_cases hgy).1
              obtain ⟨k, rfl⟩ : ∃ j, k = j + 1 := ⟨k - 1, by omega⟩
              have e : elt 10 y ++ R = 40 :: (textR y ++ 41 :: R) := by unfold elt openR shutR; rw [if_pos hb, if_pos hb]; simp
              have e2 := one_shut (bare_of hgy) (ihl y hy (d + 1) k (by omega) hgy) R
              rw [e]
              unfold everyF
              rw [sev_end (by rw [e2]) (by rw [e2]; exact hR.2), e2]
              rfl
            · rw [if_neg hb] at hgy
              have e : elt 10 y ++ R = textR y ++ R := by unfold elt openR shutR; rw [if_neg hb, if_neg hb]; simp
              rw [e]
              exact (ihl y hy d k hdk hgy R hR.1).every (fun e => by apply hb; unfold bracketed; simp [e]) hR.2
      · omega
    · have e := h2 n10 hf
      unfold exprF
      rw [sev_end (by rw [e]) (by rw [e]; exact hf2), e]
      rfl
/-- A right range's text, all of it, is read as the range. -/
theorem text_back {r : Rng} (h : goodR r 0 = true) : pread (textR r) = (0, 0, r) := by
  have h1 := (reads _ r (Nat.le_refl _) 0 64 rfl h [] Stop.nil).expr rfl rfl
  have h2 := (bare_of h).blanks []
  rw [List.append_nil] at h1 h2
  have h3 : pparse (textR r) 0 = (0, (textR r).length, r) := by
    unfold pparse
    rw [if_neg (by omega)]
    show ((exprF (pone 64) (blanks (textR r))).1, (textR r).length - (exprF (pone 64) (blanks (textR r))).2.1.length, (exprF (pone 64) (blanks (textR r))).2.2) = _
    rw [h2, h1]; rfl
  unfold pread
  rw [h3, if_neg (by simp), if_neg (by simp)]
end Go.Proofs.YtolkcblkciafiaaDoor.Range

namespace Go.Proofs.YtolkcblkciafiaaDoor.Range
open Num Ident Semver

/-- What is put behind an expression: it begins with a blank; behind its blanks stands nothing, or a bracket that shuts. -/
structure Tail (T T0 : List UInt8) : Prop where
  head : ∃ b t, T = b :: t ∧ (b = 32 ∨ b = 9)
  rest : blanks T = T0
  shut : T0 = [] ∨ ∃ t, T0 = 41 :: t
/-- What stands from a place on, if something is put behind, blanks being passed. -/
def ext (T T0 s : List UInt8) : List UInt8 := if s = [] then T0 else s ++ T
theorem ext_nil (T T0 : List UInt8) : ext T T0 [] = T0 := rfl
theorem ext_cons (T T0 : List UInt8) (b : UInt8) (s : List UInt8) : ext T T0 (b :: s) = b :: (s ++ T) := rfl
section
variable {T T0 : List UInt8} (hT : Tail T T0)
include hT
theorem Tail.stop : Stop T := by
  obtain ⟨b, t, rfl, h⟩ := hT.head
  rcases h with rfl | rfl <;> exact Stop.cons (by decide)
theorem blanks_ext (x : List UInt8) : blanks (x ++ T) = ext T T0 (blanks x) := by
  induction x with
  | nil => exact hT.rest
  | cons b x ih =>
    rw [List.cons_append, blanks, blanks]
    split
    · exact ih
    · rfl
theorem stands_ext : ∀ (t s : List UInt8), (∀ b, b ∈ t → blankB b = false) → stands t (s ++ T) = stands t s
  | [], s, _ => by rw [stands_nil, stands_nil]
  | a :: t, [], h => by
    obtain ⟨b, u, rfl, hb⟩ := hT.head
    have ha := h a (by simp)
    have e : (a == b) = false := by
      rw [beq_eq_false_iff_ne]; intro e; subst e
      rcases hb with rfl | rfl <;> exact absurd ha (by decide)
    rw [List.nil_append, stands_cons, e]; rfl
  | a :: t, b :: s, h => by
    rw [List.cons_append, stands_cons, stands_cons, stands_ext t s (fun c hc => h c (by simp [hc]))]
/-- What stands next stands so with something behind. -/
theorem next_ext {a : UInt8} {t s : List UInt8} (ha : a ≠ 41) (h : ∀ b, b ∈ a :: t → blankB b = false) : stands (a :: t) (ext T T0 s) = stands (a :: t) s := by
  cases s with
  | nil =>
    rw [ext_nil, stands_none]
    rcases hT.shut with h0 | ⟨u, h0⟩
    · rw [h0]; rfl
    · rw [h0, stands_cons, beq_eq_false_iff_ne.2 ha]; rfl
  | cons b s => exact stands_ext hT (a :: t) (b :: s) h
theorem oneOf_ext {some : List UInt8} (h : (41 : UInt8) ∉ some) (s : List UInt8) : oneOf some (ext T T0 s) = oneOf some s := by
  cases s with
  | nil =>
    rw [ext_nil]
    rcases hT.shut with h0 | ⟨u, h0⟩
    · rw [h0]
    · rw [h0, oneOf_at, decide_eq_false h]; rfl
  | cons b s => rfl
theorem drop_ext {t s : List UInt8} (h : stands t s = true) : blanks ((ext T T0 s).drop t.length) = ext T T0 (blanks (s.drop t.length)) := by
  cases s with
  | nil =>
    cases t with
    | nil =>
      show blanks T0 = T0
      rw [← hT.rest, blanks_twice]
    | cons a t => cases h
  | cons b s =>
    show blanks ((b :: s ++ T).drop t.length) = _
    rw [List.drop_append_of_le_length (stands_len h), blanks_ext hT]
theorem opOf_ext (s : List UInt8) : opOf (ext T T0 s) = opOf s := by
  unfold opOf ops
  simp only [opFrom]
  rw [next_ext hT (by decide) (by decide), next_ext hT (by decide) (by decide), next_ext hT (by decide) (by decide), next_ext hT (by decide) (by decide), next_ext hT (by decide) (by decide), next_ext hT (by decide) (by decide), next_ext hT (by decide) (by decide), next_ext hT (by decide) (by decide)]
theorem furE_ext (s : List UInt8) : furE (ext T T0 s) = (furE s).map (ext T T0) := by
  unfold furE
  rw [next_ext hT (by decide) (by decide)]
  by_cases h : stands [124, 124] s = true
  · rw [if_pos h, if_pos h]
    have := drop_ext hT h
    exact congrArg some this
  · rw [if_neg h, if_neg h]; rfl
theorem furO_ext (s : List UInt8) : furO (ext T T0 s) = (furO s).map (ext T T0) := by
  unfold furO
  rw [next_ext hT (by decide) (by decide), oneOf_ext hT (by decide)]
  by_cases h : stands [44] s = true
  · rw [if_pos h, if_pos h]
    have := drop_ext hT h
    exact congrArg some this
  · rw [if_neg h, if_neg h]
    split <;> rfl
end
/-- What a reader answers without and with something behind; st: the reader with it may go less deep. -/
def Rel (T T0 : List UInt8) (st : Bool) (t t' : Out) : Prop :=
  (t.1 = 0 → (st = true ∧ t'.1 = 8) ∨ (t'.1 = 0 ∧ t'.2.2 = t.2.2 ∧ t'.2.1 = ext T T0 t.2.1)) ∧ (st = false → t.1 ≠ 0 → t'.1 ≠ 0)
theorem Rel.bad {T T0 : List UInt8} {st : Bool} {t t' : Out} (h : t.1 ≠ 0) (h' : t'.1 ≠ 0) : Rel T T0 st t t' := ⟨fun e => absurd e h, fun _ _ => h'⟩
theorem Rel.same {T T0 : List UInt8} {st : Bool} {s : List UInt8} {r : Rng} : Rel T T0 st (0, s, r) (0, ext T T0 s, r) := ⟨fun _ => .inr ⟨rfl, rfl, rfl⟩, fun _ h => absurd rfl h⟩
theorem Rel.deep {T T0 : List UInt8} {t t' : Out} (h : t'.1 = 8) : Rel T T0 true t t' := ⟨fun _ => .inl ⟨rfl, h⟩, fun e => by cases e⟩
section
variable {T T0 : List UInt8} (hT : Tail T T0) {st : Bool}
theorem sev_rel {pf pf' : List UInt8 → Out} {ff : List UInt8 → Option (List UInt8)} {kind : Int} (hp : ∀ s, Rel T T0 st (pf s) (pf' (ext T T0 s))) (hf : ∀ s, ff (ext T T0 s) = (ff s).map (ext T T0)) : ∀ (n : Nat) (acc : List Rng) (s : List UInt8), Rel T T0 st (sev pf ff kind n acc s) (sev pf' ff kind n acc (ext T T0 s))
  | 0, acc, s => by rw [sev, sev]; exact Rel.bad (show (99 : Nat) ≠ 0 by decide) (show (99 : Nat) ≠ 0 by decide)
  | n + 1, acc, s => by
    obtain ⟨h1, h2⟩ := hp s
    by_cases h0 : (pf s).1 = 0
    · rcases h1 h0 with ⟨h3, h4⟩ | ⟨h3, h4, h5⟩
      · subst h3
        refine Rel.deep ?_
        rw [sev_bad (by rw [h4]; decide)]
        exact h4
      · have h6 := hf (pf s).2.1
        cases h7 : ff (pf s).2.1 with
        | some s' =>
          rw [h7] at h6
          rw [sev_on h0 h7, sev_on h3 (by rw [h5]; exact h6), h4]
          exact sev_rel hp hf n _ s'
        | none =>
          rw [h7] at h6
          rw [sev_end h0 h7, sev_end h3 (by rw [h5]; exact h6), h4, h5]
          exact Rel.same
    · rw [sev_bad h0]
      refine ⟨fun e => absurd e h0, fun e _ => ?_⟩
      have h3 := h2 e h0
      rw [sev_bad h3]; exact h3
include hT
theorem every_rel {pf pf' : List UInt8 → Out} (g : Prog pf) (g' : Prog pf') (hp : ∀ s, Rel T T0 st (pf s) (pf' (ext T T0 s))) (s : List UInt8) : Rel T T0 st (everyF pf s) (everyF pf' (ext T T0 s)) := by
  rw [fuel_9 g s (s.length + (ext T T0 s).length + 1) (by omega), fuel_9 g' _ (s.length + (ext T T0 s).length + 1) (by omega)]
  exact sev_rel hp (furO_ext hT) _ _ _
theorem expr_rel {pf pf' : List UInt8 → Out} (g : Prog pf) (g' : Prog pf') (hp : ∀ s, Rel T T0 st (pf s) (pf' (ext T T0 s))) (s : List UInt8) : Rel T T0 st (exprF pf s) (exprF pf' (ext T T0 s)) := by
  rw [fuel_10 g s (s.length + (ext T T0 s).length + 1) (by omega), fuel_10 g' _ (s.length + (ext T T0 s).length + 1) (by omega)]
  exact sev_rel (every_rel hT g g' hp) (furE_ext hT) _ _ _
theorem shut_rel (h0 : st = false → T0 = []) {t t' : Out} (h : Rel T T0 st t t') : Rel T T0 st (shutF t) (shutF t') := by
  obtain ⟨h1, h2⟩ := h
  by_cases h3 : t.1 = 0
  · rcases h1 h3 with ⟨h4, h5⟩ | ⟨h4, h5, h6⟩
    · subst h4
      refine Rel.deep ?_
      unfold shutF
      rw [if_pos (by rw [h5]; decide)]; exact h5
    · have n3 : ¬ t.1 ≠ 0 := by simp [h3]
      have n4 : ¬ t'.1 ≠ 0 := by simp [h4]
      unfold shutF
      rw [if_neg n3, if_neg n4]
      by_cases h7 : stands [41] t.2.1 = true
      · have h8 : stands [41] t'.2.1 = true := by
          rw [h6]
          cases h9 : t.2.1 with
          | nil => rw [h9] at h7; cases h7
          | cons b s => rw [h9, stands_cons, stands_nil] at h7; rw [ext_cons, stands_cons, stands_nil]; exact h7
        have h10 := drop_ext hT h7
        rw [if_pos h7, if_pos h8, h5, h6]
        have e : (1 : Nat) = ([41] : List UInt8).length := rfl
        rw [e, h10]
        exact Rel.same
      · rw [if_neg h7]
        refine ⟨fun e => absurd e (lackN_ne _), fun e _ => ?_⟩
        have h8 : ¬ stands [41] t'.2.1 = true := by
          rw [h6]
          cases h9 : t.2.1 with
          | nil => rw [ext_nil, h0 e]; simp [stands_none]
          | cons b s => rw [h9, stands_cons, stands_nil] at h7; rw [ext_cons, stands_cons, stands_nil]; exact h7
        rw [if_neg h8]; exact lackN_ne _
  · have e1 : (shutF t).1 ≠ 0 := by unfold shutF; rw [if_pos h3]; exact h3
    refine ⟨fun e => absurd e e1, fun e _ => ?_⟩
    have h4 := h2 e h3
    unfold shutF; rw [if_pos h4]; exact h4
omit hT in
theorem not_rel {t t' : Out} (h : Rel T T0 st t t') : Rel T T0 st (notF t) (notF t') := by
  obtain ⟨h1, h2⟩ := h
  by_cases h3 : t.1 = 0
  · rcases h1 h3 with ⟨h4, h5⟩ | ⟨h4, h5, h6⟩
    · subst h4
      refine Rel.deep ?_
      unfold notF
      rw [if_pos (by rw [h5]; decide)]; exact h5
    · have n3 : ¬ t.1 ≠ 0 := by simp [h3]
      have n4 : ¬ t'.1 ≠ 0 := by simp [h4]
      unfold notF
      rw [if_neg n3, if_neg n4, h5, h6]
      exact Rel.same
  · have e1 : (notF t).1 ≠ 0 := by unfold notF; rw [if_pos h3]; exact h3
    refine ⟨fun e => absurd e e1, fun e _ => ?_⟩
    have h4 := h2 e h3
    unfold notF; rw [if_pos h4]; exact h4
theorem ver_rel (kind : Int) (s : List UInt8) : Rel T T0 st (verAt kind s) (verAt kind (ext T T0 s)) := by
  unfold verAt
  rw [oneOf_ext hT (by decide)]
  by_cases h : oneOf digits s = true
  · rw [if_pos h, if_pos h]
    have e : ext T T0 s = s ++ T := by
      cases s with
      | nil => cases h
      | cons b s => rfl
    obtain ⟨e1, e2⟩ := vparse_ext hT.stop s
    rw [e, e2]
    by_cases h1 : (vparse s 0).1 = 0
    · have n3 : ¬ (vparse s 0).1 ≠ 0 := by simp [h1]
      have n4 : ¬ (vparse (s ++ T) 0).1 ≠ 0 := by simp [e1.2 h1]
      rw [if_neg n3, if_neg n4, List.drop_append_of_le_length (vparse_end s 0), blanks_ext hT]
      exact Rel.same
    · have h2 : (vparse (s ++ T) 0).1 ≠ 0 := fun e => h1 (e1.1 e)
      rw [if_pos h1, if_pos h2]
      exact Rel.bad h1 h2
  · rw [if_neg h, if_neg h]
    exact Rel.bad (lackN_ne _) (lackN_ne _)
theorem one_rel (h0 : st = false → T0 = []) {sub sub' : Option (List UInt8 → Out)} (hn : sub' = none → st = false → sub = none) (hs : ∀ f f', sub = some f → sub' = some f' → Prog f ∧ Prog f' ∧ ∀ s, Rel T T0 st (f s) (f' (ext T T0 s))) (hs2 : sub = none → sub' = none) (s : List UInt8) : Rel T T0 st (oneF sub s) (oneF sub' (ext T T0 s)) := by
  unfold oneF
  rw [next_ext hT (t := []) (by decide) (by decide), next_ext hT (t := []) (by decide) (by decide), next_ext hT (t := []) (by decide) (by decide), opOf_ext hT]
  by_cases h1 : stands [42] s = true
  · rw [if_pos h1, if_pos h1]
    have := drop_ext hT h1
    show Rel T T0 st (0, blanks (s.drop [42].length), noRng) (0, blanks ((ext T T0 s).drop ([42] : List UInt8).length), noRng)
    rw [this]
    exact Rel.same
  · rw [if_neg h1, if_neg h1]
    have hm : ∀ (g g' : (List UInt8 → Out) → Out), (∀ f f', sub = some f → sub' = some f' → Rel T T0 st (g f) (g' f')) →
        Rel T T0 st (match (generalizing := false) sub with | none => (8, s, noRng) | some f => g f) (match (generalizing := false) sub' with | none => (8, ext T T0 s, noRng) | some f => g' f) := by
      intro g g' hg
      cases sub' with
      | none =>
        cases st with
        | true => exact Rel.deep rfl
        | false =>
          have := hn rfl rfl
          subst this
          exact Rel.bad (show (8 : Nat) ≠ 0 by decide) (show (8 : Nat) ≠ 0 by decide)
      | some f' =>
        cases sub with
        | none => have := hs2 rfl; cases this
        | some f => exact hg f f' rfl rfl
    by_cases h2 : stands [40] s = true
    · rw [if_pos h2, if_pos h2]
      refine hm (fun f => shutF (exprF f (blanks (s.drop 1)))) (fun f => shutF (exprF f (blanks ((ext T T0 s).drop 1)))) fun f f' e e' => ?_
      obtain ⟨g, g', hr⟩ := hs f f' e e'
      have := drop_ext hT h2
      show Rel T T0 st (shutF (exprF f (blanks (s.drop ([40] : List UInt8).length)))) (shutF (exprF f' (blanks ((ext T T0 s).drop ([40] : List UInt8).length))))
      rw [this]
      exact shut_rel hT h0 (expr_rel hT g g' hr _)
    · rw [if_neg h2, if_neg h2]
      by_cases h3 : (opOf s).2 = [] ∧ stands [33] s = true
      · rw [if_pos h3, if_pos h3]
        refine hm (fun f => notF (f (blanks (s.drop 1)))) (fun f => notF (f (blanks ((ext T T0 s).drop 1)))) fun f f' e e' => ?_
        obtain ⟨g, g', hr⟩ := hs f f' e e'
        have := drop_ext hT h3.2
        show Rel T T0 st (notF (f (blanks (s.drop ([33] : List UInt8).length)))) (notF (f' (blanks ((ext T T0 s).drop ([33] : List UInt8).length))))
        rw [this]
        exact not_rel (hr _)
      · rw [if_neg h3, if_neg h3]
        have h4 : stands (opOf s).2 s = true := by
          have hop : ∀ (l : List (List UInt8)) (k : Int), stands (opFrom s l k).2 s = true := by
            intro l
            induction l with
            | nil => intro k; exact stands_nil s
            | cons t r ih =>
              intro k
              rw [opFrom]
              split
              · rename_i h; exact h
              · exact ih _
          exact hop _ _
        rw [drop_ext hT h4]
        exact ver_rel hT _ _
/-- The same depth. -/
theorem pone_same (h0 : T0 = []) : ∀ (k : Nat) (s : List UInt8), Rel T T0 false (pone k s) (pone k (ext T T0 s))
  | 0, s => one_rel hT (fun _ => h0) (fun _ _ => rfl) (fun f f' e => by cases e) (fun _ => rfl) s
  | k + 1, s => one_rel hT (fun _ => h0) (fun e => by cases e) (fun f f' e e' => by
      injection e with e; injection e' with e'
      subst e; subst e'
      exact ⟨pone_prog k, pone_prog k, pone_same h0 k⟩) (fun e => by cases e) s
/-- One less deep. -/
theorem pone_less : ∀ (k : Nat) (s : List UInt8), Rel T T0 true (pone (k + 1) s) (pone k (ext T T0 s))
  | 0, s => one_rel hT (fun e => by cases e) (fun _ e => by cases e) (fun f f' _ e => by cases e) (fun e => by cases e) s
  | k + 1, s => one_rel hT (fun e => by cases e) (fun e => by cases e) (fun f f' e e' => by
      injection e with e; injection e' with e'
      subst e; subst e'
      exact ⟨pone_prog _, pone_prog k, pone_less k⟩) (fun e => by cases e) s
end

/-- What Read answers, by the reader. -/
theorem pread_ok {l : List UInt8} : (pread l).1 = 0 ↔ (exprF (pone 64) (blanks l)).1 = 0 ∧ (exprF (pone 64) (blanks l)).2.1 = [] := by
  have hp := ((exprF_piece (pone_piece 64) (blanks l)).trans (Piece.blanks l)).len
  have e : pparse l 0 = ((exprF (pone 64) (blanks l)).1, l.length - (exprF (pone 64) (blanks l)).2.1.length, (exprF (pone 64) (blanks l)).2.2) := by
    unfold pparse; rw [if_neg (by omega)]; rfl
  unfold pread
  rw [e]
  generalize exprF (pone 64) (blanks l) = t at hp ⊢
  obtain ⟨f, s, r⟩ := t
  simp only at hp ⊢
  by_cases h0 : f ≠ 0
  · rw [if_pos h0]
    exact ⟨fun h => absurd h h0, fun h => absurd h.1 h0⟩
  · rw [if_neg h0]
    have h0' : f = 0 := by simpa using h0
    by_cases h1 : l.length - s.length ≠ l.length
    · rw [if_pos h1]
      refine ⟨fun h => absurd h (show (13 : Nat) ≠ 0 by decide), fun h => ?_⟩
      have := h.2
      subst this
      exact absurd rfl h1
    · rw [if_neg h1]
      exact ⟨fun _ => ⟨h0', List.eq_nil_of_length_eq_zero (by omega)⟩, fun _ => rfl⟩
theorem pread_range {l : List UInt8} (h : (pread l).1 = 0) : pread l = (0, 0, (exprF (pone 64) (blanks l)).2.2) := by
  have h1 := pread_ok.1 h
  have e : pparse l 0 = ((exprF (pone 64) (blanks l)).1, l.length - (exprF (pone 64) (blanks l)).2.1.length, (exprF (pone 64) (blanks l)).2.2) := by
    unfold pparse; rw [if_neg (by omega)]; rfl
  unfold pread
  rw [e, h1.1, h1.2, if_neg (by simp), if_neg (by simp)]
theorem pread_bad {l : List UInt8} (h : (pread l).1 ≠ 0) : (pread l).2.2 = noRng := by
  unfold pread at h ⊢
  split
  · rfl
  · rename_i h1
    rw [if_neg h1] at h
    split
    · rfl
    · rename_i h2
      rw [if_neg h2] at h
      exact absurd rfl h
theorem tail_blanks : Tail [9, 32] [] := ⟨⟨9, [32], rfl, .inr rfl⟩, by decide, .inl rfl⟩
theorem tail_shut : Tail [32, 41] [41] := ⟨⟨32, [41], rfl, .inl rfl⟩, by decide, .inr ⟨[], rfl⟩⟩
/-- Blanks around an expression change no range. -/
theorem around_blanks (l : List UInt8) : ((pread l).1 = 0 → pread (32 :: 9 :: (l ++ [9, 32])) = pread l) ∧ ((pread l).1 ≠ 0 → (pread (32 :: 9 :: (l ++ [9, 32]))).1 ≠ 0) := by
  have hr := expr_rel tail_blanks (st := false) (pone_prog 64) (pone_prog 64) (pone_same tail_blanks rfl 64) (blanks l)
  have e : blanks (32 :: 9 :: (l ++ [9, 32])) = ext [9, 32] [] (blanks l) := by
    rw [blanks_yes _ (by decide), blanks_yes _ (by decide), blanks_ext tail_blanks]
  obtain ⟨h1, h2⟩ := hr
  have hl : ∀ x : List UInt8, ext [9, 32] [] x = [] → x = [] := by
    intro x h
    cases x with
    | nil => rfl
    | cons b x => cases h
  constructor
  · intro h
    obtain ⟨a1, a2⟩ := pread_ok.1 h
    rcases h1 a1 with ⟨h3, _⟩ | ⟨h3, h4, h5⟩
    · cases h3
    · have h6 : (pread (32 :: 9 :: (l ++ [9, 32]))).1 = 0 := pread_ok.2 (by rw [e]; exact ⟨h3, by rw [h5, a2]; rfl⟩)
      rw [pread_range h6, pread_range h, e, h4]
  · intro h h6
    obtain ⟨a1, a2⟩ := pread_ok.1 h6
    rw [e] at a1 a2
    apply h
    by_cases h3 : (exprF (pone 64) (blanks l)).1 = 0
    · rcases h1 h3 with ⟨h4, _⟩ | ⟨_, _, h5⟩
      · cases h4
      · exact pread_ok.2 ⟨h3, hl _ (by rw [← h5, a2])⟩
    · exact absurd a1 (h2 rfl h3)
/-- Brackets around an expression change no range, if they may stand so deep. -/
theorem around_shut (l : List UInt8) (h : (pread l).1 = 0) : (pread (40 :: 32 :: (l ++ [32, 41]))).1 = 8 ∨ pread (40 :: 32 :: (l ++ [32, 41])) = pread l := by
  have hr := expr_rel tail_shut (st := true) (pone_prog 64) (pone_prog 63) (pone_less tail_shut 63) (blanks l)
  obtain ⟨a1, a2⟩ := pread_ok.1 h
  have e : blanks (40 :: 32 :: (l ++ [32, 41])) = 40 :: 32 :: (l ++ [32, 41]) := blanks_no _ (by decide)
  have e2 : blanks (32 :: (l ++ [32, 41])) = ext [32, 41] [41] (blanks l) := by rw [blanks_yes _ (by decide), blanks_ext tail_shut]
  have e3 : pone 64 (40 :: 32 :: (l ++ [32, 41])) = shutF (exprF (pone 63) (ext [32, 41] [41] (blanks l))) := by
    rw [pone_succ]
    unfold oneF
    rw [stands_cons, stands_cons, stands_nil, if_neg (by simp), if_pos (by decide)]
    show shutF (exprF (pone 63) (blanks (32 :: (l ++ [32, 41])))) = _
    rw [e2]
  have hx : ∀ t, pone 64 (40 :: 32 :: (l ++ [32, 41])) = t → (t.1 = 8 → (exprF (pone 64) (40 :: 32 :: (l ++ [32, 41]))).1 = 8) ∧ (∀ r, t = (0, [], r) → exprF (pone 64) (40 :: 32 :: (l ++ [32, 41])) = (0, [], r)) := by
    intro t ht
    constructor
    · intro h8
      have h9 : (pone 64 (40 :: 32 :: (l ++ [32, 41]))).1 ≠ 0 := by rw [ht, h8]; decide
      have h10 : (everyF (pone 64) (40 :: 32 :: (l ++ [32, 41]))).1 = 8 := by
        unfold everyF; rw [sev_bad h9, ht]; exact h8
      unfold exprF
      rw [sev_bad (by rw [h10]; decide)]; exact h10
    · rintro r rfl
      have h10 : everyF (pone 64) (40 :: 32 :: (l ++ [32, 41])) = (0, [], r) := by
        unfold everyF; rw [sev_end (by rw [ht]) (by rw [ht]; rfl), ht]; rfl
      unfold exprF
      rw [sev_end (by rw [h10]) (by rw [h10]; rfl), h10]; rfl
  obtain ⟨x1, x2⟩ := hx _ e3
  have hpp : ∀ t, exprF (pone 64) (40 :: 32 :: (l ++ [32, 41])) = t → t.1 = 8 → (pread (40 :: 32 :: (l ++ [32, 41]))).1 = 8 := by
    intro t ht h8
    have e5 : (pparse (40 :: 32 :: (l ++ [32, 41])) 0).1 = 8 := by
      unfold pparse
      rw [if_neg (by omega)]
      show (exprF (pone 64) (blanks (40 :: 32 :: (l ++ [32, 41])))).1 = 8
      rw [e, ht]; exact h8
    unfold pread
    rw [if_pos (by rw [e5]; decide)]; exact e5
  rcases hr.1 a1 with ⟨_, h4⟩ | ⟨h3, h4, h5⟩
  · left
    refine hpp _ rfl (x1 ?_)
    unfold shutF
    rw [if_pos (by rw [h4]; decide)]; exact h4
  · right
    have h6 : shutF (exprF (pone 63) (ext [32, 41] [41] (blanks l))) = (0, [], (exprF (pone 64) (blanks l)).2.2) := by
      unfold shutF
      rw [if_neg (by simp [h3]), h5, a2, ext_nil, if_pos (by decide), h4]; rfl
    have h7 := x2 _ h6
    have h8 : (pread (40 :: 32 :: (l ++ [32, 41]))).1 = 0 := pread_ok.2 (by rw [e, h7]; exact ⟨rfl, rfl⟩)
    rw [pread_range h8, pread_range h, e, h7]
/-- So many brackets around all versions. -/
theorem deep_shut : ∀ (j k : Nat) (rest : List UInt8), pone j (List.replicate k 40 ++ 42 :: (List.replicate k 41 ++ rest)) = if k ≤ j then (0, blanks rest, noRng) else (8, List.replicate (k - j) 40 ++ 42 :: (List.replicate k 41 ++ rest), noRng)
  | j, 0, rest => by
    rw [if_pos (Nat.zero_le _)]
    cases j with
    | zero => exact oneF_all rest
    | succ j => exact oneF_all rest
  | 0, k + 1, rest => by
    rw [if_neg (by omega), List.replicate_succ, List.cons_append, pone_zero]
    unfold oneF
    rw [stands_cons, stands_cons, stands_nil, if_neg (by simp), if_pos (by decide), Nat.sub_zero]
    rfl
  | j + 1, k + 1, rest => by
    have e1 : List.replicate (k + 1) 41 ++ rest = List.replicate k 41 ++ 41 :: rest := by
      rw [List.replicate_succ', List.append_assoc]; rfl
    have hb : Bare (List.replicate k 40 ++ 42 :: (List.replicate k 41 ++ 41 :: rest)) := by
      cases k with
      | zero => exact ⟨42, _, rfl, by decide⟩
      | succ k => exact ⟨40, _, rfl, by decide⟩
    have ih := deep_shut j k (41 :: rest)
    rw [e1, List.replicate_succ, List.cons_append, pone_succ]
    unfold oneF
    rw [stands_cons, stands_cons, stands_nil, if_neg (by simp), if_pos (by decide)]
    show shutF (exprF (pone j) (blanks (List.replicate k 40 ++ 42 :: (List.replicate k 41 ++ 41 :: rest)))) = _
    have hbl := hb.blanks []
    rw [List.append_nil] at hbl
    rw [hbl]
    by_cases hk : k ≤ j
    · rw [if_pos hk, (end_41 rest).1] at ih
      have h1 : everyF (pone j) (List.replicate k 40 ++ 42 :: (List.replicate k 41 ++ 41 :: rest)) = (0, 41 :: rest, noRng) := by
        unfold everyF; rw [sev_end (by rw [ih]) (by rw [ih]; exact (end_41 rest).2.1), ih]; rfl
      have h2 : exprF (pone j) (List.replicate k 40 ++ 42 :: (List.replicate k 41 ++ 41 :: rest)) = (0, 41 :: rest, noRng) := by
        unfold exprF; rw [sev_end (by rw [h1]) (by rw [h1]; exact (end_41 rest).2.2), h1]; rfl
      rw [h2, if_pos (by omega)]
      unfold shutF
      rw [if_neg (by simp), stands_cons, stands_nil, if_pos (by decide)]; rfl
    · rw [if_neg hk] at ih
      have h1 : everyF (pone j) (List.replicate k 40 ++ 42 :: (List.replicate k 41 ++ 41 :: rest)) = (8, List.replicate (k - j) 40 ++ 42 :: (List.replicate k 41 ++ 41 :: rest), noRng) := by
        unfold everyF; rw [sev_bad (by rw [ih]; simp), ih]
      have h2 : exprF (pone j) (List.replicate k 40 ++ 42 :: (List.replicate k 41 ++ 41 :: rest)) = (8, List.replicate (k - j) 40 ++ 42 :: (List.replicate k 41 ++ 41 :: rest), noRng) := by
        unfold exprF; rw [sev_bad (by rw [h1]; simp), h1]
      rw [h2, if_neg (by omega), Nat.add_sub_add_right]
      rfl
def nots : Nat → Rng
  | 0 => noRng
  | k + 1 => .mk 11 noVer [nots k]
/-- So many signs of not ahead of all versions. -/
theorem deep_not : ∀ (j k : Nat) (rest : List UInt8), pone j (List.replicate k 33 ++ 42 :: rest) = if k ≤ j then (0, blanks rest, nots k) else (8, List.replicate (k - j) 33 ++ 42 :: rest, noRng)
  | j, 0, rest => by
    rw [if_pos (Nat.zero_le _)]
    cases j with
    | zero => exact oneF_all rest
    | succ j => exact oneF_all rest
  | j, k + 1, rest => by
    obtain ⟨c, u, ec, hc, hb⟩ : ∃ c u, List.replicate k 33 ++ 42 :: rest = c :: u ∧ ¬ (61 : UInt8) = c ∧ blankB c = false := by
      cases k with
      | zero => exact ⟨42, _, rfl, by decide, by decide⟩
      | succ k => exact ⟨33, _, rfl, by decide, by decide⟩
    have hop : opOf (33 :: (List.replicate k 33 ++ 42 :: rest)) = (5, []) := by
      rw [ec]; simp [opOf, ops, opFrom, stands_cons, stands_nil, hc]
    have hbl : blanks (List.replicate k 33 ++ 42 :: rest) = List.replicate k 33 ++ 42 :: rest := by rw [ec, blanks_no _ hb]
    rw [List.replicate_succ, List.cons_append]
    cases j with
    | zero =>
      rw [if_neg (by omega), pone_zero]
      unfold oneF
      rw [hop, stands_cons, stands_cons, stands_cons, stands_nil, if_neg (by simp), if_neg (by simp), if_pos ⟨rfl, rfl⟩]
      rfl
    | succ j =>
      have ih := deep_not j k rest
      rw [pone_succ]
      unfold oneF
      rw [hop, stands_cons, stands_cons, stands_cons, stands_nil, if_neg (by simp), if_neg (by simp), if_pos ⟨rfl, rfl⟩]
      show notF (pone j (blanks (List.replicate k 33 ++ 42 :: rest))) = _
      rw [hbl, ih]
      by_cases hk : k ≤ j
      · rw [if_pos hk, if_pos (by omega)]; rfl
      · rw [if_neg hk, if_neg (by omega), Nat.add_sub_add_right]; rfl
/-- What Read answers of one one, all of it. -/
theorem pread_one {l : List UInt8} (hb : blanks l = l) {t : Out} (h : pone 64 l = t) : (t.1 ≠ 0 → pread l = (t.1, l.length - t.2.1.length, noRng)) ∧ (t.1 = 0 → t.2.1 = [] → pread l = (0, 0, t.2.2)) := by
  have e : pparse l 0 = ((exprF (pone 64) l).1, l.length - (exprF (pone 64) l).2.1.length, (exprF (pone 64) l).2.2) := by
    unfold pparse; rw [if_neg (by omega)]
    show ((exprF (pone 64) (blanks l)).1, l.length - (exprF (pone 64) (blanks l)).2.1.length, (exprF (pone 64) (blanks l)).2.2) = _
    rw [hb]
  constructor
  · intro h0
    have h1 : everyF (pone 64) l = (t.1, t.2.1, noRng) := by unfold everyF; rw [sev_bad (by rw [h]; exact h0), h]
    have h2 : exprF (pone 64) l = (t.1, t.2.1, noRng) := by unfold exprF; rw [sev_bad (by rw [h1]; exact h0), h1]
    unfold pread
    rw [e, h2, if_pos h0]
  · intro h0 h3
    have h1 : everyF (pone 64) l = (0, [], t.2.2) := by unfold everyF; rw [sev_end (by rw [h]; exact h0) (by rw [h, h3]; rfl), h, h3]; rfl
    have h2 : exprF (pone 64) l = (0, [], t.2.2) := by unfold exprF; rw [sev_end (by rw [h1]) (by rw [h1]; rfl), h1]; rfl
    unfold pread
    rw [e, h2, if_neg (by simp), if_neg (by simp)]
/-- A text of so many brackets, or signs of not. -/
def deepText (k : Nat) (no : Bool) : List UInt8 := if no = true then List.replicate k 33 ++ 42 :: [] else List.replicate k 40 ++ 42 :: (List.replicate k 41 ++ [])
theorem deep_read (k : Nat) (no : Bool) : if k ≤ 64 then ∃ r, pread (deepText k no) = (0, 0, r) else pread (deepText k no) = (8, 64, noRng) := by
  cases no with
  | true =>
    have e : deepText k true = List.replicate k 33 ++ 42 :: [] := rfl
    have hb : blanks (deepText k true) = deepText k true := by
      rw [e]
      cases k with
      | zero => exact blanks_no _ (by decide)
      | succ k => exact blanks_no _ (by decide)
    have h := deep_not 64 k []
    rw [← e] at h
    obtain ⟨h1, h2⟩ := pread_one hb h
    by_cases hk : k ≤ 64
    · rw [if_pos hk] at h1 h2 ⊢
      exact ⟨_, h2 rfl rfl⟩
    · rw [if_neg hk] at h1 h2 ⊢
      rw [h1 (by simp), e]
      simp only [List.length_append, List.length_replicate, List.length_cons, List.length_nil]
      rw [show k + (0 + 1) - (k - 64 + (0 + 1)) = 64 by omega]
  | false =>
    have e : deepText k false = List.replicate k 40 ++ 42 :: (List.replicate k 41 ++ []) := rfl
    have hb : blanks (deepText k false) = deepText k false := by
      rw [e]
      cases k with
      | zero => exact blanks_no _ (by decide)
      | succ k => exact blanks_no _ (by decide)
    have h := deep_shut 64 k []
    rw [← e] at h
    obtain ⟨h1, h2⟩ := pread_one hb h
    by_cases hk : k ≤ 64
    · rw [if_pos hk] at h1 h2 ⊢
      exact ⟨_, h2 rfl rfl⟩
    · rw [if_neg hk] at h1 h2 ⊢
      rw [h1 (by simp), e]
      simp only [List.length_append, List.length_replicate, List.length_cons, List.length_nil]
      rw [show k + (k + 0 + 1) - (k - 64 + (k + 0 + 1)) = 64 by omega]
end Go.Proofs.YtolkcblkciafiaaDoor.Range

namespace Go.Proofs.YtolkcblkciafiaaDoor.Range
open Go.RowKit Num Ident Semver
mutual
/-- How many ranges. -/
def wt : Rng → Nat
  | .mk _ _ l => 1 + wtL l
def wtL : List Rng → Nat
  | [] => 0
  | r :: rs => wt r + wtL rs
end
theorem wt_eq (r : Rng) : wt r = 1 + wtL r.subs := by cases r; rfl
theorem wtL_cons (r : Rng) (rs : List Rng) : wtL (r :: rs) = wt r + wtL rs := rfl
theorem wtL_drop (l : List Rng) (i : Nat) (h : i < l.length) : wtL (l.drop i) = 1 + wtL (l.getD i noRng).subs + wtL (l.drop (i + 1)) := by
  rw [List.drop_eq_getElem_cons h, wtL_cons, wt_eq]
  simp [List.getD, List.getElem?_eq_getElem h]
theorem wtL_pos {l : List Rng} (h : 0 < l.length) : 0 < wtL l := by
  cases l with
  | nil => simp at h
  | cons r rs => rw [wtL_cons, wt_eq]; omega
mutual
theorem same_refl : ∀ r : Rng, sameR r r = true
  | .mk k v l => by rw [sameR_eq, sameL_refl l, sameV_self]; simp
theorem sameL_refl : ∀ l : List Rng, sameL l l = true
  | [] => rfl
  | r :: rs => by show (sameR r r && sameL rs rs) = true; rw [same_refl r, sameL_refl rs]; rfl
end
mutual
theorem wt_text : ∀ (r : Rng) (d : Nat), goodR r d = true → wt r + 1 ≤ 2 * (textR r).length
  | .mk k v l, d, h => by
    rw [goodR_eq, Bool.and_eq_true, Bool.and_eq_true] at h
    obtain ⟨⟨_, hf⟩, hl⟩ := h
    have hw : wt (.mk k v l) = 1 + wtL l := rfl
    rw [hw, textR_eq, List.length_append]
    have hk := wtL_text l k (most k l.length) 0 d hl
    unfold fits at hf
    by_cases h1 : ofVersion k = true
    · rw [if_pos h1, Bool.and_eq_true, decide_eq_true_eq] at hf
      obtain rfl : l = [] := List.length_eq_zero_iff.1 hf.2
      have h2 : 1 ≤ k ∧ k ≤ 8 := by simpa [ofVersion] using h1
      have e : 1 ≤ (markR k v).length := by
        unfold markR
        rw [if_neg (by omega), if_neg (by omega), if_neg (by omega), if_pos h1, List.length_append]
        have : ∀ i : Fin 8, 1 ≤ (ops.getD i.val []).length := by decide
        have := this ⟨(k - 1).toNat, by omega⟩
        simp only at this
        omega
      have : wtL [] = 0 := rfl
      omega
    · rw [if_neg h1] at hf
      split at hf
      · cases hf
      split at hf
      · rename_i h0
        rw [decide_eq_true_eq] at hf
        obtain rfl : l = [] := List.length_eq_zero_iff.1 hf
        subst h0
        have : (markR 0 v).length = 1 := rfl
        have : wtL [] = 0 := rfl
        omega
      split at hf
      · rename_i h9
        rw [decide_eq_true_eq] at hf
        have := hk (by unfold most; rw [if_pos h9]; omega)
        omega
      split at hf
      · rename_i h11
        rw [decide_eq_true_eq] at hf
        subst h11
        have := hk (by rw [hf]; decide)
        have : (markR 11 v).length = 1 := rfl
        omega
      · cases hf
theorem wtL_text : ∀ (l : List Rng) (o : Int) (m i d : Nat), goodL o l d = true → i + l.length ≤ m → wtL l + l.length ≤ 2 * (textL o m l i).length
  | [], _, _, _, _, _, _ => by show 0 + 0 ≤ _; omega
  | r :: rs, o, m, i, d, h, hm => by
    rw [goodL_cons, Bool.and_eq_true] at h
    rw [List.length_cons] at hm
    have h1 := wt_text r _ h.1
    have h2 := wtL_text rs o m (i + 1) d h.2 (by omega)
    rw [textL_cons, if_pos (by omega), wtL_cons]
    simp only [List.length_append, List.length_cons]
    omega
end
/-- Of what is read there are not more ranges than twelve times the bytes. -/
theorem wt_read {s : List UInt8} (h : (exprF (pone 64) s).1 = 0) : wt (exprF (pone 64) s).2.2 ≤ 12 * s.length := by
  have h1 := wt_text _ 0 (read_good h)
  have h2 := read_short h
  omega
theorem wt_pread (l : List UInt8) : wt (pread l).2.2 ≤ 12 * l.length + 1 := by
  unfold pread
  split
  · exact Nat.le_add_left _ _
  · rename_i h1

    split
    · exact Nat.le_add_left _ _
    · unfold pparse at h1 ⊢
      rw [if_neg (by omega)] at h1 ⊢
      simp only [ne_eq, Decidable.not_not] at h1
      have := wt_read h1
      have h3 := (Piece.blanks (l.drop (0 : Int).toNat)).len
      simp only [List.length_drop] at h3
      show wt (exprF (pone 64) (blanks (l.drop (0 : Int).toNat))).2.2 ≤ _
      omega
theorem least {p : Nat → Prop} (h : ∃ n, p n) : ∃ m, p m ∧ ∀ k, p k → m ≤ k := by
  obtain ⟨n, hn⟩ := h
  induction n using Nat.strongRecOn with
  | _ n ih =>
    by_cases hk : ∃ k, k < n ∧ p k
    · obtain ⟨k, hlt, hp⟩ := hk; exact ih k hlt hp
    · exact ⟨n, hn, fun k hp => Nat.le_of_not_lt fun hlt => hk ⟨k, hlt, hp⟩⟩
open Classical in
noncomputable def leastOf (p : Nat → Prop) : Nat := if h : ∃ n, p n then Classical.choose (least h) else 0
theorem leastOf_at {p : Nat → Prop} (h : ∃ n, p n) : p (leastOf p) := by unfold leastOf; rw [dif_pos h]; exact (Classical.choose_spec (least h)).1
theorem leastOf_le {p : Nat → Prop} {k : Nat} (h : p k) : leastOf p ≤ k := by unfold leastOf; rw [dif_pos ⟨k, h⟩]; exact (Classical.choose_spec (least ⟨k, h⟩)).2 k h
/-- A goto back, each pass of a datum that weighs less. -/
theorem wp_scope_back_of {P : Program} {a : Act} {w : World} {Q : Exit → Act → World → Prop} {c rest : Code} (l : Nat) (J : Nat → Act → World → Prop) (hf : findLabel c l = some (Code.skip.seq rest))
    (pass : ∀ m a w, J m a w → rest.wp P (Exit.jump l (fun a' w' => ∃ k, J k a' w' ∧ k < m) Q) a w)
    (first : Hid (∀ m a w, J m a w → rest.wp P (Exit.jump l (fun a' w' => ∃ k, J k a' w') Q) a w) → c.wp P (Exit.jump l (fun a' w' => ∃ k, J k a' w') Q) a w) : (Code.scope c).wp P Q a w := by
  refine wp_scope_back l (fun a w => ∃ k, J k a w) (fun a w => leastOf fun k => J k a w) hf (fun a w h => ?_) (fun H => first fun m a w h => H.out a w ⟨m, h⟩)
  refine wp_mono (pass _ a w (leastOf_at h)) fun e _ _ hq => ?_
  cases e <;> first
    | exact hq
    | (obtain ⟨he, k, hk, hlt⟩ := hq; exact ⟨he, ⟨k, hk⟩, Nat.lt_of_le_of_lt (leastOf_le hk) hlt⟩)
end Go.Proofs.YtolkcblkciafiaaDoor.Range

namespace Go.Proofs.YtolkcblkciafiaaDoor.Range
open Go.RowKit Num Ident Semver
structure Ent where
  l : List Rng
  A : Option Addr
  e : Nat
  B : Option Addr
  f : Nat
instance : Inhabited Ent := ⟨⟨[], none, 0, none, 0⟩⟩
def Ent.vals (x : Ent) : List Value := [.slice x.A x.l.length x.e, .slice x.B x.l.length x.f]
theorem ent_len (x : Ent) : x.vals.length = 2 := rfl
theorem ent_one (x : Ent) : ∀ u ∈ x.vals, u.oneCell' = true := by
  intro u hu; simp only [Ent.vals, List.mem_cons, List.mem_nil_iff, or_false] at hu
  rcases hu with rfl | rfl <;> rfl
def LtB (B g : Nat) : Prop := g < B
theorem KeepS.lt {w w' : World} {B : Nat} (h : Below B w w') : KeepS (LtB B) w w' := ⟨h.size, fun g o _ hg hc => (h.cell (p := ⟨g, o, none⟩) hg).trans hc⟩
structure EntOk (W : World) (B : Nat) (x : Ent) : Prop where
  a : RgRow W (LtB B) x.A x.l.length x.l
  b : RgRow W (LtB B) x.B x.l.length x.l
  pos : 0 < x.l.length
theorem EntOk.kept {W W' : World} {B : Nat} {x : Ent} (h : EntOk W B x) (k : KeepS (LtB B) W W') : EntOk W' B x := ⟨h.a.keep k, h.b.keep k, h.pos⟩
def wsum : List Ent → Nat
  | [] => 0
  | x :: t => wtL x.l + wsum t
theorem wsum_more (T : List Ent) (x : Ent) : wsum (T ++ [x]) = wsum T + wtL x.l := by
  induction T with
  | nil => show wtL x.l + 0 = 0 + wtL x.l; omega
  | cons y t ih => show wtL y.l + wsum (t ++ [x]) = wtL y.l + wsum t + wtL x.l; omega
theorem wsum_len {W : World} {B : Nat} : ∀ {T : List Ent}, (∀ x ∈ T, EntOk W B x) → T.length ≤ wsum T
  | [], _ => Nat.zero_le _
  | x :: t, h => by
    have h1 := wtL_pos (h x (by simp)).pos
    have h2 := wsum_len (fun y hy => h y (List.mem_cons_of_mem _ hy))
    show t.length + 1 ≤ wtL x.l + wsum t
    omega
theorem split_last {T : List Ent} (h : T ≠ []) : ∃ R x, T = R ++ [x] := ⟨T.dropLast, T.getLast h, (List.dropLast_concat_getLast h).symm⟩
theorem RgRow.one {w : World} {S : Nat → Prop} {L : Option Addr} {n : Nat} {l : List Rng} (h : RgRow w S L n l) {j : Nat} (hj : j < n) : ∃ b o x, L = some ⟨b, o, none⟩ ∧ S b ∧ CellsAt w b (o + j * 7) x ∧ Lies w S (l.getD j noRng) x := by
  obtain ⟨f, _, h2, h3⟩ := h
  obtain ⟨b, o, e, hb, hc⟩ := h2 (by omega)
  exact ⟨b, o, f j, e, hb, hc j hj, h3 j hj⟩
/-- The two ranges at a place. -/
structure Two (W : World) (B j : Nat) (x : Ent) (r : Rng) (b o b' o' : Nat) (s t : RV) : Prop where
  lt : b < B
  lt' : b' < B
  cs : CellsAt W b (o + j * 7) s
  ct : CellsAt W b' (o' + j * 7) t
  p1 : SRow W s.A s.v.pre.length s.v.pre
  p2 : SRow W s.B s.v.build.length s.v.build
  q1 : SRow W t.A s.v.pre.length s.v.pre
  q2 : SRow W t.B s.v.build.length s.v.build
  fit : FitV s.v
  ra : RgRow W (LtB B) s.L s.n r.subs
  rb : RgRow W (LtB B) t.L s.n r.subs
  kind : t.kind = s.kind
  ver : t.v = s.v
  n : t.n = s.n
  len : s.n = r.subs.length
theorem EntOk.two {W : World} {B j : Nat} {x : Ent} (h : EntOk W B x) (hj : j < x.l.length) : ∃ b o b' o' s t, x.A = some ⟨b, o, none⟩ ∧ x.B = some ⟨b', o', none⟩ ∧ Two W B j x (x.l.getD j noRng) b o b' o' s t := by
  obtain ⟨b, o, s, e1, h1, c1, l1⟩ := h.a.one hj
  obtain ⟨b', o', t, e2, h2, c2, l2⟩ := h.b.one hj
  have s1 := l1.says
  have s2 := l2.says
  have hv : t.v = s.v := s2.ver.symm.trans s1.ver
  have hk : t.kind = s.kind := s2.kind.symm.trans s1.kind
  obtain ⟨f1, n1, r1⟩ := s1.subs
  obtain ⟨f2, n2, r2⟩ := s2.subs
  have hn : t.n = s.n := n2.symm.trans n1
  refine ⟨b, o, b', o', s, t, e1, e2, h1, h2, c1, c2, s1.pre, s1.build, by rw [← hv]; exact s2.pre, by rw [← hv]; exact s2.build, s1.fit, ⟨f1, n1, r1⟩, by rw [← hn]; exact ⟨f2, n2, r2⟩, hk, hv, hn, n1.symm⟩
theorem RgRow.new (w : World) (t : TypeId) (x : RV) (r : Rng) {B : Nat} (h : Lies w (LtB B) r x) (hB : w.heap.size < B) : RgRow (w.alloc (.cells x.vals.toArray t)) (LtB B) (some ⟨w.heap.size, 0, none⟩) 1 [r] := by
  refine ⟨fun _ => x, rfl, fun _ => ⟨w.heap.size, 0, rfl, hB, fun j hj i u hu => ?_⟩, fun j hj => ?_⟩
  · obtain rfl : j = 0 := by omega
    have := news_new w x.vals t i u hu
    rw [show ((⟨w.heap.size, 0, none⟩ : Addr).add i) = ⟨w.heap.size, 0 + 0 * 7 + i, none⟩ from by cases i <;> simp [Addr.add]] at this
    exact this
  · obtain rfl : j = 0 := by omega
    exact h.keep (KeepS.alloc _ _)
theorem entInfo : (Tryd.prog.info? 40).map (fun i => (i.zero, i.size, i.bytes)) = some (some (.agg #[.slice none 0 0, .slice none 0 0]), 2, 48) := by kernel_rfl
theorem wpList_append_ent (w : World) {ops : Array Oper} {rest : List Oper} {o : Oper} {a : Act} {Q : Exit → Act → World → Prop} (hgd : o.guard = none) (s x : Operand)
    (ho : o.op = .call { callee := .builtin .append, args := #[s, x], argTypes := #[41, 41] })
    (base : Nat) (v : Value) (T : List Ent) (hs : a.eval s = v) (hown : w.ownsRow base 40 2 v T.length (T.flatMap Ent.vals))
    (ad : Addr) (y : Ent) (hx : a.eval x = .slice (some ad) 1 1) (hnews : ∀ j u, y.vals[j]? = some u → w.cell? (ad.add j) = some u) (hb : T.length ≤ 5000000) (hbase : base ≤ w.heap.size)
    (h : ∀ v' w', w'.ownsRow base 40 2 v' (T ++ [y]).length ((T ++ [y]).flatMap Ent.vals) → Below base w w' → wpList Tryd.prog ops Q rest (a.put o.dst v') w') : wpList Tryd.prog ops Q (o :: rest) a w := by
  obtain ⟨i, hi, hz, hsz, hby⟩ := info_parts entInfo
  refine wpList_append_own_at w hgd s x 41 ho base 40 i _ 2 48 Tryd.underlying41 hi hz hsz hby rfl (by omega) v T.length _ hs hown ad 1 1 y.vals hx rfl hnews (ent_one y) (by unfold maxLen; omega) (by omega) hbase (fun v' w' h2 h3 _ h5 => ?_)
  have e : (T ++ [y]).length = T.length + 1 := by rw [List.length_append]; rfl
  refine h v' w' (by rw [e, List.flatMap_append]; simpa using h2) ⟨h3.os, h3.tape, h3.output, h3.size, fun k hk => h3.block k (by omega) (fun e2 => ?_)⟩
  have := (hown.lt k e2.symm).1
  omega
theorem op_append_ent (w : World) {o : Oper} {a : Act} {K : Act → World → Prop} {Q : Exit → Act → World → Prop} (s x : Operand)
    (ho : o.op = .call { callee := .builtin .append, args := #[s, x], argTypes := #[41, 41] })
    (base : Nat) (v : Value) (T : List Ent) (hs : a.eval s = v) (hown : w.ownsRow base 40 2 v T.length (T.flatMap Ent.vals))
    (ad : Addr) (y : Ent) (hx : a.eval x = .slice (some ad) 1 1) (hnews : ∀ j u, y.vals[j]? = some u → w.cell? (ad.add j) = some u) (hb : T.length ≤ 5000000) (hbase : base ≤ w.heap.size)
    (h : ∀ v' w', w'.ownsRow base 40 2 v' (T ++ [y]).length ((T ++ [y]).flatMap Ent.vals) → Below base w w' → K (a.put o.dst v') w') : Oper.wp Tryd.prog o a w K Q := by
  obtain ⟨i, hi, hz, hsz, hby⟩ := info_parts entInfo
  obtain ⟨v', w', hr, h2, h3, h4, h5⟩ := run_append_own_at (P := Tryd.prog) w base 41 o.type 40 i _ 2 48 Tryd.underlying41 hi hz hsz hby rfl (by omega) v T.length _ hown ad 1 1 y.vals rfl hnews (ent_one y) (by unfold maxLen; omega) (by omega) hbase
  unfold Oper.wp execOp
  simp only [ho, resolve, invoke, builtin, Sem.run_bind, Sem.run_pure, Result.andThen_ok, List.map_toArray, List.map_cons, List.map_nil, hs, hx, hr]
  have e : (T ++ [y]).length = T.length + 1 := by rw [List.length_append]; rfl
  refine h v' w' (by rw [e, List.flatMap_append]; simpa using h2) ⟨h3.os, h3.tape, h3.output, h3.size, fun k hk => h3.block k (by omega) (fun e2 => ?_)⟩
  have := (hown.lt k e2.symm).1
  omega
end Go.Proofs.YtolkcblkciafiaaDoor.Range

namespace Go.Proofs.YtolkcblkciafiaaDoor.Range
open Go.RowKit Num Ident Semver
theorem arr_lit (t : Array Value) (n : Nat) (h : t.size = n) : t = ((List.range n).map fun i => t.getD i undef).toArray := by
  apply Array.ext
  · simp [h]
  · intro i h1 h2
    simp [Array.getD, h1]
/-- The frame of rangeexpr.Same, all but its first slots by number. -/
theorem sm_frame (t : Array Value) (h : t.size = 104) : ∃ F : Nat → Value, t = #[t.getD 0 undef, t.getD 1 undef, t.getD 2 undef, t.getD 3 undef, t.getD 4 undef, t.getD 5 undef, F 6, F 7, F 8, F 9, F 10, F 11, F 12, F 13, F 14, F 15, F 16, F 17, F 18, F 19, F 20, F 21, F 22, F 23, F 24, F 25, F 26, F 27, F 28, F 29, F 30, F 31, F 32, F 33, F 34, F 35, F 36, F 37, F 38, F 39, F 40, F 41, F 42, F 43, F 44, F 45, F 46, F 47, F 48, F 49, F 50, F 51, F 52, F 53, F 54, F 55, F 56, F 57, F 58, F 59, F 60, F 61, F 62, F 63, F 64, F 65, F 66, F 67, F 68, F 69, F 70, F 71, F 72, F 73, F 74, F 75, F 76, F 77, F 78, F 79, F 80, F 81, F 82, F 83, F 84, F 85, F 86, F 87, F 88, F 89, F 90, F 91, F 92, F 93, F 94, F 95, F 96, F 97, F 98, F 99, F 100, F 101, F 102, F 103] := ⟨fun i => t.getD i undef, arr_lit t 104 h⟩
def SmJ (w : World) (x0 x1 : Value) (m : Nat) (a' : Act) (W : World) : Prop :=
  ∃ (T : List Ent) (v : Value), Below w.heap.size w W ∧ w.heap.size + 4 ≤ W.heap.size ∧ W.ownsRow (w.heap.size + 4) 40 2 v T.length (T.flatMap Ent.vals) ∧ (∀ x ∈ T, EntOk W (w.heap.size + 4) x) ∧ wsum T = m ∧ m ≤ 4000000 ∧
    a'.defers = [] ∧ a'.tmps.size = 104 ∧ a'.tmps.getD 0 undef = x0 ∧ a'.tmps.getD 1 undef = x1 ∧ a'.tmps.getD 2 undef = .pointer (some ⟨w.heap.size, 0, none⟩) ∧ a'.tmps.getD 3 undef = .pointer (some ⟨w.heap.size + 1, 0, none⟩) ∧ a'.tmps.getD 4 undef = .bool false ∧ a'.tmps.getD 5 undef = v
set_option maxRecDepth 100000 in
set_option maxHeartbeats 12800000 in
theorem same_of (r : Rng) (x y : RV) (S : Nat → Prop) (w : World) (hx : Lies w S r x) (hy : Lies w S r y) (hS : ∀ g, S g → g < w.heap.size) (hm : wt r ≤ 4000000) :
    Calls Tryd.prog 8 #[x.agg, y.agg] w fun e w' => e = .returned (.bool true) ∧ Below w.heap.size w w' := by
  have HX := Lib.hid (hx.mono (S' := LtB w.heap.size) fun g hg _ => hS g hg)
  have HY := Lib.hid (hy.mono (S' := LtB w.heap.size) fun g hg _ => hS g hg)
  clear hx hy hS
  unfold RV.agg
  go_enter Tryd.func8, Tryd.ntmps8
  go_wp2_with fail
  have HBa : Hid (Below w.heap.size w ((w.alloc (.cells #[.int .i64 x.kind, .int .u64 (x.v.a : Int), .int .u64 (x.v.b : Int), .int .u64 (x.v.c : Int), .slice x.A x.v.pre.length x.c, .slice x.B x.v.build.length x.d, .slice x.L x.n x.e] 29)).alloc (.cells #[.int .i64 y.kind, .int .u64 (y.v.a : Int), .int .u64 (y.v.b : Int), .int .u64 (y.v.c : Int), .slice y.A y.v.pre.length y.c, .slice y.B y.v.build.length y.d, .slice y.L y.n y.e] 29))) := ((Below.refl _ _).alloc (Nat.le_refl _) _).alloc (by simp) _
  have HRx : Hid (RAt ((w.alloc (.cells #[.int .i64 x.kind, .int .u64 (x.v.a : Int), .int .u64 (x.v.b : Int), .int .u64 (x.v.c : Int), .slice x.A x.v.pre.length x.c, .slice x.B x.v.build.length x.d, .slice x.L x.n x.e] 29)).alloc (.cells #[.int .i64 y.kind, .int .u64 (y.v.a : Int), .int .u64 (y.v.b : Int), .int .u64 (y.v.c : Int), .slice y.A y.v.pre.length y.c, .slice y.B y.v.build.length y.d, .slice y.L y.n y.e] 29)) w.heap.size x) := (RAt.new w _ x).kept ((Below.refl _ _).alloc (Nat.le_refl _) _) (by simp)
  have HRy : Hid (RAt ((w.alloc (.cells #[.int .i64 x.kind, .int .u64 (x.v.a : Int), .int .u64 (x.v.b : Int), .int .u64 (x.v.c : Int), .slice x.A x.v.pre.length x.c, .slice x.B x.v.build.length x.d, .slice x.L x.n x.e] 29)).alloc (.cells #[.int .i64 y.kind, .int .u64 (y.v.a : Int), .int .u64 (y.v.b : Int), .int .u64 (y.v.c : Int), .slice y.A y.v.pre.length y.c, .slice y.B y.v.build.length y.d, .slice y.L y.n y.e] 29)) (w.heap.size + 1) y) := by have := RAt.new (w.alloc (.cells #[.int .i64 x.kind, .int .u64 (x.v.a : Int), .int .u64 (x.v.b : Int), .int .u64 (x.v.c : Int), .slice x.A x.v.pre.length x.c, .slice x.B x.v.build.length x.d, .slice x.L x.n x.e] 29)) 29 y; rw [size_alloc] at this; exact this
  have HSz : Hid (((w.alloc (.cells #[.int .i64 x.kind, .int .u64 (x.v.a : Int), .int .u64 (x.v.b : Int), .int .u64 (x.v.c : Int), .slice x.A x.v.pre.length x.c, .slice x.B x.v.build.length x.d, .slice x.L x.n x.e] 29)).alloc (.cells #[.int .i64 y.kind, .int .u64 (y.v.a : Int), .int .u64 (y.v.b : Int), .int .u64 (y.v.c : Int), .slice y.A y.v.pre.length y.c, .slice y.B y.v.build.length y.d, .slice y.L y.n y.e] 29)).heap.size = w.heap.size + 2) := by rw [size_alloc, size_alloc]; rfl
  generalize (w.alloc (.cells #[.int .i64 x.kind, .int .u64 (x.v.a : Int), .int .u64 (x.v.b : Int), .int .u64 (x.v.c : Int), .slice x.A x.v.pre.length x.c, .slice x.B x.v.build.length x.d, .slice x.L x.n x.e] 29)).alloc (.cells #[.int .i64 y.kind, .int .u64 (y.v.a : Int), .int .u64 (y.v.b : Int), .int .u64 (y.v.c : Int), .slice y.A y.v.pre.length y.c, .slice y.B y.v.build.length y.d, .slice y.L y.n y.e] 29) = W1 at HBa HRx HRy HSz ⊢
  refine wp_scope_back_of 0 (SmJ w x.agg y.agg) rfl ?_ ?_
  · rintro m ⟨tm, df⟩ W ⟨T, v, hb1, hz, hown, hok, hwm, hmm, hd, hs, t0, t1, t2, t3, t4, t5⟩
    simp only at hd hs t0 t1 t2 t3 t4 t5
    obtain ⟨F, hF⟩ := sm_frame tm hs
    rw [t0, t1, t2, t3, t4, t5] at hF
    clear t0 t1 t2 t3 t4 t5 hs
    subst hF; subst hd
    have HB1 := Lib.hid hb1
    have HO1 := Lib.hid hown
    have HK1 := Lib.hid hok
    clear hb1 hown hok
    by_cases h1 : T = []
    · subst h1
      rcases HO1.out.2 with ⟨rfl, _⟩ | ⟨g, cp, cur, rfl, _⟩
      all_goals
        go_wp2
        simp only [Exit.jump]
        go_ret
        exact ⟨rfl, HB1.out⟩
    · obtain ⟨R, y', rfl⟩ := split_last h1
      clear h1
      obtain ⟨y, hy⟩ : ∃ y, y' = y := ⟨_, rfl⟩
      subst hy
      have hlen : (R ++ [y']).length = R.length + 1 := by rw [List.length_append]; rfl
      have hRl : R.length < 4000000 := by have := wsum_len HK1.out; omega
      have HW := Lib.hid hwm
      rw [hlen] at HO1
      rcases HO1.out.2 with ⟨_, h0⟩ | ⟨g, cp, cur, rfl, hg, _⟩
      · exact absurd h0 (Nat.succ_ne_zero _)
      have hge : (R ++ [y']).flatMap Ent.vals = R.flatMap Ent.vals ++ y'.vals := by rw [List.flatMap_append]; simp
      have hgt : ∀ i, i < 2 → W.cell? ⟨g, R.length * 2 + i, none⟩ = y'.vals[i]? := fun i hi => by
        rw [HO1.out.cellAt (R.length * 2 + i) (by omega), flat_get Ent.vals 2 ent_len _ _ _ (by omega) hi]
        simp [List.getD]
      have HC1 : Hid (W.cell? ⟨g, R.length * 2, none⟩ = some (.slice y'.A y'.l.length y'.e)) := hgt 0 (by omega)
      have HC2 : Hid (W.cell? ⟨g, R.length * 2 + 1, none⟩ = some (.slice y'.B y'.l.length y'.f)) := hgt 1 (by omega)
      have HPop : Hid (W.ownsRow (w.heap.size + 4) 40 2 (.slice (some ⟨g, 0, none⟩) R.length cp) R.length (R.flatMap Ent.vals)) := by
        have := HO1.out
        rw [hge] at this
        exact ownsRow_pop (by rw [flat_len Ent.vals 2 ent_len]) this
      have hcp : R.length + 1 ≤ cp := by rename_i h; exact h.2.1
      clear hge hgt HO1
      have hs1 : IntKind.i64.wrap (((R.length + 1 : Nat) : Int) - 1) = (R.length : Int) := by rw [IntKind.wrap_i64] <;> omega
      have hs2 : (R.length : Int) < ((R.length + 1 : Nat) : Int) := by omega
      have hs3 : (0 : Int) ≤ (R.length : Int) := by omega
      have d1 := HC1.out
      have d2 := HC2.out
      go_upto_region 4 with (fail)
      go_cut [6, 7] (fun x y wx => x = .slice y'.A y'.l.length y'.e ∧ y = .slice y'.B y'.l.length y'.f ∧ ∃ q, wx = W.drewN q)
      case first =>
        go_quiet (fail)
        go_wp2
        go_meet
        exact ⟨rfl, rfl, _, rfl⟩
      case rest =>
        obtain ⟨rfl, rfl, q, rfl⟩ := hcut
        have HBq : Hid (Below W.heap.size W (W.drewN q)) := ⟨rfl, rfl, rfl, Nat.le_refl _, fun _ _ => rfl⟩
        have HPop2 := Lib.hid (own_below HPop.out HBq.out)
        have HB2 := Lib.hid (HB1.out.trans (HBq.out.mono HB1.out.size))
        have HKR : Hid (∀ z ∈ R, EntOk (W.drewN q) (w.heap.size + 4) z) := fun z hz => (HK1.out z (by simp [hz])).kept (KeepS.of_below HBq.out)
        have HKY : Hid (EntOk (W.drewN q) (w.heap.size + 4) y') := (HK1.out y' (by simp)).kept (KeepS.of_below HBq.out)
        have hz2 : w.heap.size + 4 ≤ (W.drewN q).heap.size := hz
        have hsum : wsum R + wtL y'.l = m := by rw [← wsum_more]; exact hwm
        have hpos := HKY.out.pos
        clear HBq HPop HB1 HK1 HC1 HC2 d1 d2 hz hs1 hs2 hs3 HW hwm
        generalize W.drewN q = W2 at HPop2 HB2 HKR HKY hz2 ⊢
        go_wp2
        go_loopw [4, 5, 39] (fun rv v iv W' => rv = .bool false ∧ ∃ (k : Nat) (T : List Ent), k ≤ y'.l.length ∧ iv = .int .i64 (k : Int) ∧ Hid (Below w.heap.size w W') ∧ w.heap.size + 4 ≤ W'.heap.size ∧ Hid (W'.ownsRow (w.heap.size + 4) 40 2 v T.length (T.flatMap Ent.vals)) ∧ Hid (∀ z ∈ T, EntOk W' (w.heap.size + 4) z) ∧ Hid (EntOk W' (w.heap.size + 4) y') ∧ wsum T + wtL (y'.l.drop k) + k ≤ m) (fun _ _ iv _ => y'.l.length - (intOf iv).toNat)
        case atStart => exact ⟨rfl, 0, R, Nat.zero_le _, rfl, HB2, hz2, HPop2, HKR, HKY, by rw [List.drop_zero]; omega⟩
        case round =>
          obtain ⟨rfl, k, T, hk, rfl, HB3, hz3, HO3, HKT, HKZ, hsm⟩ := hrel
          clear HB2 HPop2 HKR HKY hz2
          by_cases hlt : k < y'.l.length
          · obtain ⟨b, o, b', o', s, t, eA, eB, hT⟩ := HKZ.out.two hlt
            have hw := wtL_drop y'.l k hlt
            rw [eA, eB]
            generalize y'.l.getD k noRng = r1 at hT hw
            have HT := Lib.hid hT
            have HCS := Lib.hid hT.cs
            have HCT := Lib.hid hT.ct
            have HP1 := Lib.hid hT.p1
            have HP2 := Lib.hid hT.p2
            have HQ1 := Lib.hid hT.q1
            have HQ2 := Lib.hid hT.q2
            have HK := Lib.hid hT.kind
            have HV := Lib.hid hT.ver
            have HN := Lib.hid hT.n
            have HM1 : Hid (s.v.pre.length ≤ maxLen) := hT.fit.pre
            have HM2 : Hid (s.v.build.length ≤ maxLen) := hT.fit.build
            clear hT
            go_upto_region 9 with (fail)
            go_cut [81] (fun x wx => x = .bool false ∧ Below wr.heap.size wr wx)
            case first =>
              have B0 := Lib.hid ((Below.refl wr.heap.size wr).drew)
              refine wp_region_held_drew (S := fun w' => CellsAt w' b (o + k * 7) s ∧ CellsAt w' b' (o' + k * 7) t) (by kernel_rfl) ⟨HCS.out, HCT.out⟩ (fun hHeld => ?_)
              refine wpAnyH_take (i := 0) (oi := { dst := some 42, op := Op.move (Operand.tmp 6), type := 27, pos := "tell.go:157", after := #[], guard := none }) (v := .slice (some ⟨b, o, none⟩) y'.l.length y'.e) rfl (by kernel_rfl) (by kernel_rfl) (by kernel_rfl) (fun _ _ _ h => h) (Or.inl ⟨by rfl, fun w' hS' => by go_simp⟩) (by assumption) ?_
              simp only [Act.put, List.setIfInBounds_toArray, List.set_cons_zero, List.set_cons_succ]
              refine wpAnyH_take (i := 1) (oi := { dst := some 43, op := Op.move (Operand.tmp 8), type := 3, pos := "tell.go:157", after := #[], guard := none }) (v := .int .i64 (k : Int)) rfl (by kernel_rfl) (by kernel_rfl) (by kernel_rfl) (fun _ _ _ h => h) (Or.inl ⟨by rfl, fun w' hS' => by go_simp⟩) (by assumption) ?_
              simp only [Act.put, List.setIfInBounds_toArray, List.set_cons_zero, List.set_cons_succ]
              refine wpAnyH_take (i := 2) (oi := { dst := some 44, op := Op.indexAddr 27 (Operand.tmp 42) (Operand.tmp 43), type := 0, pos := "tell.go:157", after := #[{ on := 0, ground := Ground.data }, { on := 1, ground := Ground.data }], guard := none }) (v := .pointer (some ⟨b, o + k * 7, none⟩)) rfl (by kernel_rfl) (by kernel_rfl) (by kernel_rfl) (fun _ _ _ h => h) (Or.inl ⟨by rfl, fun w' hS' => by go_simp⟩) (by assumption) ?_
              simp only [Act.put, List.setIfInBounds_toArray, List.set_cons_zero, List.set_cons_succ]
              refine wpAnyH_take (i := 3) (oi := { dst := some 45, op := Op.fieldAddr 29 (Operand.tmp 44) 0, type := 0, pos := "tell.go:157", after := #[{ on := 2, ground := Ground.data }], guard := none }) (v := .pointer (some ⟨b, o + k * 7, none⟩)) rfl (by kernel_rfl) (by kernel_rfl) (by kernel_rfl) (fun _ _ _ h => h) (Or.inl ⟨by rfl, fun w' hS' => by go_simp⟩) (by assumption) ?_
              simp only [Act.put, List.setIfInBounds_toArray, List.set_cons_zero, List.set_cons_succ]
              refine wpAnyH_take (i := 4) (oi := { dst := some 46, op := Op.load 3 (Operand.tmp 45), type := 3, pos := "tell.go:157", after := #[{ on := 3, ground := Ground.data }], guard := none }) (v := .int .i64 s.kind) rfl (by kernel_rfl) (by kernel_rfl) (by kernel_rfl) (fun _ _ _ h => h) (Or.inl ⟨by rfl, fun w' hS' => by obtain ⟨x0, x1, x2, x3, x4, x5, x6⟩ := hS'.1.cells; go_simp⟩) (by assumption) ?_
              simp only [Act.put, List.setIfInBounds_toArray, List.set_cons_zero, List.set_cons_succ]
              refine wpAnyH_take (i := 5) (oi := { dst := some 47, op := Op.move (Operand.tmp 7), type := 27, pos := "tell.go:157", after := #[], guard := none }) (v := .slice (some ⟨b', o', none⟩) y'.l.length y'.f) rfl (by kernel_rfl) (by kernel_rfl) (by kernel_rfl) (fun _ _ _ h => h) (Or.inl ⟨by rfl, fun w' hS' => by go_simp⟩) (by assumption) ?_
              simp only [Act.put, List.setIfInBounds_toArray, List.set_cons_zero, List.set_cons_succ]
              refine wpAnyH_take (i := 6) (oi := { dst := some 48, op := Op.move (Operand.tmp 8), type := 3, pos := "tell.go:157", after := #[], guard := none }) (v := .int .i64 (k : Int)) rfl (by kernel_rfl) (by kernel_rfl) (by kernel_rfl) (fun _ _ _ h => h) (Or.inl ⟨by rfl, fun w' hS' => by go_simp⟩) (by assumption) ?_
              simp only [Act.put, List.setIfInBounds_toArray, List.set_cons_zero, List.set_cons_succ]
              refine wpAnyH_take (i := 7) (oi := { dst := some 49, op := Op.indexAddr 27 (Operand.tmp 47) (Operand.tmp 48), type := 0, pos := "tell.go:157", after := #[{ on := 5, ground := Ground.data }, { on := 6, ground := Ground.data }], guard := none }) (v := .pointer (some ⟨b', o' + k * 7, none⟩)) rfl (by kernel_rfl) (by kernel_rfl) (by kernel_rfl) (fun _ _ _ h => h) (Or.inl ⟨by rfl, fun w' hS' => by go_simp⟩) (by assumption) ?_
              simp only [Act.put, List.setIfInBounds_toArray, List.set_cons_zero, List.set_cons_succ]
              refine wpAnyH_take (i := 8) (oi := { dst := some 50, op := Op.fieldAddr 29 (Operand.tmp 49) 0, type := 0, pos := "tell.go:157", after := #[{ on := 7, ground := Ground.data }], guard := none }) (v := .pointer (some ⟨b', o' + k * 7, none⟩)) rfl (by kernel_rfl) (by kernel_rfl) (by kernel_rfl) (fun _ _ _ h => h) (Or.inl ⟨by rfl, fun w' hS' => by go_simp⟩) (by assumption) ?_
              simp only [Act.put, List.setIfInBounds_toArray, List.set_cons_zero, List.set_cons_succ]
              refine wpAnyH_take (i := 9) (oi := { dst := some 51, op := Op.load 3 (Operand.tmp 50), type := 3, pos := "tell.go:157", after := #[{ on := 8, ground := Ground.data }], guard := none }) (v := .int .i64 s.kind) rfl (by kernel_rfl) (by kernel_rfl) (by kernel_rfl) (fun _ _ _ h => h) (Or.inl ⟨by rfl, fun w' hS' => by obtain ⟨x0, x1, x2, x3, x4, x5, x6⟩ := hS'.2.cells; rw [HK.out] at x0; go_simp⟩) (by assumption) ?_
              simp only [Act.put, List.setIfInBounds_toArray, List.set_cons_zero, List.set_cons_succ]
              refine wpAnyH_take (i := 10) (oi := { dst := some 52, op := Op.binOp BinOp.neq 3 (Operand.tmp 46) (Operand.tmp 51) 3, type := 4, pos := "tell.go:157", after := #[{ on := 4, ground := Ground.data }, { on := 9, ground := Ground.data }], guard := none }) (v := .bool false) rfl (by kernel_rfl) (by kernel_rfl) (by kernel_rfl) (fun _ _ _ h => h) (Or.inl ⟨by rfl, fun w' hS' => by go_simp⟩) (by assumption) ?_
              simp only [Act.put, List.setIfInBounds_toArray, List.set_cons_zero, List.set_cons_succ]
              refine wpAnyH_take (i := 11) (oi := { dst := some 53, op := Op.move (Operand.tmp 52), type := 4, pos := "tell.go:157", after := #[{ on := 10, ground := Ground.data }], guard := none }) (v := .bool false) rfl (by kernel_rfl) (by kernel_rfl) (by kernel_rfl) (fun _ _ _ h => h) (Or.inl ⟨by rfl, fun w' hS' => by go_simp⟩) (by assumption) ?_
              simp only [Act.put, List.setIfInBounds_toArray, List.set_cons_zero, List.set_cons_succ]
              refine wpAnyH_take (i := 12) (oi := { dst := some 54, op := Op.move (Operand.tmp 6), type := 27, pos := "tell.go:157", after := #[{ on := 11, ground := Ground.guard }], guard := some (11, false) }) (v := .slice (some ⟨b, o, none⟩) y'.l.length y'.e) rfl (by kernel_rfl) (by kernel_rfl) (by kernel_rfl) (fun _ _ _ h => h) (Or.inl ⟨by rfl, fun w' hS' => by go_simp⟩) (by assumption) ?_
              simp only [Act.put, List.setIfInBounds_toArray, List.set_cons_zero, List.set_cons_succ]
              refine wpAnyH_take (i := 13) (oi := { dst := some 55, op := Op.move (Operand.tmp 8), type := 3, pos := "tell.go:157", after := #[{ on := 11, ground := Ground.guard }], guard := some (11, false) }) (v := .int .i64 (k : Int)) rfl (by kernel_rfl) (by kernel_rfl) (by kernel_rfl) (fun _ _ _ h => h) (Or.inl ⟨by rfl, fun w' hS' => by go_simp⟩) (by assumption) ?_
              simp only [Act.put, List.setIfInBounds_toArray, List.set_cons_zero, List.set_cons_succ]
              refine wpAnyH_take (i := 14) (oi := { dst := some 56, op := Op.indexAddr 27 (Operand.tmp 54) (Operand.tmp 55), type := 0, pos := "tell.go:157", after := #[{ on := 12, ground := Ground.data }, { on := 13, ground := Ground.data }, { on := 11, ground := Ground.guard }], guard := some (11, false) }) (v := .pointer (some ⟨b, o + k * 7, none⟩)) rfl (by kernel_rfl) (by kernel_rfl) (by kernel_rfl) (fun _ _ _ h => h) (Or.inl ⟨by rfl, fun w' hS' => by go_simp⟩) (by assumption) ?_
              simp only [Act.put, List.setIfInBounds_toArray, List.set_cons_zero, List.set_cons_succ]
              refine wpAnyH_take (i := 15) (oi := { dst := some 57, op := Op.fieldAddr 29 (Operand.tmp 56) 1, type := 0, pos := "tell.go:157", after := #[{ on := 14, ground := Ground.data }, { on := 11, ground := Ground.guard }], guard := some (11, false) }) (v := .pointer (some ⟨b, o + k * 7 + 1, none⟩)) rfl (by kernel_rfl) (by kernel_rfl) (by kernel_rfl) (fun _ _ _ h => h) (Or.inl ⟨by rfl, fun w' hS' => by go_simp⟩) (by assumption) ?_
              simp only [Act.put, List.setIfInBounds_toArray, List.set_cons_zero, List.set_cons_succ]
              refine wpAnyH_take (i := 16) (oi := { dst := some 58, op := Op.load 26 (Operand.tmp 57), type := 26, pos := "tell.go:157", after := #[{ on := 15, ground := Ground.data }, { on := 11, ground := Ground.guard }], guard := some (11, false) }) (v := .agg #[.int .u64 (s.v.a : Int), .int .u64 (s.v.b : Int), .int .u64 (s.v.c : Int), .slice s.A s.v.pre.length s.c, .slice s.B s.v.build.length s.d]) rfl (by kernel_rfl) (by kernel_rfl) (by kernel_rfl) (fun _ _ _ h => h) (Or.inl ⟨by rfl, fun w' hS' => by obtain ⟨x0, x1, x2, x3, x4, x5, x6⟩ := hS'.1.cells; go_simp⟩) (by assumption) ?_
              simp only [Act.put, List.setIfInBounds_toArray, List.set_cons_zero, List.set_cons_succ]
              refine wpAnyH_take (i := 17) (oi := { dst := some 59, op := Op.move (Operand.tmp 7), type := 27, pos := "tell.go:157", after := #[{ on := 11, ground := Ground.guard }], guard := some (11, false) }) (v := .slice (some ⟨b', o', none⟩) y'.l.length y'.f) rfl (by kernel_rfl) (by kernel_rfl) (by kernel_rfl) (fun _ _ _ h => h) (Or.inl ⟨by rfl, fun w' hS' => by go_simp⟩) (by assumption) ?_
              simp only [Act.put, List.setIfInBounds_toArray, List.set_cons_zero, List.set_cons_succ]
              refine wpAnyH_take (i := 18) (oi := { dst := some 60, op := Op.move (Operand.tmp 8), type := 3, pos := "tell.go:157", after := #[{ on := 11, ground := Ground.guard }], guard := some (11, false) }) (v := .int .i64 (k : Int)) rfl (by kernel_rfl) (by kernel_rfl) (by kernel_rfl) (fun _ _ _ h => h) (Or.inl ⟨by rfl, fun w' hS' => by go_simp⟩) (by assumption) ?_
              simp only [Act.put, List.setIfInBounds_toArray, List.set_cons_zero, List.set_cons_succ]
              refine wpAnyH_take (i := 19) (oi := { dst := some 61, op := Op.indexAddr 27 (Operand.tmp 59) (Operand.tmp 60), type := 0, pos := "tell.go:157", after := #[{ on := 17, ground := Ground.data }, { on := 18, ground := Ground.data }, { on := 11, ground := Ground.guard }], guard := some (11, false) }) (v := .pointer (some ⟨b', o' + k * 7, none⟩)) rfl (by kernel_rfl) (by kernel_rfl) (by kernel_rfl) (fun _ _ _ h => h) (Or.inl ⟨by rfl, fun w' hS' => by go_simp⟩) (by assumption) ?_
              simp only [Act.put, List.setIfInBounds_toArray, List.set_cons_zero, List.set_cons_succ]
              refine wpAnyH_take (i := 20) (oi := { dst := some 62, op := Op.fieldAddr 29 (Operand.tmp 61) 1, type := 0, pos := "tell.go:157", after := #[{ on := 19, ground := Ground.data }, { on := 11, ground := Ground.guard }], guard := some (11, false) }) (v := .pointer (some ⟨b', o' + k * 7 + 1, none⟩)) rfl (by kernel_rfl) (by kernel_rfl) (by kernel_rfl) (fun _ _ _ h => h) (Or.inl ⟨by rfl, fun w' hS' => by go_simp⟩) (by assumption) ?_
              simp only [Act.put, List.setIfInBounds_toArray, List.set_cons_zero, List.set_cons_succ]
              refine wpAnyH_take (i := 21) (oi := { dst := some 63, op := Op.load 26 (Operand.tmp 62), type := 26, pos := "tell.go:157", after := #[{ on := 20, ground := Ground.data }, { on := 11, ground := Ground.guard }], guard := some (11, false) }) (v := .agg #[.int .u64 (s.v.a : Int), .int .u64 (s.v.b : Int), .int .u64 (s.v.c : Int), .slice t.A s.v.pre.length t.c, .slice t.B s.v.build.length t.d]) rfl (by kernel_rfl) (by kernel_rfl) (by kernel_rfl) (fun _ _ _ h => h) (Or.inl ⟨by rfl, fun w' hS' => by obtain ⟨x0, x1, x2, x3, x4, x5, x6⟩ := hS'.2.cells; rw [HV.out] at x1 x2 x3 x4 x5; go_simp⟩) (by assumption) ?_
              simp only [Act.put, List.setIfInBounds_toArray, List.set_cons_zero, List.set_cons_succ]
              refine wpAnyH_ready (rs := [22]) (by kernel_rfl) (by simp) ?_
              refine AllReadyH.cons (o := { dst := some 64, op := Op.call { callee := Callee.value (Operand.func 12), args := #[Operand.tmp 58, Operand.tmp 63], argTypes := #[26, 26] }, type := 4, pos := "tell.go:157", after := #[{ on := 16, ground := Ground.data }, { on := 21, ground := Ground.data }, { on := 11, ground := Ground.chain }, { on := 11, ground := Ground.guard }], guard := some (11, false) }) rfl (fun K hK => ?_) AllReadyH.nil
              go_simp
              refine (same_parts s.A s.v.pre.length s.c s.v.pre s.B s.v.build.length s.d s.v.build t.A s.v.pre.length t.c s.v.pre t.B s.v.build.length t.d s.v.build s.v.a s.v.b s.v.c s.v.a s.v.b s.v.c _ (HP1.out.kept B0.out) (HP2.out.kept B0.out) (HQ1.out.kept B0.out) (HQ2.out.kept B0.out) HM1.out HM2.out HM1.out HM2.out).mono ?_
              rintro e w2 ⟨rfl, hb2⟩
              have B2 := Lib.hid (B0.out.trans (hb2.mono B0.out.size))
              clear hb2 hHeld
              rw [sameV_self]
              refine hK.out _ _ ⟨HCS.out.keep (KeepS.of_below (S := fun _ => True) B2.out) trivial, HCT.out.keep (KeepS.of_below (S := fun _ => True) B2.out) trivial⟩ (fun hHeld => ?_)
              clear hK K
              try simp only [Act.put, List.setIfInBounds_toArray, List.set_cons_zero, List.set_cons_succ]
              refine wpAnyH_take (i := 23) (oi := { dst := some 65, op := Op.unOp UnOp.not 4 (Operand.tmp 64), type := 4, pos := "tell.go:157", after := #[{ on := 22, ground := Ground.data }, { on := 11, ground := Ground.guard }], guard := some (11, false) }) (v := .bool false) rfl (by kernel_rfl) (by kernel_rfl) (by kernel_rfl) (fun _ _ _ h => h) (Or.inl ⟨by rfl, fun w' hS' => by go_simp⟩) (by assumption) ?_
              simp only [Act.put, List.setIfInBounds_toArray, List.set_cons_zero, List.set_cons_succ]
              refine wpAnyH_take (i := 24) (oi := { dst := some 66, op := Op.pick (Operand.tmp 53) (Operand.const (Value.bool true)) (Operand.tmp 65), type := 4, pos := "tell.go:157", after := #[{ on := 11, ground := Ground.data }, { on := 23, ground := Ground.data }], guard := none }) (v := .bool false) rfl (by kernel_rfl) (by kernel_rfl) (by kernel_rfl) (fun _ _ _ h => h) (Or.inl ⟨by rfl, fun w' hS' => by go_simp⟩) (by assumption) ?_
              simp only [Act.put, List.setIfInBounds_toArray, List.set_cons_zero, List.set_cons_succ]
              refine wpAnyH_take (i := 25) (oi := { dst := some 67, op := Op.move (Operand.tmp 66), type := 4, pos := "tell.go:157", after := #[{ on := 24, ground := Ground.data }, { on := 22, ground := Ground.chain }], guard := none }) (v := .bool false) rfl (by kernel_rfl) (by kernel_rfl) (by kernel_rfl) (fun _ _ _ h => h) (Or.inl ⟨by rfl, fun w' hS' => by go_simp⟩) (by assumption) ?_
              simp only [Act.put, List.setIfInBounds_toArray, List.set_cons_zero, List.set_cons_succ]
              refine wpAnyH_take (i := 26) (oi := { dst := some 68, op := Op.move (Operand.tmp 6), type := 27, pos := "tell.go:157", after := #[{ on := 25, ground := Ground.guard }], guard := some (25, false) }) (v := .slice (some ⟨b, o, none⟩) y'.l.length y'.e) rfl (by kernel_rfl) (by kernel_rfl) (by kernel_rfl) (fun _ _ _ h => h) (Or.inl ⟨by rfl, fun w' hS' => by go_simp⟩) (by assumption) ?_
              simp only [Act.put, List.setIfInBounds_toArray, List.set_cons_zero, List.set_cons_succ]
              refine wpAnyH_take (i := 27) (oi := { dst := some 69, op := Op.move (Operand.tmp 8), type := 3, pos := "tell.go:157", after := #[{ on := 25, ground := Ground.guard }], guard := some (25, false) }) (v := .int .i64 (k : Int)) rfl (by kernel_rfl) (by kernel_rfl) (by kernel_rfl) (fun _ _ _ h => h) (Or.inl ⟨by rfl, fun w' hS' => by go_simp⟩) (by assumption) ?_
              simp only [Act.put, List.setIfInBounds_toArray, List.set_cons_zero, List.set_cons_succ]
              refine wpAnyH_take (i := 28) (oi := { dst := some 70, op := Op.indexAddr 27 (Operand.tmp 68) (Operand.tmp 69), type := 0, pos := "tell.go:157", after := #[{ on := 26, ground := Ground.data }, { on := 27, ground := Ground.data }, { on := 25, ground := Ground.guard }], guard := some (25, false) }) (v := .pointer (some ⟨b, o + k * 7, none⟩)) rfl (by kernel_rfl) (by kernel_rfl) (by kernel_rfl) (fun _ _ _ h => h) (Or.inl ⟨by rfl, fun w' hS' => by go_simp⟩) (by assumption) ?_
              simp only [Act.put, List.setIfInBounds_toArray, List.set_cons_zero, List.set_cons_succ]
              refine wpAnyH_take (i := 29) (oi := { dst := some 71, op := Op.fieldAddr 29 (Operand.tmp 70) 2, type := 0, pos := "tell.go:157", after := #[{ on := 28, ground := Ground.data }, { on := 25, ground := Ground.guard }], guard := some (25, false) }) (v := .pointer (some ⟨b, o + k * 7 + 6, none⟩)) rfl (by kernel_rfl) (by kernel_rfl) (by kernel_rfl) (fun _ _ _ h => h) (Or.inl ⟨by rfl, fun w' hS' => by go_simp⟩) (by assumption) ?_
              simp only [Act.put, List.setIfInBounds_toArray, List.set_cons_zero, List.set_cons_succ]
              refine wpAnyH_take (i := 30) (oi := { dst := some 72, op := Op.load 27 (Operand.tmp 71), type := 27, pos := "tell.go:157", after := #[{ on := 29, ground := Ground.data }, { on := 25, ground := Ground.guard }], guard := some (25, false) }) (v := .slice s.L s.n s.e) rfl (by kernel_rfl) (by kernel_rfl) (by kernel_rfl) (fun _ _ _ h => h) (Or.inl ⟨by rfl, fun w' hS' => by obtain ⟨x0, x1, x2, x3, x4, x5, x6⟩ := hS'.1.cells; go_simp⟩) (by assumption) ?_
              simp only [Act.put, List.setIfInBounds_toArray, List.set_cons_zero, List.set_cons_succ]
              refine wpAnyH_take (i := 31) (oi := { dst := some 73, op := Op.call { callee := Callee.builtin Builtin.len, args := #[Operand.tmp 72], argTypes := #[27] }, type := 3, pos := "tell.go:157", after := #[{ on := 30, ground := Ground.data }, { on := 25, ground := Ground.guard }], guard := some (25, false) }) (v := .int .i64 (s.n : Int)) rfl (by kernel_rfl) (by kernel_rfl) (by kernel_rfl) (fun _ _ _ h => h) (Or.inl ⟨by rfl, fun w' hS' => by go_simp⟩) (by assumption) ?_
              simp only [Act.put, List.setIfInBounds_toArray, List.set_cons_zero, List.set_cons_succ]
              refine wpAnyH_take (i := 32) (oi := { dst := some 74, op := Op.move (Operand.tmp 7), type := 27, pos := "tell.go:157", after := #[{ on := 25, ground := Ground.guard }], guard := some (25, false) }) (v := .slice (some ⟨b', o', none⟩) y'.l.length y'.f) rfl (by kernel_rfl) (by kernel_rfl) (by kernel_rfl) (fun _ _ _ h => h) (Or.inl ⟨by rfl, fun w' hS' => by go_simp⟩) (by assumption) ?_
              simp only [Act.put, List.setIfInBounds_toArray, List.set_cons_zero, List.set_cons_succ]
              refine wpAnyH_take (i := 33) (oi := { dst := some 75, op := Op.move (Operand.tmp 8), type := 3, pos := "tell.go:157", after := #[{ on := 25, ground := Ground.guard }], guard := some (25, false) }) (v := .int .i64 (k : Int)) rfl (by kernel_rfl) (by kernel_rfl) (by kernel_rfl) (fun _ _ _ h => h) (Or.inl ⟨by rfl, fun w' hS' => by go_simp⟩) (by assumption) ?_
              simp only [Act.put, List.setIfInBounds_toArray, List.set_cons_zero, List.set_cons_succ]
              refine wpAnyH_take (i := 34) (oi := { dst := some 76, op := Op.indexAddr 27 (Operand.tmp 74) (Operand.tmp 75), type := 0, pos := "tell.go:157", after := #[{ on := 32, ground := Ground.data }, { on := 33, ground := Ground.data }, { on := 25, ground := Ground.guard }], guard := some (25, false) }) (v := .pointer (some ⟨b', o' + k * 7, none⟩)) rfl (by kernel_rfl) (by kernel_rfl) (by kernel_rfl) (fun _ _ _ h => h) (Or.inl ⟨by rfl, fun w' hS' => by go_simp⟩) (by assumption) ?_
              simp only [Act.put, List.setIfInBounds_toArray, List.set_cons_zero, List.set_cons_succ]
              refine wpAnyH_take (i := 35) (oi := { dst := some 77, op := Op.fieldAddr 29 (Operand.tmp 76) 2, type := 0, pos := "tell.go:157", after := #[{ on := 34, ground := Ground.data }, { on := 25, ground := Ground.guard }], guard := some (25, false) }) (v := .pointer (some ⟨b', o' + k * 7 + 6, none⟩)) rfl (by kernel_rfl) (by kernel_rfl) (by kernel_rfl) (fun _ _ _ h => h) (Or.inl ⟨by rfl, fun w' hS' => by go_simp⟩) (by assumption) ?_
              simp only [Act.put, List.setIfInBounds_toArray, List.set_cons_zero, List.set_cons_succ]
              refine wpAnyH_take (i := 36) (oi := { dst := some 78, op := Op.load 27 (Operand.tmp 77), type := 27, pos := "tell.go:157", after := #[{ on := 35, ground := Ground.data }, { on := 25, ground := Ground.guard }], guard := some (25, false) }) (v := .slice t.L s.n t.e) rfl (by kernel_rfl) (by kernel_rfl) (by kernel_rfl) (fun _ _ _ h => h) (Or.inl ⟨by rfl, fun w' hS' => by obtain ⟨x0, x1, x2, x3, x4, x5, x6⟩ := hS'.2.cells; rw [HN.out] at x6; go_simp⟩) (by assumption) ?_
              simp only [Act.put, List.setIfInBounds_toArray, List.set_cons_zero, List.set_cons_succ]
              refine wpAnyH_take (i := 37) (oi := { dst := some 79, op := Op.call { callee := Callee.builtin Builtin.len, args := #[Operand.tmp 78], argTypes := #[27] }, type := 3, pos := "tell.go:157", after := #[{ on := 36, ground := Ground.data }, { on := 25, ground := Ground.guard }], guard := some (25, false) }) (v := .int .i64 (s.n : Int)) rfl (by kernel_rfl) (by kernel_rfl) (by kernel_rfl) (fun _ _ _ h => h) (Or.inl ⟨by rfl, fun w' hS' => by go_simp⟩) (by assumption) ?_
              simp only [Act.put, List.setIfInBounds_toArray, List.set_cons_zero, List.set_cons_succ]
              refine wpAnyH_take (i := 38) (oi := { dst := some 80, op := Op.binOp BinOp.neq 3 (Operand.tmp 73) (Operand.tmp 79) 3, type := 4, pos := "tell.go:157", after := #[{ on := 31, ground := Ground.data }, { on := 37, ground := Ground.data }, { on := 25, ground := Ground.guard }], guard := some (25, false) }) (v := .bool false) rfl (by kernel_rfl) (by kernel_rfl) (by kernel_rfl) (fun _ _ _ h => h) (Or.inl ⟨by rfl, fun w' hS' => by go_simp⟩) (by assumption) ?_
              simp only [Act.put, List.setIfInBounds_toArray, List.set_cons_zero, List.set_cons_succ]
              refine wpAnyH_take (i := 39) (oi := { dst := some 81, op := Op.pick (Operand.tmp 67) (Operand.const (Value.bool true)) (Operand.tmp 80), type := 4, pos := "tell.go:157", after := #[{ on := 25, ground := Ground.data }, { on := 38, ground := Ground.data }], guard := none }) (v := .bool false) rfl (by kernel_rfl) (by kernel_rfl) (by kernel_rfl) (fun _ _ _ h => h) (Or.inl ⟨by rfl, fun w' hS' => by go_simp⟩) (by assumption) ?_
              simp only [Act.put, List.setIfInBounds_toArray, List.set_cons_zero, List.set_cons_succ]
              refine wpAnyH_done (by kernel_rfl) ?_ _
              go_wp2
              go_meet
              exact ⟨rfl, B2.out⟩
            case rest =>
              obtain ⟨rfl, hbx⟩ := hcut
              have HB4 := Lib.hid (HB3.out.trans (hbx.mono HB3.out.size))
              have HO4 := Lib.hid (own_below HO3.out hbx)
              have HKT4 : Hid (∀ z ∈ T, EntOk wc (w.heap.size + 4) z) := fun z hz => (HKT.out z hz).kept (KeepS.of_below hbx)
              have HKZ4 : Hid (EntOk wc (w.heap.size + 4) y') := HKZ.out.kept (KeepS.of_below hbx)
              have c6 := (HCS.out.keep (KeepS.of_below (S := fun _ => True) hbx) trivial).cells.2.2.2.2.2.2
              have d6 := (HCT.out.keep (KeepS.of_below (S := fun _ => True) hbx) trivial).cells.2.2.2.2.2.2
              have hln := HT.out.len
              have HRA := HT.out.ra.keep (KeepS.of_below hbx)
              have HRB := HT.out.rb.keep (KeepS.of_below hbx)
              rw [hln] at c6 HRA HRB
              rw [HN.out, hln] at d6
              have HRA := Lib.hid HRA
              have HRB := Lib.hid HRB
              have hz4 : w.heap.size + 4 ≤ wc.heap.size := Nat.le_trans hz3 hbx.size
              have hTl : T.length ≤ 5000000 := by have := wsum_len HKT4.out; omega
              have hlb := HT.out.lt
              have hlc := HT.out.lt'
              clear HT HCS HCT HP1 HP2 HQ1 HQ2 HK HV HN HM1 HM2 HB3 HO3 HKT HKZ hz3 hbx hln
              by_cases hn0 : r1.subs.length = 0
              · have hw0 : wtL r1.subs = 0 := by rw [List.length_eq_zero_iff.1 hn0]; rfl
                have hb0 : ¬ (0 : Int) < (r1.subs.length : Int) := by omega
                go_wp2
                exact ⟨⟨rfl, k + 1, T, by omega, by go_num, HB4, hz4, HO4, HKT4, HKZ4, by omega⟩, by simp [intOf]; omega⟩
              · have hb0 : (0 : Int) < (r1.subs.length : Int) := by omega
                have hn1 : 0 < r1.subs.length := by omega
                clear hn0
                go_upto_region 12 with (fail)
                have hbd : Below wc.heap.size wc wc.drew := (Below.refl wc.heap.size wc).drew
                have HB5 : Hid (Below w.heap.size w wc.drew) := HB4.out.trans (hbd.mono HB4.out.size)
                have HO5 := Lib.hid (own_below HO4.out hbd)
                have HKT5 : Hid (∀ z ∈ T, EntOk wc.drew (w.heap.size + 4) z) := fun z hz => (HKT4.out z hz).kept (KeepS.of_below hbd)
                have HKZ5 : Hid (EntOk wc.drew (w.heap.size + 4) y') := HKZ4.out.kept (KeepS.of_below hbd)
                have HRA5 : Hid (RgRow wc.drew (LtB (w.heap.size + 4)) s.L r1.subs.length r1.subs) := HRA.out.keep (KeepS.of_below hbd)
                have HRB5 : Hid (RgRow wc.drew (LtB (w.heap.size + 4)) t.L r1.subs.length r1.subs) := HRB.out.keep (KeepS.of_below hbd)
                have hz5 : w.heap.size + 4 ≤ wc.drew.heap.size := hz4
                clear HB4 HO4 HKT4 HKZ4 HRA HRB hz4
                refine wp_region_held_drew (S := fun w' => KeepS (LtB (w.heap.size + 4)) wc w') (by kernel_rfl) (KeepS.of_below hbd) (fun hHeld => ?_)
                refine wpAnyH_take (i := 0) (oi := { dst := some 89, op := Op.move (Operand.tmp 5), type := 41, pos := "tell.go:161", after := #[], guard := none }) (v := u5) rfl (by kernel_rfl) (by kernel_rfl) (by kernel_rfl) (fun _ _ _ h => h) (Or.inl ⟨by rfl, fun w' hS' => by go_simp⟩) (by assumption) ?_
                simp only [Act.put, List.setIfInBounds_toArray, List.set_cons_zero, List.set_cons_succ]
                refine wpAnyH_take (i := 1) (oi := { dst := some 90, op := Op.move (Operand.tmp 6), type := 27, pos := "tell.go:161", after := #[], guard := none }) (v := .slice (some ⟨b, o, none⟩) y'.l.length y'.e) rfl (by kernel_rfl) (by kernel_rfl) (by kernel_rfl) (fun _ _ _ h => h) (Or.inl ⟨by rfl, fun w' hS' => by go_simp⟩) (by assumption) ?_
                simp only [Act.put, List.setIfInBounds_toArray, List.set_cons_zero, List.set_cons_succ]
                refine wpAnyH_take (i := 2) (oi := { dst := some 91, op := Op.move (Operand.tmp 8), type := 3, pos := "tell.go:161", after := #[], guard := none }) (v := .int .i64 (k : Int)) rfl (by kernel_rfl) (by kernel_rfl) (by kernel_rfl) (fun _ _ _ h => h) (Or.inl ⟨by rfl, fun w' hS' => by go_simp⟩) (by assumption) ?_
                simp only [Act.put, List.setIfInBounds_toArray, List.set_cons_zero, List.set_cons_succ]
                refine wpAnyH_take (i := 3) (oi := { dst := some 92, op := Op.indexAddr 27 (Operand.tmp 90) (Operand.tmp 91), type := 0, pos := "tell.go:161", after := #[{ on := 1, ground := Ground.data }, { on := 2, ground := Ground.data }], guard := none }) (v := .pointer (some ⟨b, o + k * 7, none⟩)) rfl (by kernel_rfl) (by kernel_rfl) (by kernel_rfl) (fun _ _ _ h => h) (Or.inl ⟨by rfl, fun w' hS' => by go_simp⟩) (by assumption) ?_
                simp only [Act.put, List.setIfInBounds_toArray, List.set_cons_zero, List.set_cons_succ]
                refine wpAnyH_take (i := 4) (oi := { dst := some 93, op := Op.fieldAddr 29 (Operand.tmp 92) 2, type := 0, pos := "tell.go:161", after := #[{ on := 3, ground := Ground.data }], guard := none }) (v := .pointer (some ⟨b, o + k * 7 + 6, none⟩)) rfl (by kernel_rfl) (by kernel_rfl) (by kernel_rfl) (fun _ _ _ h => h) (Or.inl ⟨by rfl, fun w' hS' => by go_simp⟩) (by assumption) ?_
                simp only [Act.put, List.setIfInBounds_toArray, List.set_cons_zero, List.set_cons_succ]
                refine wpAnyH_take (i := 5) (oi := { dst := some 94, op := Op.load 27 (Operand.tmp 93), type := 27, pos := "tell.go:161", after := #[{ on := 4, ground := Ground.data }], guard := none }) (v := .slice s.L r1.subs.length s.e) rfl (by kernel_rfl) (by kernel_rfl) (by kernel_rfl) (fun _ _ _ h => h) (Or.inl ⟨by rfl, fun w' hS' => by have x6 := hS'.cell _ _ _ hlb c6; go_simp⟩) (by assumption) ?_
                simp only [Act.put, List.setIfInBounds_toArray, List.set_cons_zero, List.set_cons_succ]
                refine wpAnyH_take (i := 6) (oi := { dst := some 95, op := Op.move (Operand.tmp 7), type := 27, pos := "tell.go:161", after := #[], guard := none }) (v := .slice (some ⟨b', o', none⟩) y'.l.length y'.f) rfl (by kernel_rfl) (by kernel_rfl) (by kernel_rfl) (fun _ _ _ h => h) (Or.inl ⟨by rfl, fun w' hS' => by go_simp⟩) (by assumption) ?_
                simp only [Act.put, List.setIfInBounds_toArray, List.set_cons_zero, List.set_cons_succ]
                refine wpAnyH_take (i := 7) (oi := { dst := some 96, op := Op.move (Operand.tmp 8), type := 3, pos := "tell.go:161", after := #[], guard := none }) (v := .int .i64 (k : Int)) rfl (by kernel_rfl) (by kernel_rfl) (by kernel_rfl) (fun _ _ _ h => h) (Or.inl ⟨by rfl, fun w' hS' => by go_simp⟩) (by assumption) ?_
                simp only [Act.put, List.setIfInBounds_toArray, List.set_cons_zero, List.set_cons_succ]
                refine wpAnyH_take (i := 8) (oi := { dst := some 97, op := Op.indexAddr 27 (Operand.tmp 95) (Operand.tmp 96), type := 0, pos := "tell.go:161", after := #[{ on := 6, ground := Ground.data }, { on := 7, ground := Ground.data }], guard := none }) (v := .pointer (some ⟨b', o' + k * 7, none⟩)) rfl (by kernel_rfl) (by kernel_rfl) (by kernel_rfl) (fun _ _ _ h => h) (Or.inl ⟨by rfl, fun w' hS' => by go_simp⟩) (by assumption) ?_
                simp only [Act.put, List.setIfInBounds_toArray, List.set_cons_zero, List.set_cons_succ]
                refine wpAnyH_take (i := 9) (oi := { dst := some 98, op := Op.fieldAddr 29 (Operand.tmp 97) 2, type := 0, pos := "tell.go:161", after := #[{ on := 8, ground := Ground.data }], guard := none }) (v := .pointer (some ⟨b', o' + k * 7 + 6, none⟩)) rfl (by kernel_rfl) (by kernel_rfl) (by kernel_rfl) (fun _ _ _ h => h) (Or.inl ⟨by rfl, fun w' hS' => by go_simp⟩) (by assumption) ?_
                simp only [Act.put, List.setIfInBounds_toArray, List.set_cons_zero, List.set_cons_succ]
                refine wpAnyH_take (i := 10) (oi := { dst := some 99, op := Op.load 27 (Operand.tmp 98), type := 27, pos := "tell.go:161", after := #[{ on := 9, ground := Ground.data }], guard := none }) (v := .slice t.L r1.subs.length t.e) rfl (by kernel_rfl) (by kernel_rfl) (by kernel_rfl) (fun _ _ _ h => h) (Or.inl ⟨by rfl, fun w' hS' => by have x6 := hS'.cell _ _ _ hlc d6; go_simp⟩) (by assumption) ?_
                simp only [Act.put, List.setIfInBounds_toArray, List.set_cons_zero, List.set_cons_succ]
                refine wpAnyH_take (i := 11) (oi := { dst := some 100, op := Op.build 40 #[(0, Operand.tmp 94), (1, Operand.tmp 99)], type := 40, pos := "tell.go:161", after := #[{ on := 5, ground := Ground.data }, { on := 10, ground := Ground.data }], guard := none }) (v := .agg #[.slice s.L r1.subs.length s.e, .slice t.L r1.subs.length t.e]) rfl (by kernel_rfl) (by kernel_rfl) (by kernel_rfl) (fun _ _ _ h => h) (Or.inl ⟨by rfl, fun w' hS' => by go_simp⟩) (by assumption) ?_
                simp only [Act.put, List.setIfInBounds_toArray, List.set_cons_zero, List.set_cons_succ]
                refine wpAnyH_ready (rs := [12]) (by kernel_rfl) (by simp) ?_
                refine AllReadyH.cons (o := { dst := some 101, op := Op.buildSlice 41 1 #[(0, Operand.tmp 100)], type := 41, pos := "tell.go:161", after := #[{ on := 11, ground := Ground.data }], guard := none }) rfl (fun K hK => ?_) AllReadyH.nil
                go_simp
                refine hK.out _ _ ((KeepS.of_below hbd).trans (KeepS.alloc _ _)) (fun hHeld => ?_)
                clear hK K
                try simp only [Act.put, List.setIfInBounds_toArray, List.set_cons_zero, List.set_cons_succ]
                refine wpAnyH_ready (rs := [13]) (by kernel_rfl) (by simp) ?_
                refine AllReadyH.cons (o := { dst := some 102, op := Op.call { callee := Callee.builtin Builtin.append, args := #[Operand.tmp 89, Operand.tmp 101], argTypes := #[41, 41] }, type := 41, pos := "tell.go:161", after := #[{ on := 0, ground := Ground.data }, { on := 12, ground := Ground.data }], guard := none }) rfl (fun K hK => ?_) AllReadyH.nil
                rw [if_pos (by rfl)]
                refine op_append_ent _ _ _ rfl (w.heap.size + 4) _ T rfl (HO5.out.alloc _) ⟨wc.drew.heap.size, 0, none⟩ ⟨r1.subs, s.L, s.e, t.L, t.e⟩ rfl (fun j u hu => news_new wc.drew _ _ j u hu) hTl (by show w.heap.size + 4 ≤ (wc.alloc _).heap.size; rw [size_alloc]; exact Nat.le_succ_of_le hz5) ?_
                intro v' w6 hown hb6
                have hba : Below wc.drew.heap.size wc.drew (wc.drew.alloc (.cells #[.slice s.L r1.subs.length s.e, .slice t.L r1.subs.length t.e] 40)) := (Below.refl _ _).alloc (Nat.le_refl _) _
                have kk : KeepS (LtB (w.heap.size + 4)) wc.drew w6 := (KeepS.of_below hba).trans (KeepS.lt hb6)
                have HB6 : Hid (Below w.heap.size w w6) := (HB5.out.trans (hba.mono HB5.out.size)).trans (hb6.mono (by omega))
                have hz6 : w.heap.size + 4 ≤ w6.heap.size := Nat.le_trans hz5 kk.size
                have HKZ6 : Hid (EntOk w6 (w.heap.size + 4) y') := HKZ5.out.kept kk
                have HKT6 : Hid (∀ z ∈ T ++ [(⟨r1.subs, s.L, s.e, t.L, t.e⟩ : Ent)], EntOk w6 (w.heap.size + 4) z) := fun z hz => by
                  rcases List.mem_append.1 hz with h | h
                  · exact (HKT5.out z h).kept kk
                  · rw [List.mem_singleton] at h
                    subst h
                    exact ⟨HRA5.out.keep kk, HRB5.out.keep kk, hn1⟩
                have HO6 := Lib.hid hown
                refine hK.out _ _ ((KeepS.of_below hbd).trans kk) (fun hHeld2 => ?_)
                clear hK K hown hb6 hba kk hHeld
                try simp only [Act.put, List.setIfInBounds_toArray, List.set_cons_zero, List.set_cons_succ]
                refine wpAnyH_take (i := 14) (oi := { dst := some 5, op := Op.assign (Operand.tmp 102), type := 41, pos := "tell.go:161", after := #[{ on := 13, ground := Ground.data }, { on := 13, ground := Ground.chain }, { on := 0, ground := Ground.phase }, { on := 1, ground := Ground.phase }, { on := 2, ground := Ground.phase }, { on := 3, ground := Ground.phase }, { on := 4, ground := Ground.phase }, { on := 5, ground := Ground.phase }, { on := 6, ground := Ground.phase }, { on := 7, ground := Ground.phase }, { on := 8, ground := Ground.phase }, { on := 9, ground := Ground.phase }, { on := 10, ground := Ground.phase }, { on := 11, ground := Ground.phase }, { on := 12, ground := Ground.phase }, { on := 13, ground := Ground.phase }], guard := none }) (v := v') rfl (by kernel_rfl) (by kernel_rfl) (by kernel_rfl) (fun _ _ _ h => h) (Or.inl ⟨by rfl, fun w' hS' => by go_simp⟩) (by assumption) ?_
                simp only [Act.put, List.setIfInBounds_toArray, List.set_cons_zero, List.set_cons_succ]
                refine wpAnyH_done (by kernel_rfl) ?_ _
                go_wp2
                exact ⟨⟨rfl, k + 1, _, by omega, by go_num, HB6, hz6, HO6, HKT6, HKZ6, by rw [wsum_more]; show wsum T + wtL r1.subs + _ + _ ≤ _; omega⟩, by simp [intOf]; omega⟩
          · obtain rfl : k = y'.l.length := by omega
            have hsm2 : wsum T < m := by rw [List.drop_length] at hsm; have : wtL [] = 0 := rfl; omega
            clear hlt hk
            have HB3' := Lib.hid HB3.out
            go_wp2
            go_step3
            exact ⟨rfl, _, ⟨T, _, HB3'.out, hz3, HO3.out, HKT.out, rfl, by omega, rfl, rfl, rfl, rfl, rfl, rfl, rfl, rfl⟩, hsm2⟩
  · intro HP
    obtain ⟨g1, g2, c0, c1, c2, c3, c4, c5, c6⟩ := HRx.out
    obtain ⟨h1, h2, d0, d1, d2, d3, d4, d5, d6⟩ := HRy.out
    have hsz := HSz.out
    go_wp2
    go_step3
    rename_i hK
    have hb1 : Below W1.heap.size W1 (W1.alloc (.cells #[.int .i64 x.kind, .int .u64 (x.v.a : Int), .int .u64 (x.v.b : Int), .int .u64 (x.v.c : Int), .slice x.A x.v.pre.length x.c, .slice x.B x.v.build.length x.d, .slice x.L x.n x.e] 29)) := (Below.refl _ _).alloc (Nat.le_refl _) _
    have hb2 : Below (W1.alloc (.cells #[.int .i64 x.kind, .int .u64 (x.v.a : Int), .int .u64 (x.v.b : Int), .int .u64 (x.v.c : Int), .slice x.A x.v.pre.length x.c, .slice x.B x.v.build.length x.d, .slice x.L x.n x.e] 29)).heap.size (W1.alloc (.cells #[.int .i64 x.kind, .int .u64 (x.v.a : Int), .int .u64 (x.v.b : Int), .int .u64 (x.v.c : Int), .slice x.A x.v.pre.length x.c, .slice x.B x.v.build.length x.d, .slice x.L x.n x.e] 29)) ((W1.alloc (.cells #[.int .i64 x.kind, .int .u64 (x.v.a : Int), .int .u64 (x.v.b : Int), .int .u64 (x.v.c : Int), .slice x.A x.v.pre.length x.c, .slice x.B x.v.build.length x.d, .slice x.L x.n x.e] 29)).alloc (.cells #[.int .i64 y.kind, .int .u64 (y.v.a : Int), .int .u64 (y.v.b : Int), .int .u64 (y.v.c : Int), .slice y.A y.v.pre.length y.c, .slice y.B y.v.build.length y.d, .slice y.L y.n y.e] 29)) := (Below.refl _ _).alloc (Nat.le_refl _) _
    have z1 : (W1.alloc (.cells #[.int .i64 x.kind, .int .u64 (x.v.a : Int), .int .u64 (x.v.b : Int), .int .u64 (x.v.c : Int), .slice x.A x.v.pre.length x.c, .slice x.B x.v.build.length x.d, .slice x.L x.n x.e] 29)).heap.size = w.heap.size + 3 := by rw [size_alloc, hsz]
    have z2 : ((W1.alloc (.cells #[.int .i64 x.kind, .int .u64 (x.v.a : Int), .int .u64 (x.v.b : Int), .int .u64 (x.v.c : Int), .slice x.A x.v.pre.length x.c, .slice x.B x.v.build.length x.d, .slice x.L x.n x.e] 29)).alloc (.cells #[.int .i64 y.kind, .int .u64 (y.v.a : Int), .int .u64 (y.v.b : Int), .int .u64 (y.v.c : Int), .slice y.A y.v.pre.length y.c, .slice y.B y.v.build.length y.d, .slice y.L y.n y.e] 29)).heap.size = w.heap.size + 4 := by rw [size_alloc, z1]
    have k1 : KeepS (LtB w.heap.size) w W1 := KeepS.lt HBa.out
    have ra : RgRow (W1.alloc (.cells #[.int .i64 x.kind, .int .u64 (x.v.a : Int), .int .u64 (x.v.b : Int), .int .u64 (x.v.c : Int), .slice x.A x.v.pre.length x.c, .slice x.B x.v.build.length x.d, .slice x.L x.n x.e] 29)) (LtB (w.heap.size + 4)) (some ⟨W1.heap.size, 0, none⟩) 1 [r] := RgRow.new W1 29 x r ((HX.out.keep k1).mono fun g hg _ => by unfold LtB at hg ⊢; omega) (by omega)
    have rb : RgRow ((W1.alloc (.cells #[.int .i64 x.kind, .int .u64 (x.v.a : Int), .int .u64 (x.v.b : Int), .int .u64 (x.v.c : Int), .slice x.A x.v.pre.length x.c, .slice x.B x.v.build.length x.d, .slice x.L x.n x.e] 29)).alloc (.cells #[.int .i64 y.kind, .int .u64 (y.v.a : Int), .int .u64 (y.v.b : Int), .int .u64 (y.v.c : Int), .slice y.A y.v.pre.length y.c, .slice y.B y.v.build.length y.d, .slice y.L y.n y.e] 29)) (LtB (w.heap.size + 4)) (some ⟨(W1.alloc (.cells #[.int .i64 x.kind, .int .u64 (x.v.a : Int), .int .u64 (x.v.b : Int), .int .u64 (x.v.c : Int), .slice x.A x.v.pre.length x.c, .slice x.B x.v.build.length x.d, .slice x.L x.n x.e] 29)).heap.size, 0, none⟩) 1 [r] := RgRow.new (W1.alloc (.cells #[.int .i64 x.kind, .int .u64 (x.v.a : Int), .int .u64 (x.v.b : Int), .int .u64 (x.v.c : Int), .slice x.A x.v.pre.length x.c, .slice x.B x.v.build.length x.d, .slice x.L x.n x.e] 29)) 29 y r (((HY.out.keep k1).keep (KeepS.of_below hb1)).mono fun g hg _ => by unfold LtB at hg ⊢; omega) (by omega)
    rw [hsz] at ra
    rw [z1] at rb
    have ho := World.ownsRow_lit (base := w.heap.size + 4) (e := 40) (size := 2) ((W1.alloc (.cells #[.int .i64 x.kind, .int .u64 (x.v.a : Int), .int .u64 (x.v.b : Int), .int .u64 (x.v.c : Int), .slice x.A x.v.pre.length x.c, .slice x.B x.v.build.length x.d, .slice x.L x.n x.e] 29)).alloc (.cells #[.int .i64 y.kind, .int .u64 (y.v.a : Int), .int .u64 (y.v.b : Int), .int .u64 (y.v.c : Int), .slice y.A y.v.pre.length y.c, .slice y.B y.v.build.length y.d, .slice y.L y.n y.e] 29)) #[.slice (some ⟨w.heap.size + 2, 0, none⟩) 1 1, .slice (some ⟨w.heap.size + 3, 0, none⟩) 1 1] 1 (by omega) (by decide) rfl
    rw [z2] at ho
    refine hK _ _ (HP.out (wt r) _ _ ⟨[⟨[r], some ⟨w.heap.size + 2, 0, none⟩, 1, some ⟨w.heap.size + 3, 0, none⟩, 1⟩], _, ?_, ?_, ho, ?_, ?_, hm, rfl, rfl, rfl, rfl, rfl, rfl, rfl, rfl⟩)
    · exact ((HBa.out.alloc (by omega) _).alloc (by simp; omega) _).alloc (by simp; omega) _
    · simp; omega
    · intro z hz
      rw [List.mem_singleton] at hz
      subst hz
      exact ⟨(ra.keep (KeepS.of_below hb2)).keep (KeepS.alloc _ _), rb.keep (KeepS.alloc _ _), Nat.one_pos⟩
    · show wt r + 0 + 0 = wt r
      rfl
end Go.Proofs.YtolkcblkciafiaaDoor.Range
