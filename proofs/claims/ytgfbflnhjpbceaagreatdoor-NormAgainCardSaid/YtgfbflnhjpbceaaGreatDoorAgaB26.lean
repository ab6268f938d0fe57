/-
  What the theorem of the last text needs of these: RgSevE, RgSevO, RgExpr. Conditions: as each theorem states.
-/
import Derived.Test.YtgfbflnhjpbceaaGreatDoorAgaB1
import Derived.Test.YtgfbflnhjpbceaaGreatDoorAgaB9
set_option maxRecDepth 100000
set_option maxHeartbeats 25600000
namespace Go.Proofs.YtgfbflnhjpbceaaGreatDoor.Range
open Go.RowKit Num Ident Semver

def SevJE (w : World) (b : Nat) (A : Option Addr) (n c : Nat) (l : List UInt8) (kind deep : Int) (pf : List UInt8 → Out) (fur : List UInt8 → Option (List UInt8)) (tot : Out) (a' : Act) (W : World) : Prop :=
 ∃ (acc : List Rng) (xs : List RV) (q : Nat) (t : List UInt8) (k : Nat) (v : Value) (u11 u12 u13 u14 u15 u16 u17 u18 u19 u20 u21 u22 u23 u24 u25 u26 u27 u28 u29 u30 u31 u32 u33 u34 u35 : Value), Rd W b A n c q ∧ Pl l q t ∧ Moved b w W ∧ RAt W w.heap.size (zeroRV 0) ∧ OwnRg W (w.heap.size + 1) v acc xs ∧ acc.length + t.length ≤ l.length ∧ t.length < k ∧ sev pf fur kind k acc t = tot ∧
  a' = { tmps := #[.int .i64 kind, .int .i64 deep, .func (.func 114) #[.pointer (some ⟨b, 0, none⟩)] #[], .func (.func 115) #[.pointer (some ⟨b, 0, none⟩)] #[], undef, undef, undef, undef, .pointer (some ⟨w.heap.size, 0, none⟩), .int .i64 0, v, u11, u12, u13, u14, u15, u16, u17, u18, u19, u20, u21, u22, u23, u24, u25, u26, u27, u28, u29, u30, u31, u32, u33, u34, u35], defers := [] }
theorem severalE (b : Nat) (A : Option Addr) (n c p : Nat) (l s : List UInt8) (kind deep : Int) (pf : List UInt8 → Out) (fur : List UInt8 → Option (List UInt8)) (w : World) (hR : Rd w b A n c p) (hr : Row w A n l) (hn : n ≤ 30000000) (hs : Pl l p s) (ht : OpsTab w) (hpr : Prog pf) (hfa : Falls fur) (hpc : ∀ s, Piece (pf s).2.1 s)
  (hp : ∀ W q t, Rd W b A n c q → Row W A n l → OpsTab W → Pl l q t → Calls Tryz.prog 114 #[.pointer (some ⟨b, 0, none⟩), .int .i64 deep] W (RgPost b A n c l W (pf t)))
  (hf : ∀ W q t, Rd W b A n c q → Row W A n l → Pl l q t → Calls Tryz.prog 115 #[.pointer (some ⟨b, 0, none⟩)] W (FurPost b A n c q l W (fur t))) :
  Calls Tryz.prog 113 #[.int .i64 kind, .int .i64 deep, .func (.func 114) #[.pointer (some ⟨b, 0, none⟩)] #[], .func (.func 115) #[.pointer (some ⟨b, 0, none⟩)] #[]] w (RgPost b A n c l w (sev pf fur kind (s.length + 1) [] s)) := by
 have hbw := hR.lt
 have HP := Lib.hid hs
 have HL := Lib.hid hr.1
 have HR := Lib.hid hR
 have HRow := Lib.hid hr
 have HT := Lib.hid ht
 have HPR := Lib.hid hpr
 have HFA := Lib.hid hfa
 have HPC := Lib.hid hpc
 have HPF := Lib.hid hp
 have HFU := Lib.hid hf
 have H7 : Hid (RAt (w.alloc (.cells #[.int .i64 0, .int .u64 0, .int .u64 0, .int .u64 0, .slice none 0 0, .slice none 0 0, .slice none 0 0] 28)) w.heap.size (zeroRV 0)) := RAt.new w 28 (zeroRV 0)
 have HM : Hid (Moved b w (w.alloc (.cells #[.int .i64 0, .int .u64 0, .int .u64 0, .int .u64 0, .slice none 0 0, .slice none 0 0, .slice none 0 0] 28))) := (Moved.refl b w).alloc hbw _
 have hne : w.heap.size ≠ b := by omega
 clear hR hr hs ht hpr hfa hpc hp hf
 obtain ⟨tot, htot⟩ : ∃ tot, sev pf fur kind (s.length + 1) [] s = tot := ⟨_, rfl⟩
 rw [htot]
 have HTot := Lib.hid htot
 clear htot
 go_enter Tryz.func113, Tryz.ntmps113
 go_wp2
 refine wp_scope_back 0 (SevJE w b A n c l kind deep pf fur tot) (PsM b n) rfl ?_ ?_
 ·rintro a' W ⟨acc, xs, q, t, k, v, u11, u12, u13, u14, u15, u16, u17, u18, u19, u20, u21, u22, u23, u24, u25, u26, u27, u28, u29, u30, u31, u32, u33, u34, u35, hR1, hP1, hM1, h71, hO1, hlen, hk, htot, rfl⟩
  have HK1 := Lib.hid (HR.out.keep hM1)
  have HRow1 := Lib.hid (row_keep HRow.out HK1.out)
  have HT1 := Lib.hid (HT.out.keep HK1.out)
  have HR1 := Lib.hid hR1
  have HP1 := Lib.hid hP1
  have HM1 := Lib.hid hM1
  have H71 := Lib.hid h71
  have HO1 := Lib.hid hO1
  have HTo := Lib.hid htot
  have hz1 : w.heap.size < W.heap.size := h71.1
  obtain ⟨k, rfl⟩ : ∃ j, k = j + 1 := ⟨k - 1, by omega⟩
  have HRq := Lib.hid HR1.out
  clear hR1 hP1 hM1 h71 hO1 htot
  go_wp2_with fail
  refine (HPF.out W q t HR1.out HRow1.out HT1.out HP1.out).mono ?_
  rintro e W1 ⟨x, q1, rfl, hx, hP2, hR2, hM2⟩
  unfold RV.agg
  obtain ⟨⟨f, s1, r⟩, hpt⟩ : ∃ y, pf t = y := ⟨_, rfl⟩
  have HB := Lib.hid (sev_bad (pf := pf) (ff := fur) (kind := kind) (n := k) (acc := acc) (s := t))
  have HO_ := Lib.hid (fun s' => sev_on (pf := pf) (ff := fur) (kind := kind) (n := k) (acc := acc) (s := t) (s' := s'))
  have HE := Lib.hid (sev_end (pf := pf) (ff := fur) (kind := kind) (n := k) (acc := acc) (s := t))
  have HG := Lib.hid (HPR.out t)
  have HPc := Lib.hid (HPC.out t)
  rw [hpt] at hx hP2 HB HO_ HE HG HPc ⊢
  simp only at hx hP2 HB HO_ HE HG HPc ⊢
  clear hpt
  have HX1 : Hid (Lies W1 (From (w.heap.size + 1)) r x) := hx.from_ hz1
  have HXW : Hid (Lies W1 (From W.heap.size) r x) := hx
  have HP2 := Lib.hid hP2
  have HR2 := Lib.hid hR2
  have HM2 := Lib.hid (HM1.out.trans hM2)
  have H72 := Lib.hid (H71.out.moved hM2 hne)
  have HO2 := Lib.hid (HO1.out.moved hM2 (by omega))
  have HOwn := Lib.hid (fun g h => (HO1.out.own.lt g h).2)
  have hz2 : w.heap.size < W1.heap.size := H72.out.1
  have hzW : W.heap.size ≤ W1.heap.size := hM2.size
  have HRow2 := Lib.hid (row_keep HRow.out (HR.out.keep HM2.out))
  clear hx hP2 hR2 hM2 HR1 HM1 H71 HO1 HRow1 HT1
  by_cases h0 : f = 0
  ·subst h0
   have hr3 : Hid (Rd (W1.alloc (.cells #[.int .i64 x.kind, .int .u64 (x.v.a : Int), .int .u64 (x.v.b : Int), .int .u64 (x.v.c : Int), .slice x.A x.v.pre.length x.c, .slice x.B x.v.build.length x.d, .slice x.L x.n x.e] 28)) b A n c q1) := HR2.out.alloc _
   have hm3 : Hid (Moved b w (W1.alloc (.cells #[.int .i64 x.kind, .int .u64 (x.v.a : Int), .int .u64 (x.v.b : Int), .int .u64 (x.v.c : Int), .slice x.A x.v.pre.length x.c, .slice x.B x.v.build.length x.d, .slice x.L x.n x.e] 28))) := HM2.out.alloc hbw _
   have h73 : Hid (RAt (W1.alloc (.cells #[.int .i64 x.kind, .int .u64 (x.v.a : Int), .int .u64 (x.v.b : Int), .int .u64 (x.v.c : Int), .slice x.A x.v.pre.length x.c, .slice x.B x.v.build.length x.d, .slice x.L x.n x.e] 28)) w.heap.size (zeroRV 0)) := H72.out.kept ((Below.refl W1.heap.size W1).alloc (Nat.le_refl _) _) hz2
   have ho3 : Hid (OwnRg (W1.alloc (.cells #[.int .i64 x.kind, .int .u64 (x.v.a : Int), .int .u64 (x.v.b : Int), .int .u64 (x.v.c : Int), .slice x.A x.v.pre.length x.c, .slice x.B x.v.build.length x.d, .slice x.L x.n x.e] 28)) (w.heap.size + 1) v acc xs) := HO2.out.kept ((Below.refl _ _).alloc (Nat.le_refl _) _)
   have hx3 : Hid (Lies (W1.alloc (.cells #[.int .i64 x.kind, .int .u64 (x.v.a : Int), .int .u64 (x.v.b : Int), .int .u64 (x.v.c : Int), .slice x.A x.v.pre.length x.c, .slice x.B x.v.build.length x.d, .slice x.L x.n x.e] 28)) (From W.heap.size) r x) := HXW.out.keep (KeepS.alloc _ _)
   have ha3 : Hid (RAt (W1.alloc (.cells #[.int .i64 x.kind, .int .u64 (x.v.a : Int), .int .u64 (x.v.b : Int), .int .u64 (x.v.c : Int), .slice x.A x.v.pre.length x.c, .slice x.B x.v.build.length x.d, .slice x.L x.n x.e] 28)) W1.heap.size x) := RAt.new W1 28 x
   have hw3 : Hid (Row (W1.alloc (.cells #[.int .i64 x.kind, .int .u64 (x.v.a : Int), .int .u64 (x.v.b : Int), .int .u64 (x.v.c : Int), .slice x.A x.v.pre.length x.c, .slice x.B x.v.build.length x.d, .slice x.L x.n x.e] 28)) A n l) := HRow2.out.kept ((Below.refl _ _).alloc (Nat.le_refl _) _)
   have hacc : (acc.length + 1) * 104 ≤ 140737488355328 := by rw [HL.out] at hlen; omega
   clear HR2 HM2 H72 HO2 HRow2 HX1 HXW
   obtain ⟨g1, g2, d0, d1, d2, d3, d4, d5, d6⟩ := ha3.out
   go_wp2_with (first
    | (at_builtin
       have ho4 : Hid (OwnRg ((W1.alloc (.cells #[.int .i64 x.kind, .int .u64 (x.v.a : Int), .int .u64 (x.v.b : Int), .int .u64 (x.v.c : Int), .slice x.A x.v.pre.length x.c, .slice x.B x.v.build.length x.d, .slice x.L x.n x.e] 28)).alloc (.cells #[.int .i64 x.kind, .int .u64 (x.v.a : Int), .int .u64 (x.v.b : Int), .int .u64 (x.v.c : Int), .slice x.A x.v.pre.length x.c, .slice x.B x.v.build.length x.d, .slice x.L x.n x.e] 28)) (w.heap.size + 1) v acc xs) := ho3.out.kept ((Below.refl _ _).alloc (Nat.le_refl _) _)
       refine wpList_append_rg _ rfl _ _ rfl (w.heap.size + 1) v acc.length xs rfl ho4.out.own ⟨W1.heap.size + 1, 0, none⟩ x rfl (fun j u hu => by have := news_new (W1.alloc (.cells #[.int .i64 x.kind, .int .u64 (x.v.a : Int), .int .u64 (x.v.b : Int), .int .u64 (x.v.c : Int), .slice x.A x.v.pre.length x.c, .slice x.B x.v.build.length x.d, .slice x.L x.n x.e] 28)) x.vals 28 j u hu; rw [size_alloc] at this; exact this) hacc (by simp; omega) ?_
       intro v' W4 hown hgr hat
       have hR4 : Hid (Rd W4 b A n c q1) := (hr3.out.alloc _).grown hgr (by simp; intro e; have := (ho4.out.own.lt b e.symm).1; omega)
       have hM4 : Hid (Moved b w W4) := (hm3.out.alloc hbw _).grown hgr hbw (fun g e => Nat.le_of_succ_le (ho4.out.own.lt g e).1)
       have h74 : Hid (RAt W4 w.heap.size (zeroRV 0)) := (h73.out.kept ((Below.refl _ _).alloc (Nat.le_refl _) _) (by simp; omega)).grown hgr (by intro e; have := (ho4.out.own.lt _ e.symm).1; omega)
       have hA4 : Hid (RAt W4 W1.heap.size x) := (ha3.out.kept ((Below.refl _ _).alloc (Nat.le_refl _) _) (by simp)).grown hgr (by intro e; have := HOwn.out _ e.symm; omega)
       have hO4 : Hid (OwnRg W4 (w.heap.size + 1) v' (acc ++ [r]) (xs ++ [x])) := ho4.out.more hown hgr hat (hx3.out.keep (KeepS.alloc _ _)) hz1 HOwn.out
       have hW4 : Hid (Row W4 A n l) := row_keep HRow.out (HR.out.keep hM4.out)
       have hX4 : Hid (Lies W4 (From (w.heap.size + 1)) r x) := by
        have h1 : Lies ((W1.alloc (.cells #[.int .i64 x.kind, .int .u64 (x.v.a : Int), .int .u64 (x.v.b : Int), .int .u64 (x.v.c : Int), .slice x.A x.v.pre.length x.c, .slice x.B x.v.build.length x.d, .slice x.L x.n x.e] 28)).alloc (.cells #[.int .i64 x.kind, .int .u64 (x.v.a : Int), .int .u64 (x.v.b : Int), .int .u64 (x.v.c : Int), .slice x.A x.v.pre.length x.c, .slice x.B x.v.build.length x.d, .slice x.L x.n x.e] 28)) (fun g => From (w.heap.size + 1) g ∧ some g ≠ v.ownBlock) r x := (hx3.out.keep (KeepS.alloc _ _)).mono fun g hS _ => ⟨Nat.le_trans hz1 hS, fun e => by have := HOwn.out _ e.symm; unfold From at hS; omega⟩
        exact (h1.keep (KeepS.grown hgr fun g hS => hS.2)).mono fun g hS _ => hS.1
       clear hown hgr hat)
    | fail)
   clear g1 g2 d0 d1 d2 d3 d4 d5 d6 hr3 hm3 h73 ho3 hx3 ha3 hw3
   refine (HFU.out W4 q1 s1 hR4.out hW4.out HP2.out).mono ?_
   rintro e W5 ⟨hM5, hfp⟩
   have HM5 := Lib.hid (hM4.out.trans hM5)
   have H75 := Lib.hid (h74.out.moved hM5 hne)
   have HA5 := Lib.hid (hA4.out.moved hM5 (by omega))
   have HO5 := Lib.hid (hO4.out.moved hM5 (by omega))
   have HX5 : Hid (Lies W5 (From (w.heap.size + 1)) r x) := hX4.out.keep (KeepS.moved hM5 (fun h => by unfold From at h; omega))
   clear hM5 hR4 hM4 h74 hA4 hO4 hW4 hX4
   have hprog := HG.out (by first | rfl | trivial)
   cases hfu : fur s1 with
   | some s2 =>
    rw [hfu] at hfp
    obtain ⟨rfl, q2, hp5, hr5⟩ := hfp
    have HTo2 : Hid (sev pf fur kind k (acc ++ [r]) s2 = tot) := by
     have := HO_.out s2 (by first | rfl | trivial) hfu
     exact this.symm.trans HTo.out
    have hl2 := HFA.out s1 s2 hfu
    have HR5 := Lib.hid hr5
    have HP5 := Lib.hid hp5
    clear hr5 hp5 hfu
    go_wp2
    go_step3
    refine ⟨rfl, ⟨acc ++ [r], xs ++ [x], q2, s2, k, v', _, _, _, _, _, _, _, _, _, _, _, _, _, _, _, _, _, _, _, _, _, _, _, _, _, HR5.out, HP5.out, HM5.out, H75.out, HO5.out, by rw [List.length_append, List.length_singleton]; omega, by omega, HTo2.out, rfl⟩, ?_⟩
    have e1 := HP1.out.len
    have e2 := HP5.out.len
    have e3 := HP1.out.le
    have e4 := HP5.out.le
    exact psM_less HR5.out HRq.out (by rw [HL.out] at e1 e2 e3 e4; omega)
   | none =>
    rw [hfu] at hfp
    obtain ⟨rfl, hr5⟩ := hfp
    have HTo2 : Hid (tot = (0, s1, whole kind acc r)) := by
     have := HE.out (by first | rfl | trivial) hfu
     exact HTo.out.symm.trans this
    have HR5 := Lib.hid hr5
    clear hr5 hfu
    obtain ⟨L, e, rfl, he, hnil, hrow⟩ := HO5.out.row
    have HRw := Lib.hid hrow
    clear hrow HO5
    obtain ⟨y1, y2, c0, c1, c2, c3, c4, c5, c6⟩ := H75.out
    obtain ⟨g1, g2, d0, d1, d2, d3, d4, d5, d6⟩ := HA5.out
    have hw1 : W1.heap.size ≠ w.heap.size := by omega
    by_cases hac : acc = []
    ·subst hac
     have HTo3 : Hid (tot = (0, s1, r)) := HTo2.out
     go_wp2
     simp only [Exit.jump]
     exact bodyPost_ret (v := .tuple #[.agg #[.int .i64 x.kind, .int .u64 (x.v.a : Int), .int .u64 (x.v.b : Int), .int .u64 (x.v.c : Int), .slice x.A x.v.pre.length x.c, .slice x.B x.v.build.length x.d, .slice x.L x.n x.e], .int .i64 0]) (by simp [results, Tryz.results113, go_sem, c0, c1, c2, c3, c4, c5, c6]) rfl (by rw [HTo3.out]; exact rg_end (x := x) hbw HX5.out HP2.out HR5.out HM5.out)
    ·have hl2 : (acc ++ [r]).length ≠ 1 := by
      cases acc with
      | nil => exact absurd rfl hac
      | cons => simp
     have HTo3 : Hid (tot = (0, s1, .mk kind noVer (acc ++ [r]))) := by have := HTo2.out; unfold whole at this; rw [if_neg hac] at this; exact this
     generalize acc ++ [r] = al at hl2 he HRw HTo3 ⊢
     have hb1 : ((al.length : Int) == 1) = false := by simp; omega
     go_wp2
     simp only [Exit.jump]
     exact bodyPost_ret (v := .tuple #[.agg #[.int .i64 kind, .int .u64 0, .int .u64 0, .int .u64 0, .slice none 0 0, .slice none 0 0, .slice L al.length e], .int .i64 0]) (by simp [results, Tryz.results113, go_sem, c0, c1, c2, c3, c4, c5, c6]) rfl (by rw [HTo3.out]; exact rg_end (x := ⟨kind, noVer, none, 0, none, 0, L, al.length, e⟩) hbw (Lies.many kind HRw.out he hnil) HP2.out HR5.out HM5.out)
  ·have HTo2 : Hid (tot = (f, s1, noRng)) := HTo.out.symm.trans (HB.out h0)
   have hb1 : ((f : Int) != 0) = true := by simp [h0]
   have hb2 : ((f : Int) == 0) = false := by simp [h0]
   clear h0 HB HO_ HE
   obtain ⟨y1, y2, c0, c1, c2, c3, c4, c5, c6⟩ := H72.out
   have hw1 : W1.heap.size ≠ w.heap.size := by omega
   go_wp2
   simp only [Exit.jump]
   exact bodyPost_ret (v := .tuple #[.agg #[.int .i64 0, .int .u64 0, .int .u64 0, .int .u64 0, .slice none 0 0, .slice none 0 0, .slice none 0 0], .int .i64 (f : Int)]) (by simp [results, Tryz.results113, go_sem, c0, c1, c2, c3, c4, c5, c6, y1]) rfl (by rw [HTo2.out]; exact (rg_end (x := zeroRV 0) hbw (Lies.zero _ _ 0) HP2.out HR2.out HM2.out).alloc hbw _)
 ·intro HK
  go_wp2
  go_step3
  rename_i hK
  exact hK _ _ (HK.out _ _ ⟨[], [], p, s, s.length + 1, .slice none 0 0, _, _, _, _, _, _, _, _, _, _, _, _, _, _, _, _, _, _, _, _, _, _, _, _, _, HR.out.alloc _, HP.out, HM.out, H7.out, OwnRg.nil _ _, by have := HP.out.len; have h2 := HP.out.le; simp; omega, Nat.lt_succ_self _, HTot.out, rfl⟩)
end Go.Proofs.YtgfbflnhjpbceaaGreatDoor.Range
namespace Go.Proofs.YtgfbflnhjpbceaaGreatDoor.Range
open Go.RowKit Num Ident Semver

def SevJO (w : World) (b : Nat) (A : Option Addr) (n c : Nat) (l : List UInt8) (kind deep : Int) (pf : List UInt8 → Out) (fur : List UInt8 → Option (List UInt8)) (tot : Out) (a' : Act) (W : World) : Prop :=
 ∃ (acc : List Rng) (xs : List RV) (q : Nat) (t : List UInt8) (k : Nat) (v : Value) (u11 u12 u13 u14 u15 u16 u17 u18 u19 u20 u21 u22 u23 u24 u25 u26 u27 u28 u29 u30 u31 u32 u33 u34 u35 : Value), Rd W b A n c q ∧ Pl l q t ∧ Moved b w W ∧ RAt W w.heap.size (zeroRV 0) ∧ OwnRg W (w.heap.size + 1) v acc xs ∧ acc.length + t.length ≤ l.length ∧ t.length < k ∧ sev pf fur kind k acc t = tot ∧
  a' = { tmps := #[.int .i64 kind, .int .i64 deep, .func (.func 142) #[.pointer (some ⟨b, 0, none⟩)] #[], .func (.func 143) #[.pointer (some ⟨b, 0, none⟩)] #[], undef, undef, undef, undef, .pointer (some ⟨w.heap.size, 0, none⟩), .int .i64 0, v, u11, u12, u13, u14, u15, u16, u17, u18, u19, u20, u21, u22, u23, u24, u25, u26, u27, u28, u29, u30, u31, u32, u33, u34, u35], defers := [] }
theorem severalO (b : Nat) (A : Option Addr) (n c p : Nat) (l s : List UInt8) (kind deep : Int) (pf : List UInt8 → Out) (fur : List UInt8 → Option (List UInt8)) (w : World) (hR : Rd w b A n c p) (hr : Row w A n l) (hn : n ≤ 30000000) (hs : Pl l p s) (ht : OpsTab w) (hpr : Prog pf) (hfa : Falls fur) (hpc : ∀ s, Piece (pf s).2.1 s)
  (hp : ∀ W q t, Rd W b A n c q → Row W A n l → OpsTab W → Pl l q t → Calls Tryz.prog 142 #[.pointer (some ⟨b, 0, none⟩), .int .i64 deep] W (RgPost b A n c l W (pf t)))
  (hf : ∀ W q t, Rd W b A n c q → Row W A n l → Pl l q t → Calls Tryz.prog 143 #[.pointer (some ⟨b, 0, none⟩)] W (FurPost b A n c q l W (fur t))) :
  Calls Tryz.prog 113 #[.int .i64 kind, .int .i64 deep, .func (.func 142) #[.pointer (some ⟨b, 0, none⟩)] #[], .func (.func 143) #[.pointer (some ⟨b, 0, none⟩)] #[]] w (RgPost b A n c l w (sev pf fur kind (s.length + 1) [] s)) := by
 have hbw := hR.lt
 have HP := Lib.hid hs
 have HL := Lib.hid hr.1
 have HR := Lib.hid hR
 have HRow := Lib.hid hr
 have HT := Lib.hid ht
 have HPR := Lib.hid hpr
 have HFA := Lib.hid hfa
 have HPC := Lib.hid hpc
 have HPF := Lib.hid hp
 have HFU := Lib.hid hf
 have H7 : Hid (RAt (w.alloc (.cells #[.int .i64 0, .int .u64 0, .int .u64 0, .int .u64 0, .slice none 0 0, .slice none 0 0, .slice none 0 0] 28)) w.heap.size (zeroRV 0)) := RAt.new w 28 (zeroRV 0)
 have HM : Hid (Moved b w (w.alloc (.cells #[.int .i64 0, .int .u64 0, .int .u64 0, .int .u64 0, .slice none 0 0, .slice none 0 0, .slice none 0 0] 28))) := (Moved.refl b w).alloc hbw _
 have hne : w.heap.size ≠ b := by omega
 clear hR hr hs ht hpr hfa hpc hp hf
 obtain ⟨tot, htot⟩ : ∃ tot, sev pf fur kind (s.length + 1) [] s = tot := ⟨_, rfl⟩
 rw [htot]
 have HTot := Lib.hid htot
 clear htot
 go_enter Tryz.func113, Tryz.ntmps113
 go_wp2
 refine wp_scope_back 0 (SevJO w b A n c l kind deep pf fur tot) (PsM b n) rfl ?_ ?_
 ·rintro a' W ⟨acc, xs, q, t, k, v, u11, u12, u13, u14, u15, u16, u17, u18, u19, u20, u21, u22, u23, u24, u25, u26, u27, u28, u29, u30, u31, u32, u33, u34, u35, hR1, hP1, hM1, h71, hO1, hlen, hk, htot, rfl⟩
  have HK1 := Lib.hid (HR.out.keep hM1)
  have HRow1 := Lib.hid (row_keep HRow.out HK1.out)
  have HT1 := Lib.hid (HT.out.keep HK1.out)
  have HR1 := Lib.hid hR1
  have HP1 := Lib.hid hP1
  have HM1 := Lib.hid hM1
  have H71 := Lib.hid h71
  have HO1 := Lib.hid hO1
  have HTo := Lib.hid htot
  have hz1 : w.heap.size < W.heap.size := h71.1
  obtain ⟨k, rfl⟩ : ∃ j, k = j + 1 := ⟨k - 1, by omega⟩
  have HRq := Lib.hid HR1.out
  clear hR1 hP1 hM1 h71 hO1 htot
  go_wp2_with fail
  refine (HPF.out W q t HR1.out HRow1.out HT1.out HP1.out).mono ?_
  rintro e W1 ⟨x, q1, rfl, hx, hP2, hR2, hM2⟩
  unfold RV.agg
  obtain ⟨⟨f, s1, r⟩, hpt⟩ : ∃ y, pf t = y := ⟨_, rfl⟩
  have HB := Lib.hid (sev_bad (pf := pf) (ff := fur) (kind := kind) (n := k) (acc := acc) (s := t))
  have HO_ := Lib.hid (fun s' => sev_on (pf := pf) (ff := fur) (kind := kind) (n := k) (acc := acc) (s := t) (s' := s'))
  have HE := Lib.hid (sev_end (pf := pf) (ff := fur) (kind := kind) (n := k) (acc := acc) (s := t))
  have HG := Lib.hid (HPR.out t)
  have HPc := Lib.hid (HPC.out t)
  rw [hpt] at hx hP2 HB HO_ HE HG HPc ⊢
  simp only at hx hP2 HB HO_ HE HG HPc ⊢
  clear hpt
  have HX1 : Hid (Lies W1 (From (w.heap.size + 1)) r x) := hx.from_ hz1
  have HXW : Hid (Lies W1 (From W.heap.size) r x) := hx
  have HP2 := Lib.hid hP2
  have HR2 := Lib.hid hR2
  have HM2 := Lib.hid (HM1.out.trans hM2)
  have H72 := Lib.hid (H71.out.moved hM2 hne)
  have HO2 := Lib.hid (HO1.out.moved hM2 (by omega))
  have HOwn := Lib.hid (fun g h => (HO1.out.own.lt g h).2)
  have hz2 : w.heap.size < W1.heap.size := H72.out.1
  have hzW : W.heap.size ≤ W1.heap.size := hM2.size
  have HRow2 := Lib.hid (row_keep HRow.out (HR.out.keep HM2.out))
  clear hx hP2 hR2 hM2 HR1 HM1 H71 HO1 HRow1 HT1
  by_cases h0 : f = 0
  ·subst h0
   have hr3 : Hid (Rd (W1.alloc (.cells #[.int .i64 x.kind, .int .u64 (x.v.a : Int), .int .u64 (x.v.b : Int), .int .u64 (x.v.c : Int), .slice x.A x.v.pre.length x.c, .slice x.B x.v.build.length x.d, .slice x.L x.n x.e] 28)) b A n c q1) := HR2.out.alloc _
   have hm3 : Hid (Moved b w (W1.alloc (.cells #[.int .i64 x.kind, .int .u64 (x.v.a : Int), .int .u64 (x.v.b : Int), .int .u64 (x.v.c : Int), .slice x.A x.v.pre.length x.c, .slice x.B x.v.build.length x.d, .slice x.L x.n x.e] 28))) := HM2.out.alloc hbw _
   have h73 : Hid (RAt (W1.alloc (.cells #[.int .i64 x.kind, .int .u64 (x.v.a : Int), .int .u64 (x.v.b : Int), .int .u64 (x.v.c : Int), .slice x.A x.v.pre.length x.c, .slice x.B x.v.build.length x.d, .slice x.L x.n x.e] 28)) w.heap.size (zeroRV 0)) := H72.out.kept ((Below.refl W1.heap.size W1).alloc (Nat.le_refl _) _) hz2
   have ho3 : Hid (OwnRg (W1.alloc (.cells #[.int .i64 x.kind, .int .u64 (x.v.a : Int), .int .u64 (x.v.b : Int), .int .u64 (x.v.c : Int), .slice x.A x.v.pre.length x.c, .slice x.B x.v.build.length x.d, .slice x.L x.n x.e] 28)) (w.heap.size + 1) v acc xs) := HO2.out.kept ((Below.refl _ _).alloc (Nat.le_refl _) _)
   have hx3 : Hid (Lies (W1.alloc (.cells #[.int .i64 x.kind, .int .u64 (x.v.a : Int), .int .u64 (x.v.b : Int), .int .u64 (x.v.c : Int), .slice x.A x.v.pre.length x.c, .slice x.B x.v.build.length x.d, .slice x.L x.n x.e] 28)) (From W.heap.size) r x) := HXW.out.keep (KeepS.alloc _ _)
   have ha3 : Hid (RAt (W1.alloc (.cells #[.int .i64 x.kind, .int .u64 (x.v.a : Int), .int .u64 (x.v.b : Int), .int .u64 (x.v.c : Int), .slice x.A x.v.pre.length x.c, .slice x.B x.v.build.length x.d, .slice x.L x.n x.e] 28)) W1.heap.size x) := RAt.new W1 28 x
   have hw3 : Hid (Row (W1.alloc (.cells #[.int .i64 x.kind, .int .u64 (x.v.a : Int), .int .u64 (x.v.b : Int), .int .u64 (x.v.c : Int), .slice x.A x.v.pre.length x.c, .slice x.B x.v.build.length x.d, .slice x.L x.n x.e] 28)) A n l) := HRow2.out.kept ((Below.refl _ _).alloc (Nat.le_refl _) _)
   have hacc : (acc.length + 1) * 104 ≤ 140737488355328 := by rw [HL.out] at hlen; omega
   clear HR2 HM2 H72 HO2 HRow2 HX1 HXW
   obtain ⟨g1, g2, d0, d1, d2, d3, d4, d5, d6⟩ := ha3.out
   go_wp2_with (first
    | (at_builtin
       have ho4 : Hid (OwnRg ((W1.alloc (.cells #[.int .i64 x.kind, .int .u64 (x.v.a : Int), .int .u64 (x.v.b : Int), .int .u64 (x.v.c : Int), .slice x.A x.v.pre.length x.c, .slice x.B x.v.build.length x.d, .slice x.L x.n x.e] 28)).alloc (.cells #[.int .i64 x.kind, .int .u64 (x.v.a : Int), .int .u64 (x.v.b : Int), .int .u64 (x.v.c : Int), .slice x.A x.v.pre.length x.c, .slice x.B x.v.build.length x.d, .slice x.L x.n x.e] 28)) (w.heap.size + 1) v acc xs) := ho3.out.kept ((Below.refl _ _).alloc (Nat.le_refl _) _)
       refine wpList_append_rg _ rfl _ _ rfl (w.heap.size + 1) v acc.length xs rfl ho4.out.own ⟨W1.heap.size + 1, 0, none⟩ x rfl (fun j u hu => by have := news_new (W1.alloc (.cells #[.int .i64 x.kind, .int .u64 (x.v.a : Int), .int .u64 (x.v.b : Int), .int .u64 (x.v.c : Int), .slice x.A x.v.pre.length x.c, .slice x.B x.v.build.length x.d, .slice x.L x.n x.e] 28)) x.vals 28 j u hu; rw [size_alloc] at this; exact this) hacc (by simp; omega) ?_
       intro v' W4 hown hgr hat
       have hR4 : Hid (Rd W4 b A n c q1) := (hr3.out.alloc _).grown hgr (by simp; intro e; have := (ho4.out.own.lt b e.symm).1; omega)
       have hM4 : Hid (Moved b w W4) := (hm3.out.alloc hbw _).grown hgr hbw (fun g e => Nat.le_of_succ_le (ho4.out.own.lt g e).1)
       have h74 : Hid (RAt W4 w.heap.size (zeroRV 0)) := (h73.out.kept ((Below.refl _ _).alloc (Nat.le_refl _) _) (by simp; omega)).grown hgr (by intro e; have := (ho4.out.own.lt _ e.symm).1; omega)
       have hA4 : Hid (RAt W4 W1.heap.size x) := (ha3.out.kept ((Below.refl _ _).alloc (Nat.le_refl _) _) (by simp)).grown hgr (by intro e; have := HOwn.out _ e.symm; omega)
       have hO4 : Hid (OwnRg W4 (w.heap.size + 1) v' (acc ++ [r]) (xs ++ [x])) := ho4.out.more hown hgr hat (hx3.out.keep (KeepS.alloc _ _)) hz1 HOwn.out
       have hW4 : Hid (Row W4 A n l) := row_keep HRow.out (HR.out.keep hM4.out)
       have hX4 : Hid (Lies W4 (From (w.heap.size + 1)) r x) := by
        have h1 : Lies ((W1.alloc (.cells #[.int .i64 x.kind, .int .u64 (x.v.a : Int), .int .u64 (x.v.b : Int), .int .u64 (x.v.c : Int), .slice x.A x.v.pre.length x.c, .slice x.B x.v.build.length x.d, .slice x.L x.n x.e] 28)).alloc (.cells #[.int .i64 x.kind, .int .u64 (x.v.a : Int), .int .u64 (x.v.b : Int), .int .u64 (x.v.c : Int), .slice x.A x.v.pre.length x.c, .slice x.B x.v.build.length x.d, .slice x.L x.n x.e] 28)) (fun g => From (w.heap.size + 1) g ∧ some g ≠ v.ownBlock) r x := (hx3.out.keep (KeepS.alloc _ _)).mono fun g hS _ => ⟨Nat.le_trans hz1 hS, fun e => by have := HOwn.out _ e.symm; unfold From at hS; omega⟩
        exact (h1.keep (KeepS.grown hgr fun g hS => hS.2)).mono fun g hS _ => hS.1
       clear hown hgr hat)
    | fail)
   clear g1 g2 d0 d1 d2 d3 d4 d5 d6 hr3 hm3 h73 ho3 hx3 ha3 hw3
   refine (HFU.out W4 q1 s1 hR4.out hW4.out HP2.out).mono ?_
   rintro e W5 ⟨hM5, hfp⟩
   have HM5 := Lib.hid (hM4.out.trans hM5)
   have H75 := Lib.hid (h74.out.moved hM5 hne)
   have HA5 := Lib.hid (hA4.out.moved hM5 (by omega))
   have HO5 := Lib.hid (hO4.out.moved hM5 (by omega))
   have HX5 : Hid (Lies W5 (From (w.heap.size + 1)) r x) := hX4.out.keep (KeepS.moved hM5 (fun h => by unfold From at h; omega))
   clear hM5 hR4 hM4 h74 hA4 hO4 hW4 hX4
   have hprog := HG.out (by first | rfl | trivial)
   cases hfu : fur s1 with
   | some s2 =>
    rw [hfu] at hfp
    obtain ⟨rfl, q2, hp5, hr5⟩ := hfp
    have HTo2 : Hid (sev pf fur kind k (acc ++ [r]) s2 = tot) := by
     have := HO_.out s2 (by first | rfl | trivial) hfu
     exact this.symm.trans HTo.out
    have hl2 := HFA.out s1 s2 hfu
    have HR5 := Lib.hid hr5
    have HP5 := Lib.hid hp5
    clear hr5 hp5 hfu
    go_wp2
    go_step3
    refine ⟨rfl, ⟨acc ++ [r], xs ++ [x], q2, s2, k, v', _, _, _, _, _, _, _, _, _, _, _, _, _, _, _, _, _, _, _, _, _, _, _, _, _, HR5.out, HP5.out, HM5.out, H75.out, HO5.out, by rw [List.length_append, List.length_singleton]; omega, by omega, HTo2.out, rfl⟩, ?_⟩
    have e1 := HP1.out.len
    have e2 := HP5.out.len
    have e3 := HP1.out.le
    have e4 := HP5.out.le
    exact psM_less HR5.out HRq.out (by rw [HL.out] at e1 e2 e3 e4; omega)
   | none =>
    rw [hfu] at hfp
    obtain ⟨rfl, hr5⟩ := hfp
    have HTo2 : Hid (tot = (0, s1, whole kind acc r)) := by
     have := HE.out (by first | rfl | trivial) hfu
     exact HTo.out.symm.trans this
    have HR5 := Lib.hid hr5
    clear hr5 hfu
    obtain ⟨L, e, rfl, he, hnil, hrow⟩ := HO5.out.row
    have HRw := Lib.hid hrow
    clear hrow HO5
    obtain ⟨y1, y2, c0, c1, c2, c3, c4, c5, c6⟩ := H75.out
    obtain ⟨g1, g2, d0, d1, d2, d3, d4, d5, d6⟩ := HA5.out
    have hw1 : W1.heap.size ≠ w.heap.size := by omega
    by_cases hac : acc = []
    ·subst hac
     have HTo3 : Hid (tot = (0, s1, r)) := HTo2.out
     go_wp2
     simp only [Exit.jump]
     exact bodyPost_ret (v := .tuple #[.agg #[.int .i64 x.kind, .int .u64 (x.v.a : Int), .int .u64 (x.v.b : Int), .int .u64 (x.v.c : Int), .slice x.A x.v.pre.length x.c, .slice x.B x.v.build.length x.d, .slice x.L x.n x.e], .int .i64 0]) (by simp [results, Tryz.results113, go_sem, c0, c1, c2, c3, c4, c5, c6]) rfl (by rw [HTo3.out]; exact rg_end (x := x) hbw HX5.out HP2.out HR5.out HM5.out)
    ·have hl2 : (acc ++ [r]).length ≠ 1 := by
      cases acc with
      | nil => exact absurd rfl hac
      | cons => simp
     have HTo3 : Hid (tot = (0, s1, .mk kind noVer (acc ++ [r]))) := by have := HTo2.out; unfold whole at this; rw [if_neg hac] at this; exact this
     generalize acc ++ [r] = al at hl2 he HRw HTo3 ⊢
     have hb1 : ((al.length : Int) == 1) = false := by simp; omega
     go_wp2
     simp only [Exit.jump]
     exact bodyPost_ret (v := .tuple #[.agg #[.int .i64 kind, .int .u64 0, .int .u64 0, .int .u64 0, .slice none 0 0, .slice none 0 0, .slice L al.length e], .int .i64 0]) (by simp [results, Tryz.results113, go_sem, c0, c1, c2, c3, c4, c5, c6]) rfl (by rw [HTo3.out]; exact rg_end (x := ⟨kind, noVer, none, 0, none, 0, L, al.length, e⟩) hbw (Lies.many kind HRw.out he hnil) HP2.out HR5.out HM5.out)
  ·have HTo2 : Hid (tot = (f, s1, noRng)) := HTo.out.symm.trans (HB.out h0)
   have hb1 : ((f : Int) != 0) = true := by simp [h0]
   have hb2 : ((f : Int) == 0) = false := by simp [h0]
   clear h0 HB HO_ HE
   obtain ⟨y1, y2, c0, c1, c2, c3, c4, c5, c6⟩ := H72.out
   have hw1 : W1.heap.size ≠ w.heap.size := by omega
   go_wp2
   simp only [Exit.jump]
   exact bodyPost_ret (v := .tuple #[.agg #[.int .i64 0, .int .u64 0, .int .u64 0, .int .u64 0, .slice none 0 0, .slice none 0 0, .slice none 0 0], .int .i64 (f : Int)]) (by simp [results, Tryz.results113, go_sem, c0, c1, c2, c3, c4, c5, c6, y1]) rfl (by rw [HTo2.out]; exact (rg_end (x := zeroRV 0) hbw (Lies.zero _ _ 0) HP2.out HR2.out HM2.out).alloc hbw _)
 ·intro HK
  go_wp2
  go_step3
  rename_i hK
  exact hK _ _ (HK.out _ _ ⟨[], [], p, s, s.length + 1, .slice none 0 0, _, _, _, _, _, _, _, _, _, _, _, _, _, _, _, _, _, _, _, _, _, _, _, _, _, HR.out.alloc _, HP.out, HM.out, H7.out, OwnRg.nil _ _, by have := HP.out.len; have h2 := HP.out.le; simp; omega, Nat.lt_succ_self _, HTot.out, rfl⟩)
end Go.Proofs.YtgfbflnhjpbceaaGreatDoor.Range
namespace Go.Proofs.YtgfbflnhjpbceaaGreatDoor.Range
open Go.RowKit Num Ident Semver

def PartOK (f : FuncId) (b : Nat) (A : Option Addr) (n c : Nat) (l : List UInt8) (deep : Int) (pf : List UInt8 → Out) : Prop :=
 ∀ (W : World) (q : Nat) (t : List UInt8), Rd W b A n c q → Row W A n l → OpsTab W → Pl l q t → Calls Tryz.prog f #[.pointer (some ⟨b, 0, none⟩), .int .i64 deep] W (RgPost b A n c l W (pf t))
theorem every_ok (b : Nat) (A : Option Addr) (n c : Nat) (l : List UInt8) (deep : Int) (pf : List UInt8 → Out) (hn : n ≤ 30000000) (hc : n ≤ c) (hpr : Prog pf) (hpc : Pieces pf) (ho : PartOK 142 b A n c l deep pf) : PartOK 114 b A n c l deep (fun s => sev pf furO 9 (s.length + 1) [] s) := by
 intro w p s hR hr ht hs
 have HS : Hid (∀ W, Rd W b A n c p → Row W A n l → OpsTab W → Calls Tryz.prog 113 #[.int .i64 9, .int .i64 deep, .func (.func 142) #[.pointer (some ⟨b, 0, none⟩)] #[], .func (.func 143) #[.pointer (some ⟨b, 0, none⟩)] #[]] W (RgPost b A n c l W (sev pf furO 9 (s.length + 1) [] s))) := fun W h1 h2 h3 =>
  severalO b A n c p l s 9 deep pf furO W h1 h2 hn hs h3 hpr furO_piece.falls hpc ho (fun W q t h1 h2 h3 => furO_any b A n c q l t W h1 h2 hc h3)
 clear ho
 obtain ⟨t, htt⟩ : ∃ t, sev pf furO 9 (s.length + 1) [] s = t := ⟨_, rfl⟩
 rw [htt] at HS
 show Calls _ _ _ _ (RgPost b A n c l w (sev pf furO 9 (s.length + 1) [] s))
 rw [htt]
 clear htt
 have hbw := hR.lt
 have HP := Lib.hid hs
 have HL := Lib.hid hr.1
 have HR := Lib.hid hR
 have HRow := Lib.hid hr
 have HT := Lib.hid ht
 have H7 : Hid (RAt (w.alloc (.cells #[.int .i64 0, .int .u64 0, .int .u64 0, .int .u64 0, .slice none 0 0, .slice none 0 0, .slice none 0 0] 28)) w.heap.size (zeroRV 0)) := RAt.new w 28 (zeroRV 0)
 have HM : Hid (Moved b w (w.alloc (.cells #[.int .i64 0, .int .u64 0, .int .u64 0, .int .u64 0, .slice none 0 0, .slice none 0 0, .slice none 0 0] 28))) := (Moved.refl b w).alloc hbw _
 have HR0 : Hid (Rd (w.alloc (.cells #[.int .i64 0, .int .u64 0, .int .u64 0, .int .u64 0, .slice none 0 0, .slice none 0 0, .slice none 0 0] 28)) b A n c p) := hR.alloc _
 have HRow0 : Hid (Row (w.alloc (.cells #[.int .i64 0, .int .u64 0, .int .u64 0, .int .u64 0, .slice none 0 0, .slice none 0 0, .slice none 0 0] 28)) A n l) := hr.kept ((Below.refl _ _).alloc (Nat.le_refl _) _)
 have HT0 : Hid (OpsTab (w.alloc (.cells #[.int .i64 0, .int .u64 0, .int .u64 0, .int .u64 0, .slice none 0 0, .slice none 0 0, .slice none 0 0] 28))) := ht.keep (Keep.of_below ((Below.refl _ _).alloc (Nat.le_refl _) _))
 have hne : w.heap.size ≠ b := by omega
 have hmf : ∀ (fn : Fn) (first cap : Array Value) (w : World), (Instr.makeFunc fn first cap).run Tryz.prog w = .ok (.func fn first cap) w := fun _ _ _ _ => rfl
 clear hR hr hs ht
 go_enter Tryz.func114, Tryz.ntmps114
 go_wp2_with fail
 refine (HS.out _ HR0.out HRow0.out HT0.out).mono ?_
 rintro e W1 ⟨x, q1, rfl, hx, hP1, hR1, hM1⟩
 unfold RV.agg
 have HX := Lib.hid hx
 rw [size_alloc] at HX
 have HP1 := Lib.hid hP1
 have HR1 := Lib.hid hR1
 have HM1 := Lib.hid (HM.out.trans hM1)
 have H71 := Lib.hid (H7.out.moved hM1 hne)
 clear hx hP1 hR1 hM1
 obtain ⟨y1, y2, c0, c1, c2, c3, c4, c5, c6⟩ := H71.out
 go_wp2
 exact bodyPost_ret (v := .tuple #[.agg #[.int .i64 x.kind, .int .u64 (x.v.a : Int), .int .u64 (x.v.b : Int), .int .u64 (x.v.c : Int), .slice x.A x.v.pre.length x.c, .slice x.B x.v.build.length x.d, .slice x.L x.n x.e], .int .i64 (t.1 : Int)]) (by simp [results, Tryz.results114, go_sem, c0, c1, c2, c3, c4, c5, c6]) rfl (rg_end (x := x) (f := t.1) (s := t.2.1) (r := t.2.2) hbw HX.out HP1.out HR1.out HM1.out)
theorem expr_ok (b : Nat) (A : Option Addr) (n c : Nat) (l : List UInt8) (deep : Int) (pf : List UInt8 → Out) (hn : n ≤ 30000000) (hc : n ≤ c) (hpr : Prog pf) (hpc : Pieces pf) (ho : PartOK 114 b A n c l deep pf) : PartOK 88 b A n c l deep (fun s => sev pf furE 10 (s.length + 1) [] s) := by
 intro w p s hR hr ht hs
 have HS : Hid (∀ W, Rd W b A n c p → Row W A n l → OpsTab W → Calls Tryz.prog 113 #[.int .i64 10, .int .i64 deep, .func (.func 114) #[.pointer (some ⟨b, 0, none⟩)] #[], .func (.func 115) #[.pointer (some ⟨b, 0, none⟩)] #[]] W (RgPost b A n c l W (sev pf furE 10 (s.length + 1) [] s))) := fun W h1 h2 h3 =>
  severalE b A n c p l s 10 deep pf furE W h1 h2 hn hs h3 hpr furE_piece.falls hpc ho (fun W q t h1 h2 h3 => furE_any b A n c q l t W h1 h2 hc h3)
 clear ho
 obtain ⟨t, htt⟩ : ∃ t, sev pf furE 10 (s.length + 1) [] s = t := ⟨_, rfl⟩
 rw [htt] at HS
 show Calls _ _ _ _ (RgPost b A n c l w (sev pf furE 10 (s.length + 1) [] s))
 rw [htt]
 clear htt
 have hbw := hR.lt
 have HP := Lib.hid hs
 have HL := Lib.hid hr.1
 have HR := Lib.hid hR
 have HRow := Lib.hid hr
 have HT := Lib.hid ht
 have H7 : Hid (RAt (w.alloc (.cells #[.int .i64 0, .int .u64 0, .int .u64 0, .int .u64 0, .slice none 0 0, .slice none 0 0, .slice none 0 0] 28)) w.heap.size (zeroRV 0)) := RAt.new w 28 (zeroRV 0)
 have HM : Hid (Moved b w (w.alloc (.cells #[.int .i64 0, .int .u64 0, .int .u64 0, .int .u64 0, .slice none 0 0, .slice none 0 0, .slice none 0 0] 28))) := (Moved.refl b w).alloc hbw _
 have HR0 : Hid (Rd (w.alloc (.cells #[.int .i64 0, .int .u64 0, .int .u64 0, .int .u64 0, .slice none 0 0, .slice none 0 0, .slice none 0 0] 28)) b A n c p) := hR.alloc _
 have HRow0 : Hid (Row (w.alloc (.cells #[.int .i64 0, .int .u64 0, .int .u64 0, .int .u64 0, .slice none 0 0, .slice none 0 0, .slice none 0 0] 28)) A n l) := hr.kept ((Below.refl _ _).alloc (Nat.le_refl _) _)
 have HT0 : Hid (OpsTab (w.alloc (.cells #[.int .i64 0, .int .u64 0, .int .u64 0, .int .u64 0, .slice none 0 0, .slice none 0 0, .slice none 0 0] 28))) := ht.keep (Keep.of_below ((Below.refl _ _).alloc (Nat.le_refl _) _))
 have hne : w.heap.size ≠ b := by omega
 have hmf : ∀ (fn : Fn) (first cap : Array Value) (w : World), (Instr.makeFunc fn first cap).run Tryz.prog w = .ok (.func fn first cap) w := fun _ _ _ _ => rfl
 clear hR hr hs ht
 go_enter Tryz.func88, Tryz.ntmps88
 go_wp2_with fail
 refine (HS.out _ HR0.out HRow0.out HT0.out).mono ?_
 rintro e W1 ⟨x, q1, rfl, hx, hP1, hR1, hM1⟩
 unfold RV.agg
 have HX := Lib.hid hx
 rw [size_alloc] at HX
 have HP1 := Lib.hid hP1
 have HR1 := Lib.hid hR1
 have HM1 := Lib.hid (HM.out.trans hM1)
 have H71 := Lib.hid (H7.out.moved hM1 hne)
 clear hx hP1 hR1 hM1
 obtain ⟨y1, y2, c0, c1, c2, c3, c4, c5, c6⟩ := H71.out
 go_wp2
 exact bodyPost_ret (v := .tuple #[.agg #[.int .i64 x.kind, .int .u64 (x.v.a : Int), .int .u64 (x.v.b : Int), .int .u64 (x.v.c : Int), .slice x.A x.v.pre.length x.c, .slice x.B x.v.build.length x.d, .slice x.L x.n x.e], .int .i64 (t.1 : Int)]) (by simp [results, Tryz.results88, go_sem, c0, c1, c2, c3, c4, c5, c6]) rfl (rg_end (x := x) (f := t.1) (s := t.2.1) (r := t.2.2) hbw HX.out HP1.out HR1.out HM1.out)
end Go.Proofs.YtgfbflnhjpbceaaGreatDoor.Range
