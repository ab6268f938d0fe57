/-
  A reader's small steps (rangeexpr.reader: pass, stands, oneOf, lack). Conditions: the reader's block holds its bytes and a place within them.
-/
import Derived.Test.YtolkcblkciafiaaDoorRgMem
import Derived.Test.YtolkcblkciafiaaDoorShelfHas
import Derived.Test.YtolkcblkciafiaaDoorNumIs
import Derived.StillTailTactics
import Derived.Deep.QuietTactic
import Derived.BigQuiet
import Derived.Deep.RegionHeld3
namespace Go.Proofs.YtolkcblkciafiaaDoor.Range
open Go.RowKit Num Ident Semver

def PsJ (w : World) (b : Nat) (A : Option Addr) (n c k : Nat) (l s : List UInt8) (a' : Act) (w' : World) : Prop :=
  ∃ (q : Nat) (t : List UInt8) (u2 u3 u4 u5 u6 u7 u8 u9 u10 u11 u12 u13 u14 u15 u16 u17 u18 u19 u20 u21 u22 u23 u24 u25 u26 u27 u28 u29 u30 u31 u32 u33 u34 u35 u36 u37 u38 u39 u40 u41 u42 u43 u44 u45 u46 u47 u48 u49 u50 u51 u52 u53 u54 : Value), Rd w' b A n c q ∧ Pl l q t ∧ blanks t = s ∧ Moved b w w' ∧
    a' = { tmps := #[.pointer (some ⟨b, 0, none⟩), .int .i64 (k : Int), u2, u3, u4, u5, u6, u7, u8, u9, u10, u11, u12, u13, u14, u15, u16, u17, u18, u19, u20, u21, u22, u23, u24, u25, u26, u27, u28, u29, u30, u31, u32, u33, u34, u35, u36, u37, u38, u39, u40, u41, u42, u43, u44, u45, u46, u47, u48, u49, u50, u51, u52, u53, u54], defers := [] }
def PsM (b n : Nat) (_ : Act) (w' : World) : Nat := n - (intOf ((w'.cell? ⟨b, 1, none⟩).getD undef)).toNat
theorem pl_next {l t : List UInt8} {q : Nat} (h : Pl l q t) (hq : q < l.length) : t = l.getD q 0 :: l.drop (q + 1) := by rw [h.eq, drop_getD l q hq]
theorem blank_at {l : List UInt8} {q : Nat} (h : byteAt l q = 32 ∨ byteAt l q = 9) : blankB (l.getD q 0) = true := by
  unfold byteAt at h
  have e : l.getD q 0 = 32 ∨ l.getD q 0 = 9 := by
    rcases h with h | h
    · left; exact UInt8.toNat_inj.1 (show (l.getD q 0).toNat = 32 by omega)
    · right; exact UInt8.toNat_inj.1 (show (l.getD q 0).toNat = 9 by omega)
  unfold blankB
  rcases e with e | e <;> rw [e] <;> decide
theorem blank_not {l : List UInt8} {q : Nat} (h1 : byteAt l q ≠ 32) (h2 : byteAt l q ≠ 9) : blankB (l.getD q 0) = false := by
  unfold byteAt at h1 h2
  unfold blankB
  have e1 : l.getD q 0 ≠ 32 := fun e => h1 (by rw [e]; rfl)
  have e2 : l.getD q 0 ≠ 9 := fun e => h2 (by rw [e]; rfl)
  rw [beq_eq_false_iff_ne.2 e1, beq_eq_false_iff_ne.2 e2]; rfl
theorem psM_less {w w' : World} {b n c c' p q : Nat} {A A' : Option Addr} {a a' : Act} (h' : Rd w' b A' n c' q) (h : Rd w b A n c p) (hl : p < q ∧ p < n) : PsM b n a' w' < PsM b n a w := by
  unfold PsM
  rw [h'.at_, h.at_]
  simp only [Option.getD_some, intOf]
  omega
set_option maxRecDepth 100000 in
set_option maxHeartbeats 3200000 in
theorem pass_any (b : Nat) (A : Option Addr) (n c p k : Nat) (l s : List UInt8) (w : World) (hR : Rd w b A n c p) (hr : Row w A n l) (hs : Pl l p s) (hk : p + k ≤ n) :
    Calls Tryd.prog 20 #[.pointer (some ⟨b, 0, none⟩), .int .i64 (k : Int)] w fun e w' => e = .returned (.tuple #[]) ∧ ∃ q, Pl l q (blanks (s.drop k)) ∧ Rd w' b A n c q ∧ Moved b w w' := by
  have hm := hr.2.1
  unfold maxLen at hm
  have HL := Lib.hid hr.1
  have HR := Lib.hid hR
  have HRow := Lib.hid hr
  have HS := Lib.hid hs
  obtain ⟨hlt, hfr, hx0, hx1, _⟩ := hR
  clear hr hs
  go_enter Tryd.func20, Tryd.ntmps20
  go_wp2
  refine wp_scope_back 0 (PsJ w b A n c k l (blanks (s.drop k))) (PsM b n) rfl ?_ ?_
  · rintro a' w1 ⟨q, t, u2, u3, u4, u5, u6, u7, u8, u9, u10, u11, u12, u13, u14, u15, u16, u17, u18, u19, u20, u21, u22, u23, u24, u25, u26, u27, u28, u29, u30, u31, u32, u33, u34, u35, u36, u37, u38, u39, u40, u41, u42, u43, u44, u45, u46, u47, u48, u49, u50, u51, u52, u53, u54, hR1, hp1, hb1, hm1, rfl⟩
    have HK := Lib.hid (HR.out.keep hm1)
    have HRow1 := Lib.hid (row_keep HRow.out HK.out)
    have HP1 := Lib.hid hp1
    have HB1 := Lib.hid hb1
    have HM1 := Lib.hid hm1
    have HR1 := Lib.hid hR1
    have hqn : q ≤ n := by have := hp1.le; rw [HL.out] at this; exact this
    clear hp1 hb1 hm1 hlt hfr hx0 hx1
    obtain ⟨hlt, hfr, hx0, hx1, _⟩ := hR1
    by_cases h1 : q < n
    · obtain ⟨g, o, rfl, hg, hcell⟩ := HRow1.out.2.2 (by omega)
      have hx := hcell q h1
      have HBl := Lib.hid (blank_at (l := l) (q := q))
      have HBn := Lib.hid (blank_not (l := l) (q := q))
      have HT := Lib.hid (pl_next HP1.out (by rw [HL.out]; exact h1))
      have hbd := byteAt_bd l q
      clear hcell
      generalize byteAt l q = x at hx HBl HBn hbd
      have hk1 : (q : Int) < (n : Int) := by omega
      have HNext : Hid (blankB (l.getD q 0) = true → blanks (l.drop (q + 1)) = blanks (s.drop k)) := fun hb => by rw [← HB1.out, HT.out, blanks_yes _ hb]
      have HEnd : Hid (blankB (l.getD q 0) = false → t = blanks (s.drop k)) := fun hb => by rw [← HB1.out, HT.out, blanks_no _ hb]
      have HPn : Hid (Pl l (q + 1) (l.drop (q + 1))) := ⟨by rw [HL.out]; omega, rfl⟩
      by_cases h32 : x = 32
      · have HBL := Lib.hid (HBl.out (.inl h32))
        have hb2 : (x == 32) = true := by simp [h32]
        clear h32 HBl HBn
        go_wp2_with fail
        go_quiet (fail)
        go_wp2
        go_step3
        refine ⟨rfl, ⟨q + 1, l.drop (q + 1), _, _, _, _, _, _, _, _, _, _, _, _, _, _, _, _, _, _, _, _, _, _, _, _, _, _, _, _, _, _, _, _, _, _, _, _, _, _, _, _, _, _, _, _, _, _, _, _, _, _, _, _, _, (HR1.out.drewN _).move (q + 1), HPn.out, HNext.out HBL.out, (HM1.out.drewN _).move _, rfl⟩, ?_⟩
        exact psM_less ((HR1.out.drewN _).move (q + 1)) HR1.out (by omega)
      · have hb2 : (x == 32) = false := by simp [h32]
        by_cases h9 : x = 9
        · have HBL := Lib.hid (HBl.out (.inr h9))
          have hb3 : (x == 9) = true := by simp [h9]
          clear h32 h9 HBl HBn
          go_wp2_with fail
          go_quiet (fail)
          go_wp2
          go_step3
          refine ⟨rfl, ⟨q + 1, l.drop (q + 1), _, _, _, _, _, _, _, _, _, _, _, _, _, _, _, _, _, _, _, _, _, _, _, _, _, _, _, _, _, _, _, _, _, _, _, _, _, _, _, _, _, _, _, _, _, _, _, _, _, _, _, _, _, (HR1.out.drewN _).move (q + 1), HPn.out, HNext.out HBL.out, (HM1.out.drewN _).move _, rfl⟩, ?_⟩
          exact psM_less ((HR1.out.drewN _).move (q + 1)) HR1.out (by omega)
        · have HBN := Lib.hid (HBn.out h32 h9)
          have hb3 : (x == 9) = false := by simp [h9]
          clear h32 h9 HBl HBn
          go_wp2_with fail
          go_quiet (fail)
          go_wp2
          simp only [Exit.jump]
          go_end0
          exact ⟨rfl, q, HEnd.out HBN.out ▸ HP1.out, HR1.out.drewN _, HM1.out.drewN _⟩
    · have hk1 : decide ((q : Int) < (n : Int)) = false := by simp; omega
      have HEnd : Hid (t = blanks (s.drop k)) := by
        have e : t = [] := by rw [HP1.out.eq]; exact List.drop_eq_nil_of_le (by rw [HL.out]; omega)
        unfold Hid; rw [← HB1.out, e]; rfl
      go_wp2_with fail
      go_quiet (fail)
      go_wp2
      simp only [Exit.jump]
      go_end0
      exact ⟨rfl, q, HEnd.out ▸ HP1.out, HR1.out.drewN _, HM1.out.drewN _⟩
  · intro HP
    go_wp2
    go_step3
    rename_i hK
    exact hK _ _ (HP.out _ _ ⟨p + k, s.drop k, _, _, _, _, _, _, _, _, _, _, _, _, _, _, _, _, _, _, _, _, _, _, _, _, _, _, _, _, _, _, _, _, _, _, _, _, _, _, _, _, _, _, _, _, _, _, _, _, _, _, _, _, _, HR.out.move (p + k), HS.out.drop (by rw [HL.out]; exact hk), rfl, Moved.at_ _, rfl⟩)
end Go.Proofs.YtolkcblkciafiaaDoor.Range
