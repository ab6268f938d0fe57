/-
  The ranges of a normal set's pieces (norm.pieces). Conditions: the slice reads as a normal set of at most 74 spans, their rows lie in memory of texts. (Made by wip/gen_nmpieces.py.)
  The plain range of a set (norm.Plain), of a range's set (norm.Simple). Conditions: as each states. (Made by wip/gen_nmplainw.py.)
  rangeexpr.Text of a right range is its text. Conditions: the range lies in memory that is there, it is right, it has at most 1000000 ranges, its text is at most 30000000 bytes long; the two tables read as they are written. (Made by wip/gen_rgtext.py.)
  The statements' own look at the document's example (ferrulelaw07.awake) answers true and writes nothing that was there. Conditions: the two tables read as they are written.
  The document's own answer on which texts are numerals (ferruleref01.Is): the same as the program's. Condition: the text has at most 1000000 bytes.
  The document's own small functions of identifiers (ferruleref02.Byte, Numeric, wrong): the same as the program's. Conditions: the texts have at most 1000000 bytes.
  The document's own look at which rows are good (ferruleref02.Good). Conditions: the slice reads as the list xs; the lengths are those that the form allows.
  The document's own answers on which versions are right and the same (ferruleref03.Good, Same). Conditions: the rows read as the lists pre and build; for Good they are few and short.
-/
import Derived.Test.YtgfbflnhjpbceaaGreatDoorPartsB9
import Derived.Deep.CutBlock
import Derived.Deep.DeepCutAuto
import Derived.Deep.RegionHeld3
import Derived.StillTailTactics
import Derived.Deep.QuietTactic
import Derived.BigQuiet
namespace Go.Proofs.YtgfbflnhjpbceaaGreatDoor.Nrm
open Go.RowKit Num Ident Semver Prec Span
open Range (Rng noRng goodR goodL fits RV RAt RgRow LtB Elems wt wtL wtL_len wt_mem KeepS zeroRV)
def PsJ0 (w : World) (A : Option Addr) (B n c : Nat) (l : List RSp) (a' : Act) (W : World) : Prop :=
  ∃ (t : Nat) (v : Value) (done : List Rng) (xs : List RV) (u1 u6 : Value) (u7 u8 u9 u10 u11 u12 u13 u14 u15 u16 u17 u18 u19 u20 u21 u22 u23 u24 u25 u26 u27 u28 u29 u30 u31 u32 u33 u34 u35 u36 u37 u38 u39 u40 u41 u42 u43 u44 u45 u46 : Value), t ≤ n ∧ done.length ≤ t ∧ Hid (PsAt w B n (l.map RSp.sp) v done xs W) ∧ Hid (done ++ piecesR ((l.map RSp.sp).drop t) = piecesR (l.map RSp.sp)) ∧
    a' = { tmps := #[.slice A n c, u1, .slice none 0 0, .slice (some ⟨w.heap.size, 0, none⟩) n n, v, .int .i64 (t : Int), u6, u7, u8, u9, u10, u11, u12, u13, u14, u15, u16, u17, u18, u19, u20, u21, u22, u23, u24, u25, u26, u27, u28, u29, u30, u31, u32, u33, u34, u35, u36, u37, u38, u39, u40, u41, u42, u43, u44, u45, u46], defers := [] }
def PsJ1 (w : World) (A : Option Addr) (B n c : Nat) (l : List RSp) (a' : Act) (W : World) : Prop :=
  ∃ (f t : Nat) (v : Value) (done : List Rng) (xs : List RV) (u1 : Value) (u7 u8 u9 u10 u11 u12 u13 u14 u15 u16 u17 u18 u19 u20 u21 u22 u23 u24 u25 u26 u27 u28 u29 u30 u31 u32 u33 u34 u35 u36 u37 u38 u39 u40 u41 u42 u43 u44 u45 u46 : Value), f ≤ t ∧ t < n ∧ done.length ≤ f ∧ Hid (PsAt w B n (l.map RSp.sp) v done xs W) ∧ Hid (Half (l.map RSp.sp) f (t - f) done) ∧
    a' = { tmps := #[.slice A n c, u1, .slice none 0 0, .slice (some ⟨w.heap.size, 0, none⟩) n n, v, .int .i64 (t : Int), .int .i64 (f : Int), u7, u8, u9, u10, u11, u12, u13, u14, u15, u16, u17, u18, u19, u20, u21, u22, u23, u24, u25, u26, u27, u28, u29, u30, u31, u32, u33, u34, u35, u36, u37, u38, u39, u40, u41, u42, u43, u44, u45, u46], defers := [] }
def PsM (n : Nat) (a' : Act) (_ : World) : Nat := n - (intOf (a'.tmps.getD 5 undef)).toNat
set_option maxRecDepth 100000 in
set_option maxHeartbeats 6400000 in
theorem pieces_any (A : Option Addr) (n c : Nat) (l : List RSp) (B : Nat) (w : World) (hr : SpRow w A n l) (hn : n ≤ 74) (hcn : n ≤ c) (ho : ∀ s ∈ l, OwnsS w B s) (hB : B ≤ w.heap.size) (hN : Span.Norm (l.map RSp.sp)) :
    Calls Tryz.prog 41 #[.slice A n c] w fun e w' => ∃ L m e', e = .returned (.slice L m e') ∧ m ≤ e' ∧ m ≤ n ∧ (L = none → e' = 0) ∧ RgRow w' (fun g => B ≤ g) L m (piecesR (l.map RSp.sp)) ∧ Below w.heap.size w w' := by
  have HR := Lib.hid hr
  have HO := Lib.hid ho
  have HN := Lib.hid hN
  clear hr ho hN
  go_enter Tryz.func41, Tryz.ntmps41
  go_wp2
  refine wp_two (PsJ0 w A B n c l) (PsJ1 w A B n c l) (PsM n) (PsM n) rfl rfl ?_ ?_ ?_
  · intro mm
    rintro a' W ⟨f, t, v, done, xs, u1, u7, u8, u9, u10, u11, u12, u13, u14, u15, u16, u17, u18, u19, u20, u21, u22, u23, u24, u25, u26, u27, u28, u29, u30, u31, u32, u33, u34, u35, u36, u37, u38, u39, u40, u41, u42, u43, u44, u45, u46, hft, htn, hdn, HA, HH, rfl⟩ hmm
    have hmm2 : mm = n - t := by rw [← hmm]; simp [PsM, intOf]
    clear hmm
    have hbn : n ≤ 74 := hn
    have hlen : (l.map RSp.sp).length = n := by rw [List.length_map]; exact HR.out.1
    obtain ⟨b, o, hAe, hbw, hcell⟩ := HR.out.2.2 (by omega)
    clear hcell
    subst hAe
    obtain ⟨s, hs⟩ : ∃ s, s = t + 1 := ⟨_, rfl⟩
    obtain ⟨p, hp⟩ : ∃ p, p = t - f := ⟨_, rfl⟩
    have htp : t = f + p := by omega
    rw [← hp] at HH
    have hw1 : IntKind.i64.wrap ((s : Int) - 1) = (t : Int) := by rw [IntKind.wrap_i64] <;> omega
    have hsub : s - f = p + 1 := by omega
    have hfs : f ≤ s := by omega
    have hsc : s ≤ c := by omega
    have hsn : s ≤ n := by omega
    have hcf : ¬ c = f := by omega
    have htn2 : ¬ n ≤ t := by omega
    have hfn : ¬ n ≤ f := by omega
    have hfn2 : f < n := by omega
    have hp74 : p ≤ 100000 := by omega
    have hpc : p + 1 ≤ c - f := by omega
    have hs1 : ((t : Int) + 1) = (s : Int) := by omega
    have HCt : Hid (∀ W' : World, CxAt W' w.heap.size n (ends (l.map RSp.sp) n) → W'.cell? ⟨w.heap.size, t, none⟩ = some (.complex .f64 (fb (lk (l.map RSp.sp) t)) (fb (pk (l.map RSp.sp) s)))) := fun W' h => by rw [hs]; exact ends_at h htn
    have HTe : Hid (t = f + p) := htp
    have HSe : Hid (s = t + 1) := hs
    have hrow : (((l.drop f).take (p + 1)).map RSp.sp) = rowOf (l.map RSp.sp) f p := by unfold rowOf; rw [List.map_take, List.map_drop]
    have HPC : Hid (∀ W1 : World, Below w.heap.size w W1 → Calls Tryz.prog 76 #[.slice (some ⟨b, o + f * 12, none⟩) (p + 1) (c - f), .complex .f64 (fb (lk (l.map RSp.sp) f)) (fb (pk (l.map RSp.sp) (f + 1)))] W1 (RngPost W1 (Strs W1 B) (pieceR (rowOf (l.map RSp.sp) f p)))) := fun W1 hb1 => by
      have h := piece_any (some ⟨b, o + f * 12, none⟩) p (c - f) ((l.drop f).take (p + 1)) (fb (lk (l.map RSp.sp) f)) (fb (pk (l.map RSp.sp) (f + 1))) B W1 (SpRow.sub (HR.out.kept hb1) rfl (by omega)) hp74 hpc
        (fun s hs => (HO.out s (List.mem_of_mem_drop (List.mem_of_mem_take hs))).kept hb1) (Nat.le_trans hB hb1.size) (by rw [hrow]; exact rowOf_norm HN.out f p) (by rw [hrow]; exact HH.out.1) (by
          have e0 : ((l.drop f).take (p + 1)).getD 0 default = l.getD f default := by
            simp only [List.getD_eq_getElem?_getD]
            rw [List.getElem?_take, if_pos (by omega), List.getElem?_drop, Nat.add_zero]
          rw [e0, pk_lk, fb_eq (by have := lk_le (l.map RSp.sp) f; omega), sp_at]; rfl)
      rw [hrow] at h
      exact h
    clear hs hp htp hrow
    by_cases hlt : s < n
    · obtain ⟨lnk, hlnk⟩ : ∃ lnk, isPoint ((l.map RSp.sp).getD t default).hi ((l.map RSp.sp).getD s default).lo = lnk := ⟨_, rfl⟩
      have HLq : Hid ((FloatKind.f64.format.order (fb (pk (l.map RSp.sp) s)) (fb (lk (l.map RSp.sp) s)) == some .eq) = lnk) := by
        unfold Hid
        rw [HSe.out] at hlnk ⊢
        rw [lk_next, fb_eq (by have := pk_le (l.map RSp.sp) (t + 1); omega), hlnk]
      have HLk : Hid (isPoint ((l.map RSp.sp).getD (f + p) default).hi ((l.map RSp.sp).getD (f + p + 1) default).lo = lnk) := by
        unfold Hid
        rw [HSe.out, HTe.out] at hlnk
        exact hlnk
      have hlt1 : (s : Int) < (n : Int) := by omega
      have hlt2 : ¬ n ≤ s := by omega
      clear hlnk
      go_upto_region 8 with (fail)
      replace HA : Hid (PsAt w B n (l.map RSp.sp) v done xs W.drew) := HA.out.kept (Below.refl _ _).drew
      refine wp_region_held_drew (S := fun w' => CxAt w' w.heap.size n (ends (l.map RSp.sp) n)) (by kernel_rfl) HA.out.cx (fun hHeld => ?_)
      refine wpAnyH_take (i := 0) (oi := { dst := some 17, op := Op.move (Operand.tmp 5), type := 3, pos := _, after := _, guard := none }) (v := .int .i64 (s : Int)) rfl (by kernel_rfl) (by kernel_rfl) (by kernel_rfl) (fun _ _ _ h => h) (Or.inl ⟨by rfl, fun w' hS' => by go_simp⟩) (by assumption) ?_
      simp only [Act.put, List.setIfInBounds_toArray, List.set_cons_zero, List.set_cons_succ]
      refine wpAnyH_take (i := 1) (oi := { dst := some 18, op := Op.move (Operand.tmp 0), type := 31, pos := _, after := _, guard := none }) (v := .slice (some ⟨b, o, none⟩) n c) rfl (by kernel_rfl) (by kernel_rfl) (by kernel_rfl) (fun _ _ _ h => h) (Or.inl ⟨by rfl, fun w' hS' => by go_simp⟩) (by assumption) ?_
      simp only [Act.put, List.setIfInBounds_toArray, List.set_cons_zero, List.set_cons_succ]
      refine wpAnyH_take (i := 2) (oi := { dst := some 19, op := Op.call { callee := Callee.builtin Builtin.len, args := #[Operand.tmp 18], argTypes := #[31] }, type := 3, pos := _, after := _, guard := none }) (v := .int .i64 (n : Int)) rfl (by kernel_rfl) (by kernel_rfl) (by kernel_rfl) (fun _ _ _ h => h) (Or.inl ⟨by rfl, fun w' hS' => by go_simp⟩) (by assumption) ?_
      simp only [Act.put, List.setIfInBounds_toArray, List.set_cons_zero, List.set_cons_succ]
      refine wpAnyH_take (i := 3) (oi := { dst := some 20, op := Op.binOp BinOp.lss 3 (Operand.tmp 17) (Operand.tmp 19) 3, type := 4, pos := _, after := _, guard := none }) (v := .bool true) rfl (by kernel_rfl) (by kernel_rfl) (by kernel_rfl) (fun _ _ _ h => h) (Or.inl ⟨by rfl, fun w' hS' => by go_simp⟩) (by assumption) ?_
      simp only [Act.put, List.setIfInBounds_toArray, List.set_cons_zero, List.set_cons_succ]
      refine wpAnyH_take (i := 4) (oi := { dst := some 21, op := Op.move (Operand.tmp 20), type := 4, pos := _, after := _, guard := none }) (v := .bool true) rfl (by kernel_rfl) (by kernel_rfl) (by kernel_rfl) (fun _ _ _ h => h) (Or.inl ⟨by rfl, fun w' hS' => by go_simp⟩) (by assumption) ?_
      simp only [Act.put, List.setIfInBounds_toArray, List.set_cons_zero, List.set_cons_succ]
      refine wpAnyH_take (i := 5) (oi := { dst := some 22, op := Op.move (Operand.tmp 3), type := 103, pos := _, after := _, guard := some (4, true) }) (v := .slice (some ⟨w.heap.size, 0, none⟩) n n) rfl (by kernel_rfl) (by kernel_rfl) (by kernel_rfl) (fun _ _ _ h => h) (Or.inl ⟨by rfl, fun w' hS' => by go_simp⟩) (by assumption) ?_
      simp only [Act.put, List.setIfInBounds_toArray, List.set_cons_zero, List.set_cons_succ]
      refine wpAnyH_take (i := 6) (oi := { dst := some 23, op := Op.move (Operand.tmp 5), type := 3, pos := _, after := _, guard := some (4, true) }) (v := .int .i64 (s : Int)) rfl (by kernel_rfl) (by kernel_rfl) (by kernel_rfl) (fun _ _ _ h => h) (Or.inl ⟨by rfl, fun w' hS' => by go_simp⟩) (by assumption) ?_
      simp only [Act.put, List.setIfInBounds_toArray, List.set_cons_zero, List.set_cons_succ]
      refine wpAnyH_take (i := 7) (oi := { dst := some 24, op := Op.binOp BinOp.sub 3 (Operand.tmp 23) (Operand.const (Value.int IntKind.i64 1)) 3, type := 3, pos := _, after := _, guard := some (4, true) }) (v := .int .i64 (t : Int)) rfl (by kernel_rfl) (by kernel_rfl) (by kernel_rfl) (fun _ _ _ h => h) (Or.inl ⟨by rfl, fun w' hS' => by go_simp⟩) (by assumption) ?_
      simp only [Act.put, List.setIfInBounds_toArray, List.set_cons_zero, List.set_cons_succ]
      refine wpAnyH_take (i := 8) (oi := { dst := some 25, op := Op.indexAddr 103 (Operand.tmp 22) (Operand.tmp 24), type := 0, pos := _, after := _, guard := some (4, true) }) (v := .pointer (some ⟨w.heap.size, t, none⟩)) rfl (by kernel_rfl) (by kernel_rfl) (by kernel_rfl) (fun _ _ _ h => h) (Or.inl ⟨by rfl, fun w' hS' => by go_simp⟩) (by assumption) ?_
      simp only [Act.put, List.setIfInBounds_toArray, List.set_cons_zero, List.set_cons_succ]
      refine wpAnyH_take (i := 9) (oi := { dst := some 26, op := Op.load 106 (Operand.tmp 25), type := 106, pos := _, after := _, guard := some (4, true) }) (v := .complex .f64 (fb (lk (l.map RSp.sp) t)) (fb (pk (l.map RSp.sp) s))) rfl (by kernel_rfl) (by kernel_rfl) (by kernel_rfl) (fun _ _ _ h => h) (Or.inl ⟨by rfl, fun w' hS' => by have hc := HCt.out _ hS'; go_simp⟩) (by assumption) ?_
      simp only [Act.put, List.setIfInBounds_toArray, List.set_cons_zero, List.set_cons_succ]
      refine wpAnyH_take (i := 10) (oi := { dst := some 27, op := Op.call { callee := Callee.builtin Builtin.imag, args := #[Operand.tmp 26], argTypes := #[106] }, type := 105, pos := _, after := _, guard := some (4, true) }) (v := .float .f64 (fb (pk (l.map RSp.sp) s))) rfl (by kernel_rfl) (by kernel_rfl) (by kernel_rfl) (fun _ _ _ h => h) (Or.inl ⟨by rfl, fun w' hS' => by go_simp⟩) (by assumption) ?_
      simp only [Act.put, List.setIfInBounds_toArray, List.set_cons_zero, List.set_cons_succ]
      refine wpAnyH_take (i := 11) (oi := { dst := some 28, op := Op.move (Operand.tmp 3), type := 103, pos := _, after := _, guard := some (4, true) }) (v := .slice (some ⟨w.heap.size, 0, none⟩) n n) rfl (by kernel_rfl) (by kernel_rfl) (by kernel_rfl) (fun _ _ _ h => h) (Or.inl ⟨by rfl, fun w' hS' => by go_simp⟩) (by assumption) ?_
      simp only [Act.put, List.setIfInBounds_toArray, List.set_cons_zero, List.set_cons_succ]
      refine wpAnyH_take (i := 12) (oi := { dst := some 29, op := Op.move (Operand.tmp 5), type := 3, pos := _, after := _, guard := some (4, true) }) (v := .int .i64 (s : Int)) rfl (by kernel_rfl) (by kernel_rfl) (by kernel_rfl) (fun _ _ _ h => h) (Or.inl ⟨by rfl, fun w' hS' => by go_simp⟩) (by assumption) ?_
      simp only [Act.put, List.setIfInBounds_toArray, List.set_cons_zero, List.set_cons_succ]
      refine wpAnyH_take (i := 13) (oi := { dst := some 30, op := Op.indexAddr 103 (Operand.tmp 28) (Operand.tmp 29), type := 0, pos := _, after := _, guard := some (4, true) }) (v := .pointer (some ⟨w.heap.size, s, none⟩)) rfl (by kernel_rfl) (by kernel_rfl) (by kernel_rfl) (fun _ _ _ h => h) (Or.inl ⟨by rfl, fun w' hS' => by go_simp⟩) (by assumption) ?_
      simp only [Act.put, List.setIfInBounds_toArray, List.set_cons_zero, List.set_cons_succ]
      refine wpAnyH_take (i := 14) (oi := { dst := some 31, op := Op.load 106 (Operand.tmp 30), type := 106, pos := _, after := _, guard := some (4, true) }) (v := .complex .f64 (fb (lk (l.map RSp.sp) s)) (fb (pk (l.map RSp.sp) (s + 1)))) rfl (by kernel_rfl) (by kernel_rfl) (by kernel_rfl) (fun _ _ _ h => h) (Or.inl ⟨by rfl, fun w' hS' => by have hc := ends_at hS' hlt; go_simp⟩) (by assumption) ?_
      simp only [Act.put, List.setIfInBounds_toArray, List.set_cons_zero, List.set_cons_succ]
      refine wpAnyH_take (i := 15) (oi := { dst := some 32, op := Op.call { callee := Callee.builtin Builtin.real, args := #[Operand.tmp 31], argTypes := #[106] }, type := 105, pos := _, after := _, guard := some (4, true) }) (v := .float .f64 (fb (lk (l.map RSp.sp) s))) rfl (by kernel_rfl) (by kernel_rfl) (by kernel_rfl) (fun _ _ _ h => h) (Or.inl ⟨by rfl, fun w' hS' => by go_simp⟩) (by assumption) ?_
      simp only [Act.put, List.setIfInBounds_toArray, List.set_cons_zero, List.set_cons_succ]
      refine wpAnyH_take (i := 16) (oi := { dst := some 33, op := Op.binOp BinOp.eql 105 (Operand.tmp 27) (Operand.tmp 32) 105, type := 4, pos := _, after := _, guard := some (4, true) }) (v := .bool lnk) rfl (by kernel_rfl) (by kernel_rfl) (by kernel_rfl) (fun _ _ _ h => h) (Or.inl ⟨by rfl, fun w' hS' => by have hq := HLq.out; go_simp⟩) (by assumption) ?_
      simp only [Act.put, List.setIfInBounds_toArray, List.set_cons_zero, List.set_cons_succ]
      refine wpAnyH_take (i := 17) (oi := { dst := some 34, op := Op.pick (Operand.tmp 21) (Operand.tmp 33) (Operand.const (Value.bool false)), type := 4, pos := _, after := _, guard := none }) (v := .bool lnk) rfl (by kernel_rfl) (by kernel_rfl) (by kernel_rfl) (fun _ _ _ h => h) (Or.inl ⟨by rfl, fun w' hS' => by go_simp⟩) (by assumption) ?_
      simp only [Act.put, List.setIfInBounds_toArray, List.set_cons_zero, List.set_cons_succ]
      refine wpAnyH_done (by kernel_rfl) ?_ _
      cases lnk
      · have HSh : Hid ((done ++ [pieceR (rowOf (l.map RSp.sp) f p)]) ++ piecesR ((l.map RSp.sp).drop s) = piecesR (l.map RSp.sp)) := by
          unfold Hid
          have h1 := HSe.out
          have h2 := HTe.out
          rw [h1, h2]
          exact half_shut HH.out (by omega) (fun _ => HLk.out)
        go_upto_region 9 with (fail)
        clear hHeld
        replace HA : Hid (PsAt w B n (l.map RSp.sp) v done xs W.drew.drew) := HA.out.kept (Below.refl _ _).drew
        refine wp_region_held_drew (S := fun w' => CxAt w' w.heap.size n (ends (l.map RSp.sp) n)) (by kernel_rfl) HA.out.cx (fun hHeld => ?_)
        generalize W.drew.drew = W1 at HA hHeld ⊢
        refine wpAnyH_take (i := 0) (oi := { dst := some 35, op := Op.move (Operand.tmp 4), type := 26, pos := _, after := _, guard := none }) (v := v) rfl (by kernel_rfl) (by kernel_rfl) (by kernel_rfl) (fun _ _ _ h => h) (Or.inl ⟨by rfl, fun w' hS' => by go_simp⟩) (by assumption) ?_
        simp only [Act.put, List.setIfInBounds_toArray, List.set_cons_zero, List.set_cons_succ]
        refine wpAnyH_take (i := 1) (oi := { dst := some 36, op := Op.move (Operand.tmp 0), type := 31, pos := _, after := _, guard := none }) (v := .slice (some ⟨b, o, none⟩) n c) rfl (by kernel_rfl) (by kernel_rfl) (by kernel_rfl) (fun _ _ _ h => h) (Or.inl ⟨by rfl, fun w' hS' => by go_simp⟩) (by assumption) ?_
        simp only [Act.put, List.setIfInBounds_toArray, List.set_cons_zero, List.set_cons_succ]
        refine wpAnyH_take (i := 2) (oi := { dst := some 37, op := Op.move (Operand.tmp 6), type := 3, pos := _, after := _, guard := none }) (v := .int .i64 (f : Int)) rfl (by kernel_rfl) (by kernel_rfl) (by kernel_rfl) (fun _ _ _ h => h) (Or.inl ⟨by rfl, fun w' hS' => by go_simp⟩) (by assumption) ?_
        simp only [Act.put, List.setIfInBounds_toArray, List.set_cons_zero, List.set_cons_succ]
        refine wpAnyH_take (i := 3) (oi := { dst := some 38, op := Op.move (Operand.tmp 5), type := 3, pos := _, after := _, guard := none }) (v := .int .i64 (s : Int)) rfl (by kernel_rfl) (by kernel_rfl) (by kernel_rfl) (fun _ _ _ h => h) (Or.inl ⟨by rfl, fun w' hS' => by go_simp⟩) (by assumption) ?_
        simp only [Act.put, List.setIfInBounds_toArray, List.set_cons_zero, List.set_cons_succ]
        refine wpAnyH_take (i := 4) (oi := { dst := some 39, op := Op.slice 31 (Operand.tmp 36) (some (Operand.tmp 37)) (some (Operand.tmp 38)) none, type := 31, pos := _, after := _, guard := none }) (v := .slice (some ⟨b, o + f * 12, none⟩) (p + 1) (c - f)) rfl (by kernel_rfl) (by kernel_rfl) (by kernel_rfl) (fun _ _ _ h => h) (Or.inl ⟨by rfl, fun w' hS' => by go_simp⟩) (by assumption) ?_
        simp only [Act.put, List.setIfInBounds_toArray, List.set_cons_zero, List.set_cons_succ]
        refine wpAnyH_take (i := 5) (oi := { dst := some 40, op := Op.move (Operand.tmp 3), type := 103, pos := _, after := _, guard := none }) (v := .slice (some ⟨w.heap.size, 0, none⟩) n n) rfl (by kernel_rfl) (by kernel_rfl) (by kernel_rfl) (fun _ _ _ h => h) (Or.inl ⟨by rfl, fun w' hS' => by go_simp⟩) (by assumption) ?_
        simp only [Act.put, List.setIfInBounds_toArray, List.set_cons_zero, List.set_cons_succ]
        refine wpAnyH_take (i := 6) (oi := { dst := some 41, op := Op.move (Operand.tmp 6), type := 3, pos := _, after := _, guard := none }) (v := .int .i64 (f : Int)) rfl (by kernel_rfl) (by kernel_rfl) (by kernel_rfl) (fun _ _ _ h => h) (Or.inl ⟨by rfl, fun w' hS' => by go_simp⟩) (by assumption) ?_
        simp only [Act.put, List.setIfInBounds_toArray, List.set_cons_zero, List.set_cons_succ]
        refine wpAnyH_take (i := 7) (oi := { dst := some 42, op := Op.indexAddr 103 (Operand.tmp 40) (Operand.tmp 41), type := 0, pos := _, after := _, guard := none }) (v := .pointer (some ⟨w.heap.size, f, none⟩)) rfl (by kernel_rfl) (by kernel_rfl) (by kernel_rfl) (fun _ _ _ h => h) (Or.inl ⟨by rfl, fun w' hS' => by go_simp⟩) (by assumption) ?_
        simp only [Act.put, List.setIfInBounds_toArray, List.set_cons_zero, List.set_cons_succ]
        refine wpAnyH_take (i := 8) (oi := { dst := some 43, op := Op.load 106 (Operand.tmp 42), type := 106, pos := _, after := _, guard := none }) (v := .complex .f64 (fb (lk (l.map RSp.sp) f)) (fb (pk (l.map RSp.sp) (f + 1)))) rfl (by kernel_rfl) (by kernel_rfl) (by kernel_rfl) (fun _ _ _ h => h) (Or.inl ⟨by rfl, fun w' hS' => by have hc := ends_at hS' hfn2; go_simp⟩) (by assumption) ?_
        simp only [Act.put, List.setIfInBounds_toArray, List.set_cons_zero, List.set_cons_succ]
        refine wpAnyH_ready (rs := [9]) (by kernel_rfl) (by simp) ?_
        refine AllReadyH.cons (o := { dst := some 44, op := Op.call { callee := Callee.value (Operand.func 76), args := #[Operand.tmp 39, Operand.tmp 43], argTypes := #[31, 106] }, type := 28, pos := _, after := _, guard := none }) rfl (fun K hK => ?_) AllReadyH.nil
        go_simp
        refine (HPC.out _ HA.out.bel).mono ?_
        rintro e wg1 ⟨x, he, hx, hb⟩
        unfold RV.agg at he
        subst he
        have HX : Hid (Range.Lies wg1 (Elems B v) (pieceR (rowOf (l.map RSp.sp) f p)) x) := hx.mono fun g hS _ => strs_elems HA.out.own hS
        replace HA : Hid (PsAt w B n (l.map RSp.sp) v done xs wg1) := HA.out.kept hb
        clear hx
        clear hb hHeld
        refine hK.out _ _ HA.out.cx (fun hHeld => ?_)
        clear hK K
        try simp only [Act.put, List.setIfInBounds_toArray, List.set_cons_zero, List.set_cons_succ]
        refine wpAnyH_ready (rs := [10]) (by kernel_rfl) (by simp) ?_
        refine AllReadyH.cons (o := { dst := some 45, op := Op.buildSlice 26 1 #[(0, Operand.tmp 44)], type := 26, pos := _, after := _, guard := none }) rfl (fun K hK => ?_) AllReadyH.nil
        go_simp
        have hb : Below wg1.heap.size wg1 (wg1.alloc (.cells x.vals.toArray 28)) := (Below.refl _ _).alloc (Nat.le_refl _) _
        replace HA : Hid (PsAt w B n (l.map RSp.sp) v done xs (wg1.alloc (.cells x.vals.toArray 28))) := HA.out.kept hb
        replace HX : Hid (Range.Lies (wg1.alloc (.cells x.vals.toArray 28)) (Elems B v) (pieceR (rowOf (l.map RSp.sp) f p)) x) := HX.out.keep (KeepS.of_below hb)
        clear hb hHeld
        refine hK.out _ _ HA.out.cx (fun hHeld => ?_)
        clear hK K
        try simp only [Act.put, List.setIfInBounds_toArray, List.set_cons_zero, List.set_cons_succ]
        refine wpAnyH_ready (rs := [11]) (by kernel_rfl) (by simp) ?_
        refine AllReadyH.cons (o := { dst := some 46, op := Op.call { callee := Callee.builtin Builtin.append, args := #[Operand.tmp 35, Operand.tmp 45], argTypes := #[26, 26] }, type := 26, pos := _, after := _, guard := none }) rfl (fun K hK => ?_) AllReadyH.nil
        rw [if_pos (by rfl)]
        refine op_append_rg _ _ _ rfl (w.heap.size + 1) v done.length xs rfl HA.out.own ⟨wg1.heap.size, 0, none⟩ x rfl (news_new wg1 x.vals 28) (by omega) HA.out.bel_le ?_
        intro v3 w3 ho hg hat
        have HA3 := Lib.hid (HA.out.more ho hg hat HX.out)
        clear ho hg hat hHeld
        refine hK.out _ _ HA3.out.cx (fun hHeld => ?_)
        clear hK K
        try simp only [Act.put, List.setIfInBounds_toArray, List.set_cons_zero, List.set_cons_succ]
        refine wpAnyH_take (i := 12) (oi := { dst := some 4, op := Op.assign (Operand.tmp 46), type := 26, pos := _, after := _, guard := none }) (v := v3) rfl (by kernel_rfl) (by kernel_rfl) (by kernel_rfl) (fun _ _ _ h => h) (Or.inl ⟨by rfl, fun w' hS' => by go_simp⟩) (by assumption) ?_
        simp only [Act.put, List.setIfInBounds_toArray, List.set_cons_zero, List.set_cons_succ]
        refine wpAnyH_done (by kernel_rfl) ?_ _
        go_wp2
        go_step3
        exact .inl ⟨rfl, ⟨s, v3, done ++ [pieceR (rowOf (l.map RSp.sp) f p)], xs ++ [x], u1, .int .i64 (f : Int), _, _, _, _, _, _, _, _, _, _, _, _, _, _, _, _, _, _, _, _, _, _, _, _, _, _, _, _, _, _, _, _, _, _, _, _, _, _, _, _, hsn, by rw [List.length_append, List.length_singleton]; omega, HA3, HSh, rfl⟩, by (try rw [hmm2]); simp [PsM, intOf]; omega⟩
      · have HH2 : Hid (Half (l.map RSp.sp) f (s - f) done) := by
          unfold Hid
          have h := half_more HH.out (by have h1 := HSe.out; have h2 := HTe.out; omega) HLk.out
          rw [hsub]; exact h
        go_wp2
        go_step3
        exact .inr ⟨rfl, ⟨f, s, v, done, xs, u1, _, _, _, _, _, _, _, _, _, _, _, _, _, _, _, _, _, _, _, _, _, _, _, _, _, _, _, _, _, _, _, _, _, _, _, _, _, _, _, _, hfs, hlt, hdn, HA, HH2, rfl⟩, by (try rw [hmm2]); simp [PsM, intOf]; omega⟩
    · have hlt1 : ¬ (s : Int) < (n : Int) := by omega
      have HSh : Hid ((done ++ [pieceR (rowOf (l.map RSp.sp) f p)]) ++ piecesR ((l.map RSp.sp).drop s) = piecesR (l.map RSp.sp)) := by
        unfold Hid
        have h1 := HSe.out
        have h2 := HTe.out
        rw [h1, h2]
        exact half_shut HH.out (by omega) (fun h => absurd h (by omega))
      go_upto_region 8 with (fail)
      replace HA : Hid (PsAt w B n (l.map RSp.sp) v done xs W.drew) := HA.out.kept (Below.refl _ _).drew
      refine wp_region_held_drew (S := fun w' => CxAt w' w.heap.size n (ends (l.map RSp.sp) n)) (by kernel_rfl) HA.out.cx (fun hHeld => ?_)
      refine wpAnyH_take (i := 0) (oi := { dst := some 17, op := Op.move (Operand.tmp 5), type := 3, pos := _, after := _, guard := none }) (v := .int .i64 (s : Int)) rfl (by kernel_rfl) (by kernel_rfl) (by kernel_rfl) (fun _ _ _ h => h) (Or.inl ⟨by rfl, fun w' hS' => by go_simp⟩) (by assumption) ?_
      simp only [Act.put, List.setIfInBounds_toArray, List.set_cons_zero, List.set_cons_succ]
      refine wpAnyH_take (i := 1) (oi := { dst := some 18, op := Op.move (Operand.tmp 0), type := 31, pos := _, after := _, guard := none }) (v := .slice (some ⟨b, o, none⟩) n c) rfl (by kernel_rfl) (by kernel_rfl) (by kernel_rfl) (fun _ _ _ h => h) (Or.inl ⟨by rfl, fun w' hS' => by go_simp⟩) (by assumption) ?_
      simp only [Act.put, List.setIfInBounds_toArray, List.set_cons_zero, List.set_cons_succ]
      refine wpAnyH_take (i := 2) (oi := { dst := some 19, op := Op.call { callee := Callee.builtin Builtin.len, args := #[Operand.tmp 18], argTypes := #[31] }, type := 3, pos := _, after := _, guard := none }) (v := .int .i64 (n : Int)) rfl (by kernel_rfl) (by kernel_rfl) (by kernel_rfl) (fun _ _ _ h => h) (Or.inl ⟨by rfl, fun w' hS' => by go_simp⟩) (by assumption) ?_
      simp only [Act.put, List.setIfInBounds_toArray, List.set_cons_zero, List.set_cons_succ]
      refine wpAnyH_take (i := 3) (oi := { dst := some 20, op := Op.binOp BinOp.lss 3 (Operand.tmp 17) (Operand.tmp 19) 3, type := 4, pos := _, after := _, guard := none }) (v := .bool false) rfl (by kernel_rfl) (by kernel_rfl) (by kernel_rfl) (fun _ _ _ h => h) (Or.inl ⟨by rfl, fun w' hS' => by go_simp⟩) (by assumption) ?_
      simp only [Act.put, List.setIfInBounds_toArray, List.set_cons_zero, List.set_cons_succ]
      refine wpAnyH_take (i := 4) (oi := { dst := some 21, op := Op.move (Operand.tmp 20), type := 4, pos := _, after := _, guard := none }) (v := .bool false) rfl (by kernel_rfl) (by kernel_rfl) (by kernel_rfl) (fun _ _ _ h => h) (Or.inl ⟨by rfl, fun w' hS' => by go_simp⟩) (by assumption) ?_
      simp only [Act.put, List.setIfInBounds_toArray, List.set_cons_zero, List.set_cons_succ]
      refine wpAnyH_take (i := 5) (oi := { dst := some 22, op := Op.move (Operand.tmp 3), type := 103, pos := _, after := _, guard := some (4, true) }) (v := undef) rfl (by kernel_rfl) (by kernel_rfl) (by kernel_rfl) (fun _ _ _ h => h) (Or.inr ⟨by rfl, rfl⟩) (by assumption) ?_
      simp only [Act.put, List.setIfInBounds_toArray, List.set_cons_zero, List.set_cons_succ]
      refine wpAnyH_take (i := 6) (oi := { dst := some 23, op := Op.move (Operand.tmp 5), type := 3, pos := _, after := _, guard := some (4, true) }) (v := undef) rfl (by kernel_rfl) (by kernel_rfl) (by kernel_rfl) (fun _ _ _ h => h) (Or.inr ⟨by rfl, rfl⟩) (by assumption) ?_
      simp only [Act.put, List.setIfInBounds_toArray, List.set_cons_zero, List.set_cons_succ]
      refine wpAnyH_take (i := 7) (oi := { dst := some 24, op := Op.binOp BinOp.sub 3 (Operand.tmp 23) (Operand.const (Value.int IntKind.i64 1)) 3, type := 3, pos := _, after := _, guard := some (4, true) }) (v := undef) rfl (by kernel_rfl) (by kernel_rfl) (by kernel_rfl) (fun _ _ _ h => h) (Or.inr ⟨by rfl, rfl⟩) (by assumption) ?_
      simp only [Act.put, List.setIfInBounds_toArray, List.set_cons_zero, List.set_cons_succ]
      refine wpAnyH_take (i := 8) (oi := { dst := some 25, op := Op.indexAddr 103 (Operand.tmp 22) (Operand.tmp 24), type := 0, pos := _, after := _, guard := some (4, true) }) (v := undef) rfl (by kernel_rfl) (by kernel_rfl) (by kernel_rfl) (fun _ _ _ h => h) (Or.inr ⟨by rfl, rfl⟩) (by assumption) ?_
      simp only [Act.put, List.setIfInBounds_toArray, List.set_cons_zero, List.set_cons_succ]
      refine wpAnyH_take (i := 9) (oi := { dst := some 26, op := Op.load 106 (Operand.tmp 25), type := 106, pos := _, after := _, guard := some (4, true) }) (v := undef) rfl (by kernel_rfl) (by kernel_rfl) (by kernel_rfl) (fun _ _ _ h => h) (Or.inr ⟨by rfl, rfl⟩) (by assumption) ?_
      simp only [Act.put, List.setIfInBounds_toArray, List.set_cons_zero, List.set_cons_succ]
      refine wpAnyH_take (i := 10) (oi := { dst := some 27, op := Op.call { callee := Callee.builtin Builtin.imag, args := #[Operand.tmp 26], argTypes := #[106] }, type := 105, pos := _, after := _, guard := some (4, true) }) (v := undef) rfl (by kernel_rfl) (by kernel_rfl) (by kernel_rfl) (fun _ _ _ h => h) (Or.inr ⟨by rfl, rfl⟩) (by assumption) ?_
      simp only [Act.put, List.setIfInBounds_toArray, List.set_cons_zero, List.set_cons_succ]
      refine wpAnyH_take (i := 11) (oi := { dst := some 28, op := Op.move (Operand.tmp 3), type := 103, pos := _, after := _, guard := some (4, true) }) (v := undef) rfl (by kernel_rfl) (by kernel_rfl) (by kernel_rfl) (fun _ _ _ h => h) (Or.inr ⟨by rfl, rfl⟩) (by assumption) ?_
      simp only [Act.put, List.setIfInBounds_toArray, List.set_cons_zero, List.set_cons_succ]
      refine wpAnyH_take (i := 12) (oi := { dst := some 29, op := Op.move (Operand.tmp 5), type := 3, pos := _, after := _, guard := some (4, true) }) (v := undef) rfl (by kernel_rfl) (by kernel_rfl) (by kernel_rfl) (fun _ _ _ h => h) (Or.inr ⟨by rfl, rfl⟩) (by assumption) ?_
      simp only [Act.put, List.setIfInBounds_toArray, List.set_cons_zero, List.set_cons_succ]
      refine wpAnyH_take (i := 13) (oi := { dst := some 30, op := Op.indexAddr 103 (Operand.tmp 28) (Operand.tmp 29), type := 0, pos := _, after := _, guard := some (4, true) }) (v := undef) rfl (by kernel_rfl) (by kernel_rfl) (by kernel_rfl) (fun _ _ _ h => h) (Or.inr ⟨by rfl, rfl⟩) (by assumption) ?_
      simp only [Act.put, List.setIfInBounds_toArray, List.set_cons_zero, List.set_cons_succ]
      refine wpAnyH_take (i := 14) (oi := { dst := some 31, op := Op.load 106 (Operand.tmp 30), type := 106, pos := _, after := _, guard := some (4, true) }) (v := undef) rfl (by kernel_rfl) (by kernel_rfl) (by kernel_rfl) (fun _ _ _ h => h) (Or.inr ⟨by rfl, rfl⟩) (by assumption) ?_
      simp only [Act.put, List.setIfInBounds_toArray, List.set_cons_zero, List.set_cons_succ]
      refine wpAnyH_take (i := 15) (oi := { dst := some 32, op := Op.call { callee := Callee.builtin Builtin.real, args := #[Operand.tmp 31], argTypes := #[106] }, type := 105, pos := _, after := _, guard := some (4, true) }) (v := undef) rfl (by kernel_rfl) (by kernel_rfl) (by kernel_rfl) (fun _ _ _ h => h) (Or.inr ⟨by rfl, rfl⟩) (by assumption) ?_
      simp only [Act.put, List.setIfInBounds_toArray, List.set_cons_zero, List.set_cons_succ]
      refine wpAnyH_take (i := 16) (oi := { dst := some 33, op := Op.binOp BinOp.eql 105 (Operand.tmp 27) (Operand.tmp 32) 105, type := 4, pos := _, after := _, guard := some (4, true) }) (v := undef) rfl (by kernel_rfl) (by kernel_rfl) (by kernel_rfl) (fun _ _ _ h => h) (Or.inr ⟨by rfl, rfl⟩) (by assumption) ?_
      simp only [Act.put, List.setIfInBounds_toArray, List.set_cons_zero, List.set_cons_succ]
      refine wpAnyH_take (i := 17) (oi := { dst := some 34, op := Op.pick (Operand.tmp 21) (Operand.tmp 33) (Operand.const (Value.bool false)), type := 4, pos := _, after := _, guard := none }) (v := .bool false) rfl (by kernel_rfl) (by kernel_rfl) (by kernel_rfl) (fun _ _ _ h => h) (Or.inl ⟨by rfl, fun w' hS' => by go_simp⟩) (by assumption) ?_
      simp only [Act.put, List.setIfInBounds_toArray, List.set_cons_zero, List.set_cons_succ]
      refine wpAnyH_done (by kernel_rfl) ?_ _
      go_upto_region 9 with (fail)
      clear hHeld
      replace HA : Hid (PsAt w B n (l.map RSp.sp) v done xs W.drew.drew) := HA.out.kept (Below.refl _ _).drew
      refine wp_region_held_drew (S := fun w' => CxAt w' w.heap.size n (ends (l.map RSp.sp) n)) (by kernel_rfl) HA.out.cx (fun hHeld => ?_)
      generalize W.drew.drew = W1 at HA hHeld ⊢
      refine wpAnyH_take (i := 0) (oi := { dst := some 35, op := Op.move (Operand.tmp 4), type := 26, pos := _, after := _, guard := none }) (v := v) rfl (by kernel_rfl) (by kernel_rfl) (by kernel_rfl) (fun _ _ _ h => h) (Or.inl ⟨by rfl, fun w' hS' => by go_simp⟩) (by assumption) ?_
      simp only [Act.put, List.setIfInBounds_toArray, List.set_cons_zero, List.set_cons_succ]
      refine wpAnyH_take (i := 1) (oi := { dst := some 36, op := Op.move (Operand.tmp 0), type := 31, pos := _, after := _, guard := none }) (v := .slice (some ⟨b, o, none⟩) n c) rfl (by kernel_rfl) (by kernel_rfl) (by kernel_rfl) (fun _ _ _ h => h) (Or.inl ⟨by rfl, fun w' hS' => by go_simp⟩) (by assumption) ?_
      simp only [Act.put, List.setIfInBounds_toArray, List.set_cons_zero, List.set_cons_succ]
      refine wpAnyH_take (i := 2) (oi := { dst := some 37, op := Op.move (Operand.tmp 6), type := 3, pos := _, after := _, guard := none }) (v := .int .i64 (f : Int)) rfl (by kernel_rfl) (by kernel_rfl) (by kernel_rfl) (fun _ _ _ h => h) (Or.inl ⟨by rfl, fun w' hS' => by go_simp⟩) (by assumption) ?_
      simp only [Act.put, List.setIfInBounds_toArray, List.set_cons_zero, List.set_cons_succ]
      refine wpAnyH_take (i := 3) (oi := { dst := some 38, op := Op.move (Operand.tmp 5), type := 3, pos := _, after := _, guard := none }) (v := .int .i64 (s : Int)) rfl (by kernel_rfl) (by kernel_rfl) (by kernel_rfl) (fun _ _ _ h => h) (Or.inl ⟨by rfl, fun w' hS' => by go_simp⟩) (by assumption) ?_
      simp only [Act.put, List.setIfInBounds_toArray, List.set_cons_zero, List.set_cons_succ]
      refine wpAnyH_take (i := 4) (oi := { dst := some 39, op := Op.slice 31 (Operand.tmp 36) (some (Operand.tmp 37)) (some (Operand.tmp 38)) none, type := 31, pos := _, after := _, guard := none }) (v := .slice (some ⟨b, o + f * 12, none⟩) (p + 1) (c - f)) rfl (by kernel_rfl) (by kernel_rfl) (by kernel_rfl) (fun _ _ _ h => h) (Or.inl ⟨by rfl, fun w' hS' => by go_simp⟩) (by assumption) ?_
      simp only [Act.put, List.setIfInBounds_toArray, List.set_cons_zero, List.set_cons_succ]
      refine wpAnyH_take (i := 5) (oi := { dst := some 40, op := Op.move (Operand.tmp 3), type := 103, pos := _, after := _, guard := none }) (v := .slice (some ⟨w.heap.size, 0, none⟩) n n) rfl (by kernel_rfl) (by kernel_rfl) (by kernel_rfl) (fun _ _ _ h => h) (Or.inl ⟨by rfl, fun w' hS' => by go_simp⟩) (by assumption) ?_
      simp only [Act.put, List.setIfInBounds_toArray, List.set_cons_zero, List.set_cons_succ]
      refine wpAnyH_take (i := 6) (oi := { dst := some 41, op := Op.move (Operand.tmp 6), type := 3, pos := _, after := _, guard := none }) (v := .int .i64 (f : Int)) rfl (by kernel_rfl) (by kernel_rfl) (by kernel_rfl) (fun _ _ _ h => h) (Or.inl ⟨by rfl, fun w' hS' => by go_simp⟩) (by assumption) ?_
      simp only [Act.put, List.setIfInBounds_toArray, List.set_cons_zero, List.set_cons_succ]
      refine wpAnyH_take (i := 7) (oi := { dst := some 42, op := Op.indexAddr 103 (Operand.tmp 40) (Operand.tmp 41), type := 0, pos := _, after := _, guard := none }) (v := .pointer (some ⟨w.heap.size, f, none⟩)) rfl (by kernel_rfl) (by kernel_rfl) (by kernel_rfl) (fun _ _ _ h => h) (Or.inl ⟨by rfl, fun w' hS' => by go_simp⟩) (by assumption) ?_
      simp only [Act.put, List.setIfInBounds_toArray, List.set_cons_zero, List.set_cons_succ]
      refine wpAnyH_take (i := 8) (oi := { dst := some 43, op := Op.load 106 (Operand.tmp 42), type := 106, pos := _, after := _, guard := none }) (v := .complex .f64 (fb (lk (l.map RSp.sp) f)) (fb (pk (l.map RSp.sp) (f + 1)))) rfl (by kernel_rfl) (by kernel_rfl) (by kernel_rfl) (fun _ _ _ h => h) (Or.inl ⟨by rfl, fun w' hS' => by have hc := ends_at hS' hfn2; go_simp⟩) (by assumption) ?_
      simp only [Act.put, List.setIfInBounds_toArray, List.set_cons_zero, List.set_cons_succ]
      refine wpAnyH_ready (rs := [9]) (by kernel_rfl) (by simp) ?_
      refine AllReadyH.cons (o := { dst := some 44, op := Op.call { callee := Callee.value (Operand.func 76), args := #[Operand.tmp 39, Operand.tmp 43], argTypes := #[31, 106] }, type := 28, pos := _, after := _, guard := none }) rfl (fun K hK => ?_) AllReadyH.nil
      go_simp
      refine (HPC.out _ HA.out.bel).mono ?_
      rintro e wg1 ⟨x, he, hx, hb⟩
      unfold RV.agg at he
      subst he
      have HX : Hid (Range.Lies wg1 (Elems B v) (pieceR (rowOf (l.map RSp.sp) f p)) x) := hx.mono fun g hS _ => strs_elems HA.out.own hS
      replace HA : Hid (PsAt w B n (l.map RSp.sp) v done xs wg1) := HA.out.kept hb
      clear hx
      clear hb hHeld
      refine hK.out _ _ HA.out.cx (fun hHeld => ?_)
      clear hK K
      try simp only [Act.put, List.setIfInBounds_toArray, List.set_cons_zero, List.set_cons_succ]
      refine wpAnyH_ready (rs := [10]) (by kernel_rfl) (by simp) ?_
      refine AllReadyH.cons (o := { dst := some 45, op := Op.buildSlice 26 1 #[(0, Operand.tmp 44)], type := 26, pos := _, after := _, guard := none }) rfl (fun K hK => ?_) AllReadyH.nil
      go_simp
      have hb : Below wg1.heap.size wg1 (wg1.alloc (.cells x.vals.toArray 28)) := (Below.refl _ _).alloc (Nat.le_refl _) _
      replace HA : Hid (PsAt w B n (l.map RSp.sp) v done xs (wg1.alloc (.cells x.vals.toArray 28))) := HA.out.kept hb
      replace HX : Hid (Range.Lies (wg1.alloc (.cells x.vals.toArray 28)) (Elems B v) (pieceR (rowOf (l.map RSp.sp) f p)) x) := HX.out.keep (KeepS.of_below hb)
      clear hb hHeld
      refine hK.out _ _ HA.out.cx (fun hHeld => ?_)
      clear hK K
      try simp only [Act.put, List.setIfInBounds_toArray, List.set_cons_zero, List.set_cons_succ]
      refine wpAnyH_ready (rs := [11]) (by kernel_rfl) (by simp) ?_
      refine AllReadyH.cons (o := { dst := some 46, op := Op.call { callee := Callee.builtin Builtin.append, args := #[Operand.tmp 35, Operand.tmp 45], argTypes := #[26, 26] }, type := 26, pos := _, after := _, guard := none }) rfl (fun K hK => ?_) AllReadyH.nil
      rw [if_pos (by rfl)]
      refine op_append_rg _ _ _ rfl (w.heap.size + 1) v done.length xs rfl HA.out.own ⟨wg1.heap.size, 0, none⟩ x rfl (news_new wg1 x.vals 28) (by omega) HA.out.bel_le ?_
      intro v3 w3 ho hg hat
      have HA3 := Lib.hid (HA.out.more ho hg hat HX.out)
      clear ho hg hat hHeld
      refine hK.out _ _ HA3.out.cx (fun hHeld => ?_)
      clear hK K
      try simp only [Act.put, List.setIfInBounds_toArray, List.set_cons_zero, List.set_cons_succ]
      refine wpAnyH_take (i := 12) (oi := { dst := some 4, op := Op.assign (Operand.tmp 46), type := 26, pos := _, after := _, guard := none }) (v := v3) rfl (by kernel_rfl) (by kernel_rfl) (by kernel_rfl) (fun _ _ _ h => h) (Or.inl ⟨by rfl, fun w' hS' => by go_simp⟩) (by assumption) ?_
      simp only [Act.put, List.setIfInBounds_toArray, List.set_cons_zero, List.set_cons_succ]
      refine wpAnyH_done (by kernel_rfl) ?_ _
      go_wp2
      go_step3
      exact .inl ⟨rfl, ⟨s, v3, done ++ [pieceR (rowOf (l.map RSp.sp) f p)], xs ++ [x], u1, .int .i64 (f : Int), _, _, _, _, _, _, _, _, _, _, _, _, _, _, _, _, _, _, _, _, _, _, _, _, _, _, _, _, _, _, _, _, _, _, _, _, _, _, _, _, hsn, by rw [List.length_append, List.length_singleton]; omega, HA3, HSh, rfl⟩, by (try rw [hmm2]); simp [PsM, intOf]; omega⟩
  · intro HP mm
    rintro a' W ⟨t, v, done, xs, u1, u6, u7, u8, u9, u10, u11, u12, u13, u14, u15, u16, u17, u18, u19, u20, u21, u22, u23, u24, u25, u26, u27, u28, u29, u30, u31, u32, u33, u34, u35, u36, u37, u38, u39, u40, u41, u42, u43, u44, u45, u46, htn, hdn, HA, HD, rfl⟩ hmm
    have hmm2 : mm = n - t := by rw [← hmm]; simp [PsM, intOf]
    have hlen : (l.map RSp.sp).length = n := by rw [List.length_map]; exact HR.out.1
    clear hmm
    by_cases hlt : t < n
    · have hne : ¬ t = n := by omega
      have HH : Hid (Half (l.map RSp.sp) t (t - t) done) := by
        unfold Hid
        rw [Nat.sub_self]
        exact half_start HD.out (by omega)
      go_wp2
      go_step3
      rename_i hK
      exact hK _ _ (HP.out _ _ _ ⟨t, t, v, done, xs, u1, _, _, _, _, _, _, _, _, _, _, _, _, _, _, _, _, _, _, _, _, _, _, _, _, _, _, _, _, _, _, _, _, _, _, _, _, _, _, _, _, Nat.le_refl t, hlt, hdn, HA, HH, rfl⟩ (by (try rw [hmm2]); simp [PsM, intOf]))
    · obtain rfl : t = n := by omega
      have hdone : done = piecesR (l.map RSp.sp) := by
        have h := HD.out
        rw [List.drop_eq_nil_of_le (by omega)] at h
        exact (List.append_nil _).symm.trans h
      obtain ⟨L, e, rfl, he, hnil, hrow⟩ := HA.out.row hB
      rw [hdone] at hrow he hdn
      have HRow := Lib.hid hrow
      have HNil := Lib.hid hnil
      have HBl := Lib.hid HA.out.bel
      have hl2 : done.length = (piecesR (l.map RSp.sp)).length := by rw [hdone]
      clear hrow hnil HA HD hdone
      rw [hl2]
      generalize hq : (piecesR (l.map RSp.sp)).length = q at HRow he hdn ⊢
      clear hl2
      go_wp2
      simp only [jumps]
      go_ret
      exact ⟨L, q, e, rfl, he, hdn, HNil.out, HRow.out, HBl.out⟩
  · intro HP
    go_wp2_with fail
    refine (ranked_any A n c l w HR.out hn).mono ?_
    rintro e W2 ⟨rfl, hcx, hb⟩
    have HA0 : Hid (PsAt w B n (l.map RSp.sp) (.slice none 0 0) [] [] W2) := ⟨hcx, World.ownsRow_nil _ _ _ _, rfl, (fun j hj => absurd hj (Nat.not_lt_zero _)), hb⟩
    have HD0 : Hid (([] : List Rng) ++ piecesR ((l.map RSp.sp).drop 0) = piecesR (l.map RSp.sp)) := rfl
    clear hcx hb
    go_wp2
    go_step3
    rename_i hK
    exact hK _ _ (HP.out _ _ ⟨0, .slice none 0 0, [], [], _, _, _, _, _, _, _, _, _, _, _, _, _, _, _, _, _, _, _, _, _, _, _, _, _, _, _, _, _, _, _, _, _, _, _, _, _, _, _, _, _, _, Nat.zero_le _, Nat.zero_le _, HA0, HD0, rfl⟩)
end Go.Proofs.YtgfbflnhjpbceaaGreatDoor.Nrm

namespace Go.Proofs.YtgfbflnhjpbceaaGreatDoor.Nrm
open Go.RowKit Num Ident Semver Prec Span
open Range (Rng noRng goodR goodL fits RV RAt RgRow LtB Elems wt wtL wtL_len wt_mem KeepS zeroRV)
set_option maxRecDepth 100000 in
set_option maxHeartbeats 3200000 in
theorem plain_any (A : Option Addr) (n c : Nat) (l : List RSp) (w : World) (hr : SpRow w A n l) (hn : n ≤ 74) :
    Calls Tryz.prog 20 #[.slice A n c] w fun e w' => ∃ (x : RV) (o : List Sp), e = .returned x.agg ∧ NormalOf (l.map RSp.sp) o ∧ Range.Lies w' (fun g => w.heap.size + 1 ≤ g) (plainR o) x ∧ o.length ≤ n ∧ Below w.heap.size w w' := by
  have HB : Hid (Below w.heap.size w (w.alloc (.cells #[.int .i64 0, .int .u64 0, .int .u64 0, .int .u64 0, .slice none 0 0, .slice none 0 0, .slice none 0 0] 28))) := (Below.refl _ _).alloc (Nat.le_refl _) _
  have HR : Hid (RAt (w.alloc (.cells #[.int .i64 0, .int .u64 0, .int .u64 0, .int .u64 0, .slice none 0 0, .slice none 0 0, .slice none 0 0] 28)) w.heap.size (zeroRV 0)) := RAt.new w _ (zeroRV 0)
  have HRow := Lib.hid (hr.kept HB.out)
  have hsz : (w.alloc (.cells #[.int .i64 0, .int .u64 0, .int .u64 0, .int .u64 0, .slice none 0 0, .slice none 0 0, .slice none 0 0] 28)).heap.size = w.heap.size + 1 := size_alloc _ _
  clear hr
  go_enter Tryz.func20, Tryz.ntmps20
  go_upto_region 1 with (fail)
  generalize (w.alloc (.cells #[.int .i64 0, .int .u64 0, .int .u64 0, .int .u64 0, .slice none 0 0, .slice none 0 0, .slice none 0 0] 28)) = W at HB HR HRow hsz ⊢
  go_wp2_with fail
  refine (normal_in A n c l W HRow.out (by omega)).mono ?_
  rintro e W2 ⟨A2, m2, cc2, o2, rfl, q1, q2, q3, q4, hm2, q6, hb⟩
  have HB2 := Lib.hid (HB.out.trans (hb.mono HB.out.size))
  have HR2 := Lib.hid (HR.out.kept hb HR.out.1)
  have HS := Lib.hid q1
  have HN := Lib.hid q3
  have HO : Hid (∀ s ∈ o2, OwnsS W2 (w.heap.size + 1) s) := fun s hs => hsz ▸ q4 s hs
  clear q1 q3 q4 q6 hb HB HR HRow
  by_cases h0 : m2 = 0
  · obtain rfl : o2 = [] := List.eq_nil_of_length_eq_zero (HS.out.1.trans h0)
    have q0 : ((m2 : Int) == 0) = true := by simp [h0]
    clear h0
    have hzz : (Range.setR W2 w.heap.size (⟨11, noVer, none, 0, none, 0, some ⟨W2.heap.size, 0, none⟩, 1, 1⟩ : RV)).heap.size = W2.heap.size := by unfold Range.setR; simp
    have HK9 : Hid (RAt ((Range.setR W2 w.heap.size (⟨11, noVer, none, 0, none, 0, some ⟨W2.heap.size, 0, none⟩, 1, 1⟩ : RV)).alloc (.cells #[.int .i64 0, .int .u64 0, .int .u64 0, .int .u64 0, .slice none 0 0, .slice none 0 0, .slice none 0 0] 28)) w.heap.size (⟨11, noVer, none, 0, none, 0, some ⟨W2.heap.size, 0, none⟩, 1, 1⟩ : RV)) := (Range.setR_at HR2.out).kept ((Below.refl _ _).alloc (Nat.le_refl _) _) (Range.setR_at (x := (⟨11, noVer, none, 0, none, 0, some ⟨W2.heap.size, 0, none⟩, 1, 1⟩ : RV)) HR2.out).1
    have HB9 : Hid (Below w.heap.size w ((Range.setR W2 w.heap.size (⟨11, noVer, none, 0, none, 0, some ⟨W2.heap.size, 0, none⟩, 1, 1⟩ : RV)).alloc (.cells #[.int .i64 0, .int .u64 0, .int .u64 0, .int .u64 0, .slice none 0 0, .slice none 0 0, .slice none 0 0] 28))) := (HB2.out.trans (Range.setR_below w.heap.size (Nat.le_refl _) (⟨11, noVer, none, 0, none, 0, some ⟨W2.heap.size, 0, none⟩, 1, 1⟩ : RV))).alloc (by rw [hzz]; exact HB2.out.size) _
    have HS9 : Hid (Range.Lies ((Range.setR W2 w.heap.size (⟨11, noVer, none, 0, none, 0, some ⟨W2.heap.size, 0, none⟩, 1, 1⟩ : RV)).alloc (.cells #[.int .i64 0, .int .u64 0, .int .u64 0, .int .u64 0, .slice none 0 0, .slice none 0 0, .slice none 0 0] 28)) (fun g => w.heap.size + 1 ≤ g) (plainR []) (⟨11, noVer, none, 0, none, 0, some ⟨W2.heap.size, 0, none⟩, 1, 1⟩ : RV)) := by
      have hz2 := HR2.out.1
      have h1 : RgRow ((Range.setR W2 w.heap.size (⟨11, noVer, none, 0, none, 0, some ⟨W2.heap.size, 0, none⟩, 1, 1⟩ : RV)).alloc (.cells #[.int .i64 0, .int .u64 0, .int .u64 0, .int .u64 0, .slice none 0 0, .slice none 0 0, .slice none 0 0] 28)) (fun g => w.heap.size + 1 ≤ g) (some ⟨W2.heap.size, 0, none⟩) 1 [noRng] := ⟨fun _ => zeroRV 0, rfl, fun _ => ⟨W2.heap.size, 0, rfl, hz2, fun j hj i u hu => by
        obtain rfl : j = 0 := by omega
        have := news_new (Range.setR W2 w.heap.size (⟨11, noVer, none, 0, none, 0, some ⟨W2.heap.size, 0, none⟩, 1, 1⟩ : RV)) (zeroRV 0).vals 28 i u hu
        rw [add_none, hzz] at this
        exact this⟩, fun j hj => by
        obtain rfl : j = 0 := by omega
        exact Range.Lies.zero _ _ 0⟩
      exact Range.Lies.many 11 h1 (Nat.le_refl _) (fun e => by cases e)
    have hne9 : ¬ w.heap.size = W2.heap.size := Nat.ne_of_lt HR2.out.1
    obtain ⟨_, hfz, r0, r1, r2, r3, r4, r5, r6⟩ := HR2.out
    clear HR2 HB2
    go_wp2
    change bodyPost _ _ _ _ _ ((Range.setR W2 w.heap.size (⟨11, noVer, none, 0, none, 0, some ⟨W2.heap.size, 0, none⟩, 1, 1⟩ : RV)).alloc (.cells #[.int .i64 0, .int .u64 0, .int .u64 0, .int .u64 0, .slice none 0 0, .slice none 0 0, .slice none 0 0] 28))
    generalize ((Range.setR W2 w.heap.size (⟨11, noVer, none, 0, none, 0, some ⟨W2.heap.size, 0, none⟩, 1, 1⟩ : RV)).alloc (.cells #[.int .i64 0, .int .u64 0, .int .u64 0, .int .u64 0, .slice none 0 0, .slice none 0 0, .slice none 0 0] 28)) = W9 at HK9 HB9 HS9 ⊢
    obtain ⟨_, _, z0, z1, z2, z3, z4, z5, z6⟩ := HK9.out
    exact bodyPost_ret (v := .agg #[.int .i64 11, .int .u64 0, .int .u64 0, .int .u64 0, .slice none 0 0, .slice none 0 0, .slice (some ⟨W2.heap.size, 0, none⟩) 1 1]) (by simp [results, Tryz.results20, go_sem, z0, z1, z2, z3, z4, z5, z6, noVer]) rfl ⟨(⟨11, noVer, none, 0, none, 0, some ⟨W2.heap.size, 0, none⟩, 1, 1⟩ : RV), [], rfl, HN.out, HS9.out, Nat.zero_le _, HB9.out⟩
  · have q0 : ((m2 : Int) == 0) = false := beq_eq_false_iff_ne.2 (by omega)
    have HPl : Hid (plainR (o2.map RSp.sp) = few 10 (piecesR (o2.map RSp.sp))) := by
      unfold Hid plainR
      rw [if_neg (by rw [List.length_map, HS.out.1]; exact h0)]
    clear h0
    go_wp2_with fail
    refine (pieces_any A2 m2 cc2 o2 (w.heap.size + 1) W2 HS.out (by omega) hm2 HO.out HR2.out.1 HN.out.1).mono ?_
    rintro e W3 ⟨L, k, e3, rfl, hk1, hk2, hk3, hrow, hb⟩
    have HRow := Lib.hid hrow
    have HNil := Lib.hid hk3
    have HB3 := Lib.hid (HB2.out.trans (hb.mono HB2.out.size))
    have HR3 := Lib.hid (HR2.out.kept hb HR2.out.1)
    clear hrow hk3 hb HR2 HB2
    go_wp2_with fail
    refine (joined_any 10 L k e3 (piecesR (o2.map RSp.sp)) (fun g => w.heap.size + 1 ≤ g) W3 HRow.out hk1 HNil.out (by omega)).mono ?_
    rintro e W4 ⟨x, he4, hx, hb⟩
    unfold RV.agg at he4
    subst he4
    have HB4 := Lib.hid (HB3.out.trans (hb.mono HB3.out.size))
    have HR4 := Lib.hid (HR3.out.kept hb HR3.out.1)
    have HK9 := Lib.hid (Range.setR_at (x := x) HR4.out)
    have HB9 : Hid (Below w.heap.size w (Range.setR W4 w.heap.size x)) := HB4.out.trans (Range.setR_below w.heap.size (Nat.le_refl _) x)
    have HS9 : Hid (Range.Lies (Range.setR W4 w.heap.size x) (fun g => w.heap.size + 1 ≤ g) (plainR (o2.map RSp.sp)) x) := by
      unfold Hid
      rw [HPl.out]
      exact hx.keep (Range.setR_keep (by omega) x)
    have hol : (o2.map RSp.sp).length ≤ n := by rw [List.length_map, HS.out.1]; omega
    obtain ⟨_, hfz, r0, r1, r2, r3, r4, r5, r6⟩ := HR4.out
    clear hx hb HR3 HB3 HR4 HB4 HRow HNil
    go_wp2
    change bodyPost _ _ _ _ _ (Range.setR W4 w.heap.size x)
    generalize Range.setR W4 w.heap.size x = W9 at HK9 HB9 HS9 ⊢
    obtain ⟨_, _, z0, z1, z2, z3, z4, z5, z6⟩ := HK9.out
    exact bodyPost_ret (v := .agg #[.int .i64 x.kind, .int .u64 (x.v.a : Int), .int .u64 (x.v.b : Int), .int .u64 (x.v.c : Int), .slice x.A x.v.pre.length x.c, .slice x.B x.v.build.length x.d, .slice x.L x.n x.e]) (by simp [results, Tryz.results20, go_sem, z0, z1, z2, z3, z4, z5, z6]) rfl ⟨x, o2.map RSp.sp, rfl, HN.out, HS9.out, hol, HB9.out⟩
/-- What Simple tells of a range: of a right one its set's plain range, else the zero value. -/
def Simpled (r s : Rng) : Prop := (goodR r 0 = true ∧ ∃ o, SetOf r o ∧ o.length + 1 ≤ 3 * wt r ∧ s = plainR o) ∨ (goodR r 0 = false ∧ s = noRng)
set_option maxRecDepth 100000 in
set_option maxHeartbeats 3200000 in
theorem simple_any (r : Rng) (x : RV) (B : Nat) (w : World) (hx : Range.Lies w (LtB B) r x) (hB : B ≤ w.heap.size) (hlo : Range.LenOk r) (hw : goodR r 0 = true → wt r ≤ 25) :
    Calls Tryz.prog 15 #[x.agg] w fun e w' => ∃ (y : RV) (s : Rng), e = .returned y.agg ∧ Range.Lies w' (fun g => w.heap.size + 1 < g) s y ∧ Below w.heap.size w w' ∧ Simpled r s := by
  have HB : Hid (Below w.heap.size w ((w.alloc (.cells #[.int .i64 x.kind, .int .u64 (x.v.a : Int), .int .u64 (x.v.b : Int), .int .u64 (x.v.c : Int), .slice x.A x.v.pre.length x.c, .slice x.B x.v.build.length x.d, .slice x.L x.n x.e] 28)).alloc (.cells #[.int .i64 0, .int .u64 0, .int .u64 0, .int .u64 0, .slice none 0 0, .slice none 0 0, .slice none 0 0] 28))) := ((Below.refl _ _).alloc (Nat.le_refl _) _).alloc (by simp) _
  have HR : Hid (RAt ((w.alloc (.cells #[.int .i64 x.kind, .int .u64 (x.v.a : Int), .int .u64 (x.v.b : Int), .int .u64 (x.v.c : Int), .slice x.A x.v.pre.length x.c, .slice x.B x.v.build.length x.d, .slice x.L x.n x.e] 28)).alloc (.cells #[.int .i64 0, .int .u64 0, .int .u64 0, .int .u64 0, .slice none 0 0, .slice none 0 0, .slice none 0 0] 28)) w.heap.size x) := (RAt.new w 28 x).kept ((Below.refl _ _).alloc (Nat.le_refl _) _) (by simp)
  have HZ : Hid (RAt ((w.alloc (.cells #[.int .i64 x.kind, .int .u64 (x.v.a : Int), .int .u64 (x.v.b : Int), .int .u64 (x.v.c : Int), .slice x.A x.v.pre.length x.c, .slice x.B x.v.build.length x.d, .slice x.L x.n x.e] 28)).alloc (.cells #[.int .i64 0, .int .u64 0, .int .u64 0, .int .u64 0, .slice none 0 0, .slice none 0 0, .slice none 0 0] 28)) (w.heap.size + 1) (zeroRV 0)) := by
    have h := RAt.new (w.alloc (.cells #[.int .i64 x.kind, .int .u64 (x.v.a : Int), .int .u64 (x.v.b : Int), .int .u64 (x.v.c : Int), .slice x.A x.v.pre.length x.c, .slice x.B x.v.build.length x.d, .slice x.L x.n x.e] 28)) 28 (zeroRV 0)
    rw [size_alloc] at h; exact h
  have HL := Lib.hid (hx.keep (KeepS.of_below (S := LtB B) HB.out))
  have hB1 : B ≤ ((w.alloc (.cells #[.int .i64 x.kind, .int .u64 (x.v.a : Int), .int .u64 (x.v.b : Int), .int .u64 (x.v.c : Int), .slice x.A x.v.pre.length x.c, .slice x.B x.v.build.length x.d, .slice x.L x.n x.e] 28)).alloc (.cells #[.int .i64 0, .int .u64 0, .int .u64 0, .int .u64 0, .slice none 0 0, .slice none 0 0, .slice none 0 0] 28)).heap.size := Nat.le_trans hB HB.out.size
  have hwp : 1 ≤ wt r := by rw [Range.wt_eq]; omega
  clear hx
  unfold RV.agg
  go_enter Tryz.func15, Tryz.ntmps15
  go_upto_region 1 with (fail)
  generalize ((w.alloc (.cells #[.int .i64 x.kind, .int .u64 (x.v.a : Int), .int .u64 (x.v.b : Int), .int .u64 (x.v.c : Int), .slice x.A x.v.pre.length x.c, .slice x.B x.v.build.length x.d, .slice x.L x.n x.e] 28)).alloc (.cells #[.int .i64 0, .int .u64 0, .int .u64 0, .int .u64 0, .slice none 0 0, .slice none 0 0, .slice none 0 0] 28)) = W at HB HR HZ HL hB1 ⊢
  obtain ⟨y1, y2, c0, c1, c2, c3, c4, c5, c6⟩ := HR.out
  go_wp2_with fail
  refine (Range.goodIs_any r x B W hlo HL.out hB1).mono ?_
  rintro e W2 ⟨rfl, hb⟩
  have HB2 := Lib.hid (HB.out.trans (hb.mono HB.out.size))
  have HR2 := Lib.hid (HR.out.kept hb HR.out.1)
  have HZ2 := Lib.hid (HZ.out.kept hb HZ.out.1)
  have HL2 := Lib.hid (HL.out.keep (KeepS.of_below (S := LtB B) hb))
  have hB2 : B ≤ W2.heap.size := Nat.le_trans hB1 hb.size
  clear hb y1 y2 c0 c1 c2 c3 c4 c5 c6 HB HR HL HZ
  obtain ⟨y1, y2, c0, c1, c2, c3, c4, c5, c6⟩ := HR2.out
  cases hg : goodR r 0 with
  | true =>
    have HG := Lib.hid hg
    have hw := hw hg
    clear hg
    go_wp2_with fail
    refine (set_any 1500 r x B 0 W2 (by omega) (Nat.le_refl _) HL2.out hB2 HG.out).mono ?_
    rintro e W3 ⟨A2, m2, cc2, o2, rfl, q1, q2, q3, q4, q5, q6, hb⟩
    have H1 := Lib.hid q1
    have H3 := Lib.hid q3
    have HB3 := Lib.hid (HB2.out.trans (hb.mono HB2.out.size))
    have HZ3 := Lib.hid (HZ2.out.kept hb HZ2.out.1)
    have hz3 := HZ3.out.1
    clear q1 q3 q4 q5 q6 hb HR2 HZ2 HB2 HL2 c0 c1 c2 c3 c4 c5 c6 y1 y2
    go_wp2_with fail
    refine (plain_any A2 m2 cc2 o2 W3 H1.out (by omega)).mono ?_
    rintro e W4 ⟨y, o, he4, hno, hly, hol, hb⟩
    unfold RV.agg at he4
    subst he4
    have HB4 := Lib.hid (HB3.out.trans (hb.mono HB3.out.size))
    have HZ4 := Lib.hid (HZ3.out.kept hb HZ3.out.1)
    have HK9 := Lib.hid (Range.setR_at (x := y) HZ4.out)
    have HB9 : Hid (Below w.heap.size w (Range.setR W4 (w.heap.size + 1) y)) := HB4.out.trans (Range.setR_below w.heap.size (Nat.le_succ _) y)
    have HS9 : Hid (Range.Lies (Range.setR W4 (w.heap.size + 1) y) (fun g => w.heap.size + 1 < g) (plainR o) y) := (hly.mono fun g hg _ => by omega).keep (Range.setR_keep (Nat.lt_irrefl _) y)
    have HQ : Hid (Simpled r (plainR o)) := .inl ⟨HG.out, o, ⟨hno.1, fun c => by rw [hno.2, H3.out.1.inR, H3.out.2]⟩, by omega, rfl⟩
    obtain ⟨_, hfz, r0, r1, r2, r3, r4, r5, r6⟩ := HZ4.out
    clear hly hb HZ3 HB3 HZ4 HB4
    go_wp2
    change bodyPost _ _ _ _ _ (Range.setR W4 (w.heap.size + 1) y)
    generalize Range.setR W4 (w.heap.size + 1) y = W9 at HK9 HB9 HS9 ⊢
    obtain ⟨_, _, z0, z1, z2, z3, z4, z5, z6⟩ := HK9.out
    exact bodyPost_ret (v := .agg #[.int .i64 y.kind, .int .u64 (y.v.a : Int), .int .u64 (y.v.b : Int), .int .u64 (y.v.c : Int), .slice y.A y.v.pre.length y.c, .slice y.B y.v.build.length y.d, .slice y.L y.n y.e]) (by simp [results, Tryz.results15, go_sem, z0, z1, z2, z3, z4, z5, z6]) rfl ⟨y, _, rfl, HS9.out, HB9.out, HQ.out⟩
  | false =>
    have HG := Lib.hid hg
    clear hg
    have HZ4 := HZ2
    have HB4 := HB2
    have HK9 := Lib.hid (Range.setR_at (x := (zeroRV 0)) HZ4.out)
    have HB9 : Hid (Below w.heap.size w (Range.setR W2 (w.heap.size + 1) (zeroRV 0))) := HB4.out.trans (Range.setR_below w.heap.size (Nat.le_succ _) (zeroRV 0))
    have HS9 : Hid (Range.Lies (Range.setR W2 (w.heap.size + 1) (zeroRV 0)) (fun g => w.heap.size + 1 < g) noRng (zeroRV 0)) := Range.Lies.zero _ _ 0
    have HQ : Hid (Simpled r noRng) := .inr ⟨HG.out, rfl⟩
    obtain ⟨_, hfz, r0, r1, r2, r3, r4, r5, r6⟩ := HZ2.out
    clear HR2
    go_wp2
    change bodyPost _ _ _ _ _ (Range.setR W2 (w.heap.size + 1) (zeroRV 0))
    generalize Range.setR W2 (w.heap.size + 1) (zeroRV 0) = W9 at HK9 HB9 HS9 ⊢
    obtain ⟨_, _, z0, z1, z2, z3, z4, z5, z6⟩ := HK9.out
    exact bodyPost_ret (v := .agg #[.int .i64 (zeroRV 0).kind, .int .u64 ((zeroRV 0).v.a : Int), .int .u64 ((zeroRV 0).v.b : Int), .int .u64 ((zeroRV 0).v.c : Int), .slice (zeroRV 0).A (zeroRV 0).v.pre.length (zeroRV 0).c, .slice (zeroRV 0).B (zeroRV 0).v.build.length (zeroRV 0).d, .slice (zeroRV 0).L (zeroRV 0).n (zeroRV 0).e]) (by simp [results, Tryz.results15, go_sem, z0, z1, z2, z3, z4, z5, z6]) rfl ⟨(zeroRV 0), _, rfl, HS9.out, HB9.out, HQ.out⟩
end Go.Proofs.YtgfbflnhjpbceaaGreatDoor.Nrm

namespace Go.Proofs.YtgfbflnhjpbceaaGreatDoor.Range
open Go.RowKit Num Ident Semver
theorem tx_frame (t : Array Value) (h : t.size = 90) : ∃ F : Nat → Value, t = #[t.getD 0 undef, t.getD 1 undef, t.getD 2 undef, t.getD 3 undef, t.getD 4 undef, F 5, F 6, F 7, F 8, F 9, F 10, F 11, F 12, F 13, F 14, F 15, F 16, F 17, F 18, F 19, F 20, F 21, F 22, F 23, F 24, F 25, F 26, F 27, F 28, F 29, F 30, F 31, F 32, F 33, F 34, F 35, F 36, F 37, F 38, F 39, F 40, F 41, F 42, F 43, F 44, F 45, F 46, F 47, F 48, F 49, F 50, F 51, F 52, F 53, F 54, F 55, F 56, F 57, F 58, F 59, F 60, F 61, F 62, F 63, F 64, F 65, F 66, F 67, F 68, F 69, F 70, F 71, F 72, F 73, F 74, F 75, F 76, F 77, F 78, F 79, F 80, F 81, F 82, F 83, F 84, F 85, F 86, F 87, F 88, F 89] := ⟨fun i => t.getD i undef, arr_lit t 90 h⟩
def TxJ (w : World) (r : Rng) (x0 : Value) (m : Nat) (a' : Act) (W : World) : Prop :=
  ∃ (T : List Lv) (v : Value) (bs : List UInt8), Below w.heap.size w W ∧ TxW w.heap.size W v T bs ∧ bs ++ restT T = textR r ∧ lsum T = m ∧ m ≤ 4000000 ∧
    a'.defers = [] ∧ a'.tmps.size = 90 ∧ a'.tmps.getD 0 undef = x0 ∧ a'.tmps.getD 1 undef = .pointer (some ⟨w.heap.size, 0, none⟩) ∧ a'.tmps.getD 2 undef = .string ⟨#[]⟩ ∧ a'.tmps.getD 3 undef = .pointer (some ⟨w.heap.size + 1, 0, none⟩) ∧ a'.tmps.getD 4 undef = v
set_option maxRecDepth 100000 in
set_option maxHeartbeats 12800000 in
theorem text_any (r : Rng) (x : RV) (B : Nat) (w : World) (hx : Lies w (LtB B) r x) (hB : B ≤ w.heap.size) (hg : goodR r 0 = true) (hm : wt r ≤ 1000000) (hl : (textR r).length ≤ 30000000) (ht : OpsTab w) (htab : Tab w) :
    Calls Tryz.prog 25 #[x.agg] w fun e w' => e = .returned (.string (mk (textR r))) ∧ Below w.heap.size w w' := by
  have HX := Lib.hid (hx.mono (S' := LtB w.heap.size) fun g hg _ => Nat.lt_of_lt_of_le hg hB)
  have HG := Lib.hid hg
  have HT := Lib.hid ht
  have HTab := Lib.hid htab
  have HLen := Lib.hid hl
  clear hx hB hg ht htab hl
  unfold RV.agg
  go_enter Tryz.func25, Tryz.ntmps25
  go_wp2_with fail
  have HBa : Hid (Below w.heap.size w (w.alloc (.cells #[.int .i64 x.kind, .int .u64 (x.v.a : Int), .int .u64 (x.v.b : Int), .int .u64 (x.v.c : Int), .slice x.A x.v.pre.length x.c, .slice x.B x.v.build.length x.d, .slice x.L x.n x.e] 28))) := (Below.refl _ _).alloc (Nat.le_refl _) _
  have HRx : Hid (RAt (w.alloc (.cells #[.int .i64 x.kind, .int .u64 (x.v.a : Int), .int .u64 (x.v.b : Int), .int .u64 (x.v.c : Int), .slice x.A x.v.pre.length x.c, .slice x.B x.v.build.length x.d, .slice x.L x.n x.e] 28)) w.heap.size x) := RAt.new w _ x
  have HSz : Hid ((w.alloc (.cells #[.int .i64 x.kind, .int .u64 (x.v.a : Int), .int .u64 (x.v.b : Int), .int .u64 (x.v.c : Int), .slice x.A x.v.pre.length x.c, .slice x.B x.v.build.length x.d, .slice x.L x.n x.e] 28)).heap.size = w.heap.size + 1) := by rw [size_alloc]; rfl
  generalize w.alloc (.cells #[.int .i64 x.kind, .int .u64 (x.v.a : Int), .int .u64 (x.v.b : Int), .int .u64 (x.v.c : Int), .slice x.A x.v.pre.length x.c, .slice x.B x.v.build.length x.d, .slice x.L x.n x.e] 28) = W1 at HBa HRx HSz ⊢
  refine wp_scope_back_of 0 (TxJ w r x.agg) rfl ?_ ?_
  · rintro m ⟨tm, df⟩ W ⟨T, v, bs, hb1, hT, hrest, hsum, hmm, hd, hs, t0, t1, t2, t3, t4⟩
    simp only at hd hs t0 t1 t2 t3 t4
    obtain ⟨F, hF⟩ := tx_frame tm hs
    rw [t0, t1, t2, t3, t4] at hF
    clear t0 t1 t2 t3 t4 hs
    subst hF; subst hd
    have HB1 := Lib.hid hb1
    have HT1 := Lib.hid hT
    have HR1 := Lib.hid hrest
    clear hb1 hT hrest
    by_cases h1 : T = []
    · subst h1
      have HE : Hid (bs = textR r) := by have := HR1.out; rwa [restT, List.append_nil] at this
      rcases HT1.out.own.2 with ⟨rfl, _⟩ | ⟨g, cp, cur, rfl, _⟩
      all_goals
        go_wp2_with fail
        refine (Tryz.builderString _ _ bs W HT1.out.bld (by have := HT1.out.sz; omega)).mono ?_
        rintro e w5 ⟨rfl, _, hb5, _⟩
        have HB5 := Lib.hid (HB1.out.trans (hb5.mono (Nat.le_succ _)))
        clear hb5
        go_wp2
        simp only [Exit.jump]
        go_ret
        exact ⟨by rw [HE.out]; rfl, HB5.out⟩
    · obtain ⟨R, y, rfl⟩ : ∃ R y, T = R ++ [y] := ⟨T.dropLast, T.getLast h1, (List.dropLast_concat_getLast h1).symm⟩
      obtain ⟨g, cp, rfl, hg1, hg2, hcp, e0, e1, e2, hfz⟩ := HT1.out.last
      have hRl : R.length < 4000000 := by have := lsum_len (R ++ [y]); rw [lv_length] at this; omega
      have hs1 : IntKind.i64.wrap (((R.length + 1 : Nat) : Int) - 1) = (R.length : Int) := by rw [IntKind.wrap_i64] <;> omega
      have hs2 : (R.length : Int) < ((R.length + 1 : Nat) : Int) := by omega
      have hs3 : (0 : Int) ≤ (R.length : Int) := by omega
      clear h1
      have hok := HT1.out.ok y (by simp)
      obtain ⟨_, hgl, hln, hrk, hk⟩ := right_at hok.lies hok.good
      have hk' : (y.x.kind = 9 ∨ y.x.kind = 10) ∨ y.x.kind = 11 ∧ y.x.n = 1 ∨ (y.x.kind ≠ 9 ∧ y.x.kind ≠ 10 ∧ y.x.kind ≠ 11) ∧ y.x.n = 0 := by
        rcases hk with ⟨k1, k2, _, k3⟩ | ⟨_, ⟨k1, k2⟩ | ⟨k1, _⟩ | k1⟩
        · exact .inr (.inr ⟨⟨by omega, by omega, by omega⟩, k3⟩)
        · exact .inr (.inr ⟨⟨by omega, by omega, by omega⟩, k2⟩)
        · exact .inl k1
        · exact .inr (.inl k1)
      have HW := Lib.hid (within_any y.b y.o y.x W hok.cells hok.lies.says.cap hk')
      have HGL := Lib.hid hgl
      have hlen : bs.length + y.e.length ≤ 30000000 := by
        have h5 := congrArg List.length HR1.out
        rw [restT_more, lvRest] at h5
        simp only [List.length_append] at h5
        have := HLen.out
        omega
      have hto := hok.told
      clear hok hgl hk hk'
      go_wp2_with fail
      refine HW.out.mono ?_
      rintro e W2 ⟨⟨A, c, rfl, hnc, hA⟩, hb⟩
      have HT2 := Lib.hid (HT1.out.below hb)
      have HB2 := Lib.hid (HB1.out.trans (hb.mono HB1.out.size))
      have f0 : W2.cell? ⟨g, R.length * 3, none⟩ = some (.pointer (some ⟨y.b, y.o, none⟩)) := (hb.cell (p := ⟨g, R.length * 3, none⟩) hg2).trans e0
      have f1 : W2.cell? ⟨g, R.length * 3 + 1, none⟩ = some (.int .i64 (y.told : Int)) := (hb.cell (p := ⟨g, R.length * 3 + 1, none⟩) hg2).trans e1
      have f2 : W2.cell? ⟨g, R.length * 3 + 2, none⟩ = some (.string (mk y.e)) := (hb.cell (p := ⟨g, R.length * 3 + 2, none⟩) hg2).trans e2
      clear hb HT1 HB1 HW e0 e1 e2 hg2 hfz
      by_cases h2 : y.told = y.x.n
      · have h2i : (y.told : Int) = (y.x.n : Int) := by rw [h2]
        have HR2 : Hid (bs ++ y.e ++ restT R = textR r) := by
          have h5 := HR1.out
          rw [restT_more, lvRest, List.drop_eq_nil_of_le (by omega), textL, List.nil_append, ← List.append_assoc] at h5
          exact h5
        have hls : lsum R < m := by rw [lsum_more] at hsum; unfold lvW at hsum; omega
        clear h2 HR1 hsum hln
        go_wp2_with fail
        refine (writeString_any (w.heap.size + 1) (w.heap.size + 1) bs y.e W2 HT2.out.bld (by omega) (by omega) (by have := HT2.out.sz; omega)).mono ?_
        rintro e W3 ⟨rfl, hw⟩
        have HT3 := Lib.hid (HT2.out.wrote hw).pop
        have HB3 := Lib.hid (HB2.out.trans (hw.2.1.mono (Nat.le_succ _)))
        clear hw f0 f1 f2
        go_wp2
        go_step3
        exact ⟨rfl, _, ⟨R, _, _, HB3.out, HT3.out, HR2.out, rfl, by omega, rfl, rfl, rfl, rfl, rfl, rfl, rfl⟩, hls⟩
      · have hlt : y.told < y.x.n := by omega
        have hlti : (y.told : Int) < (y.x.n : Int) := by omega
        have hne2 : ¬ (y.told : Int) = (y.x.n : Int) := by omega
        have hp2 : (0 : Int) ≤ (y.told : Int) := by omega
        have hok := HT2.out.ok y (by simp)
        have htb : y.told ≤ 4000000 := by have h5 := hok.few; rw [wt_eq] at h5; have := wtL_len y.r.subs; omega
        have hyk := (right_at hok.lies hok.good).2.2.2.1
        obtain ⟨b', o', z, hLe, hSb, hcl, hcy⟩ := hok.lies.says.subs.one hlt
        have hA2 : A = some ⟨b', o', none⟩ := (hA (by omega)).trans hLe
        subst hA2
        have hmem : y.r.subs.getD y.told noRng ∈ y.r.subs := by
          rw [List.getD_eq_getElem?_getD, List.getElem?_eq_getElem (by omega)]; exact List.getElem_mem _
        have hgd := goodL_mem HGL.out hmem
        have hnx := Lib.hid (lvRest_next y (by omega) b' (o' + y.told * 7) (y.d + opens y.r.kind (y.r.subs.getD y.told noRng).kind) z hgd)
        have hwx := Lib.hid (lvW_next y (by omega) b' (o' + y.told * 7) (y.d + opens y.r.kind (y.r.subs.getD y.told noRng).kind) z (shutR y.r.kind (y.r.subs.getD y.told noRng).kind))
        have HQ2 : Hid (LvOk W2 (w.heap.size + 1) ⟨b', o' + y.told * 7, y.r.subs.getD y.told noRng, z, y.d + opens y.r.kind (y.r.subs.getD y.told noRng).kind, 0, shutR y.r.kind (y.r.subs.getD y.told noRng).kind⟩) := ⟨hcl, hSb, hcy, hgd, Nat.zero_le _, by have h5 := hok.few; rw [wt_eq] at h5; have := wt_mem hmem; show wt (y.r.subs.getD y.told noRng) ≤ 4000000; omega⟩
        have hzk : (y.r.subs.getD y.told noRng).kind = z.kind := hcy.says.kind
        have hzv : (y.r.subs.getD y.told noRng).ver = z.v := hcy.says.ver
        have ho0 : W2.cell? ⟨y.b, y.o, none⟩ = some (.int .i64 y.x.kind) := hok.cells.cells.1
        have hz0 : W2.cell? ⟨b', o' + y.told * 7, none⟩ = some (.int .i64 z.kind) := hcl.cells.1
        rw [hyk, hzk] at hnx
        rw [hyk, hzk] at hwx
        rw [hyk, hzk] at HQ2
        rw [hzv] at hnx
        generalize hqd : y.r.subs.getD y.told noRng = q at hnx hwx HQ2 hgd
        clear hqd hmem hgd hcy hcl hok hyk hLe hA h2 hzk hzv hSb
        obtain ⟨AH, hAH⟩ : ∃ l, aheadR y.x.kind z.kind y.told = l := ⟨_, rfl⟩
        obtain ⟨OP, hOP⟩ : ∃ l, openR y.x.kind z.kind = l := ⟨_, rfl⟩
        obtain ⟨MK, hMK⟩ : ∃ l, markR z.kind z.v = l := ⟨_, rfl⟩
        have HAh := Lib.hid (ahead_any g (R.length * 3) y.b y.o y.x.kind z.kind y.told W2 f0 f1 ho0)
        rw [hAH] at hnx
        rw [hAH] at HAh
        rw [hOP, hMK] at hnx
        have HOP := Lib.hid hOP
        have HMK := Lib.hid hMK
        clear hAH hOP hMK
        go_wp2_with fail
        refine HAh.out.mono ?_
        rintro e w' ⟨rfl, rfl⟩
        clear HAh
        have hl4 : bs.length + AH.length + OP.length + MK.length ≤ 30000000 := by
          have h5 := congrArg List.length HR1.out
          rw [restT_more, hnx.out] at h5
          simp only [List.length_append] at h5
          have := HLen.out
          omega
        go_wp2_with fail
        refine (writeString_any (w.heap.size + 1) (w.heap.size + 1) bs AH w' HT2.out.bld (by omega) (by omega) (by have := HT2.out.sz; omega)).mono ?_
        rintro e W3 ⟨rfl, hw⟩
        have HT3 := Lib.hid (HT2.out.wrote hw)
        have HQ3 := Lib.hid (HQ2.out.kept (KeepS.lt hw.2.1))
        have HB3 := Lib.hid (HB2.out.trans (hw.2.1.mono (Nat.le_succ _)))
        clear hw f0 f1 f2 ho0 hz0 HT2 HQ2 HB2
        obtain ⟨_, hg2, f0, f1, f2, hfz⟩ := HT3.out.lastAt
        have hw1 : IntKind.i64.wrap ((y.told : Int) + 1) = ((y.told + 1 : Nat) : Int) := by rw [IntKind.wrap_i64] <;> omega
        go_upto_region 14 with (fail)
        have et : ((y.told + 1 : Nat) : Int) = (y.told : Int) + 1 := by omega
        have HT4 : Hid (TxW w.heap.size (W3.setCell ⟨g, R.length * 3 + 1, none⟩ (.int .i64 ((y.told : Int) + 1))) (.slice (some ⟨g, 0, none⟩) (R.length + 1) cp) (R ++ [{ y with told := y.told + 1 }]) (bs ++ AH)) := by
          have h5 := HT3.out.next (by omega) hg1
          rw [et] at h5
          exact h5
        have hK4 : KeepS (LtB (w.heap.size + 1)) W3 (W3.setCell ⟨g, R.length * 3 + 1, none⟩ (.int .i64 ((y.told : Int) + 1))) := KeepS.set (by unfold LtB; omega) _
        have HQ4 := Lib.hid (HQ3.out.kept hK4)
        have HB4 : Hid (Below w.heap.size w (W3.setCell ⟨g, R.length * 3 + 1, none⟩ (.int .i64 ((y.told : Int) + 1)))) := HB3.out.setCell (show w.heap.size ≤ g by omega) _
        have hgs4 : g < (W3.setCell ⟨g, R.length * 3 + 1, none⟩ (.int .i64 ((y.told : Int) + 1))).heap.size := by simpa using hg2
        clear hK4 HT3 HQ3 HB3 f0 f1 f2 hfz hg2 hw1 et
        generalize W3.setCell ⟨g, R.length * 3 + 1, none⟩ (.int .i64 ((y.told : Int) + 1)) = W4 at HT4 HQ4 HB4 hgs4 ⊢
        have hba : Below W4.heap.size W4 (W4.alloc (.cells #[.pointer (some ⟨b', o' + y.told * 7, none⟩), .int .i64 0, .string ⟨#[]⟩] 78)) := (Below.refl _ _).alloc (Nat.le_refl _) _
        have HT5 := Lib.hid (HT4.out.below hba)
        have HI5 : Hid (Inn w.heap.size (W4.alloc (.cells #[.pointer (some ⟨b', o' + y.told * 7, none⟩), .int .i64 0, .string ⟨#[]⟩] 78)) W4.heap.size b' (o' + y.told * 7) []) := Inn.new _ _ HT4.out.sz
        have HQ5 := Lib.hid (HQ4.out.kept (KeepS.of_below hba))
        have HB5 := Lib.hid (HB4.out.trans (hba.mono HB4.out.size))
        clear hba HT4 HQ4 HB4
        go_upto_region 15 with (fail)
        generalize W4.alloc (.cells #[.pointer (some ⟨b', o' + y.told * 7, none⟩), .int .i64 0, .string ⟨#[]⟩] 78) = W5 at HT5 HI5 HQ5 HB5 ⊢
        generalize hnb : W4.heap.size = nb at HI5 hgs4 ⊢
        clear hnb
        obtain ⟨_, hg5, f0, f1, f2, hfz⟩ := HT5.out.lastAt
        have ho0 := (HT5.out.ok { y with told := y.told + 1 } (by simp)).cells.cells.1
        have hz0 := HQ5.out.cells.cells.1
        simp only at f0 ho0 hz0
        have hbd : Below W5.heap.size W5 W5.drew := (Below.refl W5.heap.size W5).drew
        have HTd := Lib.hid (HT5.out.below hbd)
        have HId := Lib.hid (HI5.out.below hbd)
        have HQd := Lib.hid (HQ5.out.kept (KeepS.of_below hbd))
        have HBd := Lib.hid (HB5.out.trans (hbd.mono HB5.out.size))
        have g0 : W5.drew.cell? ⟨g, R.length * 3, none⟩ = some (.pointer (some ⟨y.b, y.o, none⟩)) := f0
        have go0 : W5.drew.cell? ⟨y.b, y.o, none⟩ = some (.int .i64 y.x.kind) := ho0
        have gz0 : W5.drew.cell? ⟨b', o' + y.told * 7, none⟩ = some (.int .i64 z.kind) := hz0
        clear hbd HT5 HI5 HQ5 HB5 f0 f1 f2 hfz ho0 hz0
        have HFin : Hid (bs ++ AH ++ OP ++ MK ++ restT (R ++ [{ y with told := y.told + 1 }] ++ [⟨b', o' + y.told * 7, q, z, y.d + opens y.x.kind z.kind, 0, shutR y.x.kind z.kind⟩]) = textR r) := by
          have h5 := HR1.out
          rw [restT_more, hnx.out] at h5
          unfold Hid
          rw [restT_more, restT_more, ← h5]
          simp only [List.append_assoc]
        have HMs : Hid (lsum (R ++ [{ y with told := y.told + 1 }] ++ [⟨b', o' + y.told * 7, q, z, y.d + opens y.x.kind z.kind, 0, shutR y.x.kind z.kind⟩]) < m) := by
          unfold Hid
          rw [lsum_more] at hsum
          rw [lsum_more, lsum_more]
          have := hwx.out
          omega
        have HMark : Hid (∀ W e, LvOk W (w.heap.size + 1) ⟨b', o' + y.told * 7, q, z, y.d + opens y.x.kind z.kind, 0, e⟩ → Below w.heap.size w W → Calls Tryz.prog 51 #[z.agg] W fun e w' => e = .returned (.string (mk MK)) ∧ Below W.heap.size W w') := fun W e h hb => by
          have hk := (right_at h.lies h.good).2.2.2.2
          have hs := h.lies.says
          have hkm : z.kind = 0 ∨ (z.kind = 9 ∨ z.kind = 10) ∨ z.kind = 11 ∨ (1 ≤ z.kind ∧ z.kind ≤ 8 ∧ goodV z.v = true) := by
            rcases hk with ⟨k1, k2, k3, _⟩ | ⟨_, ⟨k1, _⟩ | ⟨k1, _⟩ | ⟨k1, _⟩⟩
            · exact .inr (.inr (.inr ⟨k1, k2, k3⟩))
            · exact .inl k1
            · exact .inr (.inl k1)
            · exact .inr (.inr (.inl k1))
          have h5 := mark_any z W hs.pre hs.build hs.cp hs.cb hkm (by rw [HMK.out]; omega) (HT.out.keep (Keep.of_below hb)) (HTab.out.kept hb)
          rw [HMK.out] at h5
          exact h5
        refine wp_region_held_drew (S := fun w' => w' = W5.drew) (by kernel_rfl) rfl (fun hHeld => ?_)
        refine wpAnyH_take (i := 0) (oi := { dst := some 67, op := Op.move (Operand.tmp 5), type := 81, pos := _, after := _, guard := none }) (v := .pointer (some ⟨g, R.length * 3, none⟩)) rfl (by kernel_rfl) (by kernel_rfl) (by kernel_rfl) (fun _ _ _ h => h) (Or.inl ⟨by rfl, fun w' hS' => by go_simp⟩) (by assumption) ?_
        simp only [Act.put, List.setIfInBounds_toArray, List.set_cons_zero, List.set_cons_succ]
        refine wpAnyH_take (i := 1) (oi := { dst := some 68, op := Op.nilCheck (Operand.tmp 67), type := 0, pos := _, after := _, guard := none }) (v := .pointer (some ⟨g, R.length * 3, none⟩)) rfl (by kernel_rfl) (by kernel_rfl) (by kernel_rfl) (fun _ _ _ h => h) (Or.inl ⟨by rfl, fun w' hS' => by go_simp⟩) (by assumption) ?_
        simp only [Act.put, List.setIfInBounds_toArray, List.set_cons_zero, List.set_cons_succ]
        refine wpAnyH_take (i := 2) (oi := { dst := some 69, op := Op.fieldAddr 78 (Operand.tmp 68) 0, type := 0, pos := _, after := _, guard := none }) (v := .pointer (some ⟨g, R.length * 3, none⟩)) rfl (by kernel_rfl) (by kernel_rfl) (by kernel_rfl) (fun _ _ _ h => h) (Or.inl ⟨by rfl, fun w' hS' => by go_simp⟩) (by assumption) ?_
        simp only [Act.put, List.setIfInBounds_toArray, List.set_cons_zero, List.set_cons_succ]
        refine wpAnyH_take (i := 3) (oi := { dst := some 70, op := Op.load 76 (Operand.tmp 69), type := 76, pos := _, after := _, guard := none }) (v := .pointer (some ⟨y.b, y.o, none⟩)) rfl (by kernel_rfl) (by kernel_rfl) (by kernel_rfl) (fun _ _ _ h => h) (Or.inl ⟨by rfl, fun w' hS' => by subst hS'; go_simp⟩) (by assumption) ?_
        simp only [Act.put, List.setIfInBounds_toArray, List.set_cons_zero, List.set_cons_succ]
        refine wpAnyH_take (i := 4) (oi := { dst := some 71, op := Op.nilCheck (Operand.tmp 70), type := 0, pos := _, after := _, guard := none }) (v := .pointer (some ⟨y.b, y.o, none⟩)) rfl (by kernel_rfl) (by kernel_rfl) (by kernel_rfl) (fun _ _ _ h => h) (Or.inl ⟨by rfl, fun w' hS' => by go_simp⟩) (by assumption) ?_
        simp only [Act.put, List.setIfInBounds_toArray, List.set_cons_zero, List.set_cons_succ]
        refine wpAnyH_take (i := 5) (oi := { dst := some 72, op := Op.fieldAddr 28 (Operand.tmp 71) 0, type := 0, pos := _, after := _, guard := none }) (v := .pointer (some ⟨y.b, y.o, none⟩)) rfl (by kernel_rfl) (by kernel_rfl) (by kernel_rfl) (fun _ _ _ h => h) (Or.inl ⟨by rfl, fun w' hS' => by go_simp⟩) (by assumption) ?_
        simp only [Act.put, List.setIfInBounds_toArray, List.set_cons_zero, List.set_cons_succ]
        refine wpAnyH_take (i := 6) (oi := { dst := some 73, op := Op.load 3 (Operand.tmp 72), type := 3, pos := _, after := _, guard := none }) (v := .int .i64 y.x.kind) rfl (by kernel_rfl) (by kernel_rfl) (by kernel_rfl) (fun _ _ _ h => h) (Or.inl ⟨by rfl, fun w' hS' => by subst hS'; go_simp⟩) (by assumption) ?_
        simp only [Act.put, List.setIfInBounds_toArray, List.set_cons_zero, List.set_cons_succ]
        refine wpAnyH_take (i := 7) (oi := { dst := some 74, op := Op.move (Operand.tmp 7), type := 76, pos := _, after := _, guard := none }) (v := .pointer (some ⟨b', o' + y.told * 7, none⟩)) rfl (by kernel_rfl) (by kernel_rfl) (by kernel_rfl) (fun _ _ _ h => h) (Or.inl ⟨by rfl, fun w' hS' => by go_simp⟩) (by assumption) ?_
        simp only [Act.put, List.setIfInBounds_toArray, List.set_cons_zero, List.set_cons_succ]
        refine wpAnyH_take (i := 8) (oi := { dst := some 75, op := Op.nilCheck (Operand.tmp 74), type := 0, pos := _, after := _, guard := none }) (v := .pointer (some ⟨b', o' + y.told * 7, none⟩)) rfl (by kernel_rfl) (by kernel_rfl) (by kernel_rfl) (fun _ _ _ h => h) (Or.inl ⟨by rfl, fun w' hS' => by go_simp⟩) (by assumption) ?_
        simp only [Act.put, List.setIfInBounds_toArray, List.set_cons_zero, List.set_cons_succ]
        refine wpAnyH_take (i := 9) (oi := { dst := some 76, op := Op.fieldAddr 28 (Operand.tmp 75) 0, type := 0, pos := _, after := _, guard := none }) (v := .pointer (some ⟨b', o' + y.told * 7, none⟩)) rfl (by kernel_rfl) (by kernel_rfl) (by kernel_rfl) (fun _ _ _ h => h) (Or.inl ⟨by rfl, fun w' hS' => by go_simp⟩) (by assumption) ?_
        simp only [Act.put, List.setIfInBounds_toArray, List.set_cons_zero, List.set_cons_succ]
        refine wpAnyH_take (i := 10) (oi := { dst := some 77, op := Op.load 3 (Operand.tmp 76), type := 3, pos := _, after := _, guard := none }) (v := .int .i64 z.kind) rfl (by kernel_rfl) (by kernel_rfl) (by kernel_rfl) (fun _ _ _ h => h) (Or.inl ⟨by rfl, fun w' hS' => by subst hS'; go_simp⟩) (by assumption) ?_
        simp only [Act.put, List.setIfInBounds_toArray, List.set_cons_zero, List.set_cons_succ]
        refine wpAnyH_ready (rs := [11]) (by kernel_rfl) (by simp) ?_
        refine AllReadyH.cons (o := { dst := some 78, op := Op.call { callee := Callee.value (Operand.func 55), args := #[Operand.tmp 73, Operand.tmp 77], argTypes := #[3, 3] }, type := 4, pos := _, after := _, guard := none }) rfl (fun K hK => ?_) AllReadyH.nil
        go_simp
        refine (bracketed_any y.x.kind z.kind W5.drew).mono ?_
        rintro e wk1 ⟨rfl, rfl⟩
        have hb := True.intro
        clear hb hHeld
        refine hK.out _ _ rfl (fun hHeld => ?_)
        clear hK K
        try simp only [Act.put, List.setIfInBounds_toArray, List.set_cons_zero, List.set_cons_succ]
        refine wpAnyH_done (by kernel_rfl) ?_ _
        generalize W5.drew = W6 at HTd HId HQd HBd g0 go0 gz0 ⊢
        cases hbr : bracketed y.x.kind z.kind with
        | true =>
          obtain rfl : [40] = OP := by rw [← HOP.out]; unfold openR; rw [if_pos hbr]
          have hsh : shutR y.x.kind z.kind = [41] := by unfold shutR; rw [if_pos hbr]
          rw [hsh] at HQd HFin HMs
          clear hsh hnx hwx
          simp only [List.length_singleton] at hl4
          go_wp2_with fail
          refine (writeString_any (w.heap.size + 1) (w.heap.size + 1) (bs ++ AH) [40] W6 HTd.out.bld (by rw [List.length_append]; omega) (by simp) (by have := HTd.out.sz; omega)).mono ?_
          rintro e W7 ⟨rfl, hw⟩
          have HT7 := Lib.hid (HTd.out.wrote hw)
          have HI7 := Lib.hid (HId.out.wrote HTd.out hw)
          have HQ7 := Lib.hid (HQd.out.kept (KeepS.lt hw.2.1))
          have HB7 := Lib.hid (HBd.out.trans (hw.2.1.mono (Nat.le_succ _)))
          clear hw HTd HId HQd HBd g0 go0 gz0
          obtain ⟨i0, i1, i2, ifz, hnb⟩ := HI7.out.cells
          obtain ⟨s1, s2, s3⟩ := HI7.out.shut [41] HT7.out (by simp [Value.ownBlock]; omega)
          have HI8 := Lib.hid s1
          have HT8 := Lib.hid s2
          have HQ8 := Lib.hid (HQ7.out.kept (KeepS.lt (s3.mono (by omega))))
          have HB8 := Lib.hid (HB7.out.trans (s3.mono (by omega)))
          clear s1 s2 s3 HI7 HT7 HQ7 HB7
          go_upto_region 18 with (fail)
          have e41 : W7.setCell ⟨nb, 2, none⟩ (.string (mk [41])) = W7.setCell ⟨nb, 2, none⟩ (.string ⟨#[41]⟩) := rfl
          rw [e41] at HI8 HT8 HQ8 HB8
          clear e41 i0 i1 i2 ifz hnb
          generalize W7.setCell ⟨nb, 2, none⟩ (.string ⟨#[41]⟩) = W8 at HI8 HT8 HQ8 HB8 ⊢
          obtain ⟨c0, c1, c2, c3, c4, c5, c6⟩ := HQ8.out.cells.cells
          simp only at c0 c1 c2 c3 c4 c5 c6
          go_wp2_with fail
          refine (HMark.out _ _ HQ8.out HB8.out).mono ?_
          rintro e W9 ⟨rfl, hb⟩
          have HT9 := Lib.hid (HT8.out.below hb)
          have HI9 := Lib.hid (HI8.out.below hb)
          have HQ9 := Lib.hid (HQ8.out.kept (KeepS.of_below hb))
          have HB9 := Lib.hid (HB8.out.trans (hb.mono HB8.out.size))
          clear hb HT8 HI8 HQ8 HB8 c0 c1 c2 c3 c4 c5 c6
          go_wp2_with fail
          refine (writeString_any (w.heap.size + 1) (w.heap.size + 1) _ MK W9 HT9.out.bld (by simp only [List.length_append]; first | omega | (simp only [List.length_singleton] at hl4 ⊢; omega)) (by omega) (by have := HT9.out.sz; omega)).mono ?_
          rintro e WA ⟨rfl, hw⟩
          have HTA := Lib.hid (HT9.out.wrote hw)
          have HIA := Lib.hid (HI9.out.wrote HT9.out hw)
          have HQA := Lib.hid (HQ9.out.kept (KeepS.lt hw.2.1))
          have HBA := Lib.hid (HB9.out.trans (hw.2.1.mono (Nat.le_succ _)))
          clear hw HT9 HI9 HQ9 HB9
          obtain ⟨i0, i1, i2, ifz, _⟩ := HIA.out.cells
          have hba : Below WA.heap.size WA (WA.alloc (.cells #[.pointer (some ⟨b', o' + y.told * 7, none⟩), .int .i64 0, .string (mk [41])] 78)) := (Below.refl _ _).alloc (Nat.le_refl _) _
          have HTC := Lib.hid (HTA.out.below hba)
          have HQC := Lib.hid (HQA.out.kept (KeepS.of_below hba))
          have HBC := Lib.hid (HBA.out.trans (hba.mono HBA.out.size))
          clear hba HTA HQA HBA
          go_wp2_with (first
            | (at_builtin; refine wpList_append_lv _ rfl _ _ rfl w.heap.size _ (R ++ [{ y with told := y.told + 1 }]) _ (by first | rfl | (rw [lv_length]; rfl)) HTC.out ⟨WA.heap.size, 0, none⟩ ⟨b', o' + y.told * 7, q, z, y.d + opens y.x.kind z.kind, 0, [41]⟩ rfl (fun j u hu => news_new WA _ _ j u hu) HQC.out (by rw [lv_length]; omega) ?_; intro v' w6 hTn hb6; have HTN := Lib.hid hTn; have HBN := Lib.hid (HBC.out.trans (hb6.mono (by omega))); clear hTn hb6)
            | fail)
          go_step3
          exact ⟨rfl, _, ⟨_, v', _, HBN.out, HTN.out, HFin.out, rfl, Nat.le_trans (Nat.le_of_lt HMs.out) hmm, rfl, rfl, rfl, rfl, rfl, rfl, rfl⟩, HMs.out⟩
        | false =>
          obtain rfl : [] = OP := by rw [← HOP.out]; unfold openR; rw [if_neg (by rw [hbr]; simp)]
          have hsh : shutR y.x.kind z.kind = [] := by unfold shutR; rw [if_neg (by rw [hbr]; simp)]
          rw [hsh] at HQd HFin HMs
          rw [List.append_nil] at HFin
          clear hsh hnx hwx g0 go0 gz0
          simp only [List.length_nil] at hl4
          go_upto_region 18 with (fail)
          obtain ⟨c0, c1, c2, c3, c4, c5, c6⟩ := HQd.out.cells.cells
          simp only at c0 c1 c2 c3 c4 c5 c6
          go_wp2_with fail
          refine (HMark.out _ _ HQd.out HBd.out).mono ?_
          rintro e W9 ⟨rfl, hb⟩
          have HT9 := Lib.hid (HTd.out.below hb)
          have HI9 := Lib.hid (HId.out.below hb)
          have HQ9 := Lib.hid (HQd.out.kept (KeepS.of_below hb))
          have HB9 := Lib.hid (HBd.out.trans (hb.mono HBd.out.size))
          clear hb HTd HId HQd HBd c0 c1 c2 c3 c4 c5 c6
          go_wp2_with fail
          refine (writeString_any (w.heap.size + 1) (w.heap.size + 1) _ MK W9 HT9.out.bld (by simp only [List.length_append]; first | omega | (simp only [List.length_singleton] at hl4 ⊢; omega)) (by omega) (by have := HT9.out.sz; omega)).mono ?_
          rintro e WA ⟨rfl, hw⟩
          have HTA := Lib.hid (HT9.out.wrote hw)
          have HIA := Lib.hid (HI9.out.wrote HT9.out hw)
          have HQA := Lib.hid (HQ9.out.kept (KeepS.lt hw.2.1))
          have HBA := Lib.hid (HB9.out.trans (hw.2.1.mono (Nat.le_succ _)))
          clear hw HT9 HI9 HQ9 HB9
          obtain ⟨i0, i1, i2, ifz, _⟩ := HIA.out.cells
          have hba : Below WA.heap.size WA (WA.alloc (.cells #[.pointer (some ⟨b', o' + y.told * 7, none⟩), .int .i64 0, .string (mk [])] 78)) := (Below.refl _ _).alloc (Nat.le_refl _) _
          have HTC := Lib.hid (HTA.out.below hba)
          have HQC := Lib.hid (HQA.out.kept (KeepS.of_below hba))
          have HBC := Lib.hid (HBA.out.trans (hba.mono HBA.out.size))
          clear hba HTA HQA HBA
          go_wp2_with (first
            | (at_builtin; refine wpList_append_lv _ rfl _ _ rfl w.heap.size _ (R ++ [{ y with told := y.told + 1 }]) _ (by first | rfl | (rw [lv_length]; rfl)) HTC.out ⟨WA.heap.size, 0, none⟩ ⟨b', o' + y.told * 7, q, z, y.d + opens y.x.kind z.kind, 0, []⟩ rfl (fun j u hu => news_new WA _ _ j u hu) HQC.out (by rw [lv_length]; omega) ?_; intro v' w6 hTn hb6; have HTN := Lib.hid hTn; have HBN := Lib.hid (HBC.out.trans (hb6.mono (by omega))); clear hTn hb6)
            | fail)
          go_step3
          exact ⟨rfl, _, ⟨_, v', _, HBN.out, HTN.out, HFin.out, rfl, Nat.le_trans (Nat.le_of_lt HMs.out) hmm, rfl, rfl, rfl, rfl, rfl, rfl, rfl⟩, HMs.out⟩
  · intro HP
    obtain ⟨g1, g2, c0, c1, c2, c3, c4, c5, c6⟩ := HRx.out
    have hgr := right_at HX.out HG.out
    have hba : Below W1.heap.size W1 (W1.alloc (.cells #[.pointer none, .slice none 0 0] 71)) := (Below.refl _ _).alloc (Nat.le_refl _) _
    have HB2 := Lib.hid (HBa.out.trans (hba.mono HBa.out.size))
    have HL2 := Lib.hid (Bld.new W1 (w.heap.size + 1) (by rw [HSz.out]; exact Nat.le_refl _))
    rw [HSz.out] at HL2
    have HR2 : Hid (RAt (W1.alloc (.cells #[.pointer none, .slice none 0 0] 71)) w.heap.size x) := HRx.out.kept hba g1
    have HZ2 : Hid ((W1.alloc (.cells #[.pointer none, .slice none 0 0] 71)).heap.size = w.heap.size + 2) := by rw [Hid, size_alloc, HSz.out]
    have hsz := HSz.out
    clear hba
    go_upto_region 2 with (fail)
    clear c0 c1 c2 c3 c4 c5 c6 g1 g2 HRx HBa HSz hsz
    generalize W1.alloc (.cells #[.pointer none, .slice none 0 0] 71) = W2 at HB2 HL2 HR2 HZ2 ⊢
    obtain ⟨g1, g2, c0, c1, c2, c3, c4, c5, c6⟩ := HR2.out
    obtain ⟨_, _, hln, hrk, hk⟩ := hgr
    have hs := HX.out.says
    have htx := text_good HG.out
    rw [hrk, hs.ver] at htx
    have hkm : x.kind = 0 ∨ (x.kind = 9 ∨ x.kind = 10) ∨ x.kind = 11 ∨ (1 ≤ x.kind ∧ x.kind ≤ 8 ∧ goodV x.v = true) := by
      rcases hk with ⟨k1, k2, k3, _⟩ | ⟨_, ⟨k1, _⟩ | ⟨k1, _⟩ | ⟨k1, _⟩⟩
      · exact .inr (.inr (.inr ⟨k1, k2, k3⟩))
      · exact .inl k1
      · exact .inr (.inl k1)
      · exact .inr (.inr (.inl k1))
    have hml : (markR x.kind x.v).length ≤ 30000000 := by
      have := HLen.out
      rw [htx, List.length_append] at this
      omega
    have HTX := Lib.hid htx
    have hml2 : (markR x.kind x.v).length ≤ 100000000 := by omega
    have HMk := Lib.hid (mark_any x W2 (hs.pre.kept HB2.out) (hs.build.kept HB2.out) hs.cp hs.cb hkm hml2 (HT.out.keep (Keep.of_below HB2.out)) (HTab.out.kept HB2.out))
    clear htx hk hkm hs hml2
    generalize markR x.kind x.v = MK at HTX HMk hml
    go_wp2_with fail
    refine HMk.out.mono ?_
    rintro e W3 ⟨rfl, hb⟩
    have HB3 := Lib.hid (HB2.out.trans (hb.mono HB2.out.size))
    have HL3 := Lib.hid (HL2.out.kept hb)
    have HR3 : Hid (RAt W3 w.heap.size x) := HR2.out.kept hb (by rw [HZ2.out]; omega)
    have hz3 : w.heap.size + 2 ≤ W3.heap.size := by have := hb.size; rw [HZ2.out] at this; exact this
    clear hb HB2 HL2 HR2 HZ2 HMk c0 c1 c2 c3 c4 c5 c6 g1 g2
    go_wp2_with fail
    refine (writeString_any (w.heap.size + 1) (w.heap.size + 1) [] MK W3 HL3.out (Nat.zero_le _) (by omega) (by omega)).mono ?_
    rintro e W4 ⟨rfl, hw⟩
    have HB4 := Lib.hid (HB3.out.trans (hw.2.1.mono (Nat.le_succ _)))
    have HL4 := Lib.hid hw.1
    have HR4 : Hid (RAt W4 w.heap.size x) := HR3.out.kept hw.2.1 (Nat.lt_succ_self _)
    have hz4 : w.heap.size + 2 ≤ W4.heap.size := Nat.le_trans hz3 hw.2.1.size
    clear hw HB3 HL3 HR3 hz3
    go_wp2
    go_step3
    rename_i hK
    have hba : Below W4.heap.size W4 (W4.alloc (.cells #[.pointer (some ⟨w.heap.size, 0, none⟩), .int .i64 0, .string ⟨#[]⟩] 78)) := (Below.refl _ _).alloc (Nat.le_refl _) _
    have HB5 := Lib.hid (HB4.out.trans (hba.mono HB4.out.size))
    obtain ⟨g1, g2, c0, c1, c2, c3, c4, c5, c6⟩ := HR4.out.kept hba (by omega)
    have HX5 : Hid (Lies (W4.alloc (.cells #[.pointer (some ⟨w.heap.size, 0, none⟩), .int .i64 0, .string ⟨#[]⟩] 78)) (LtB (w.heap.size + 1)) r x) := (HX.out.keep (KeepS.lt HB5.out)).mono fun g hg _ => Nat.lt_succ_of_lt hg
    refine hK _ _ (HP.out (lsum [⟨w.heap.size, 0, r, x, 0, 0, []⟩]) _ _ ⟨[⟨w.heap.size, 0, r, x, 0, 0, []⟩], _, [] ++ MK, HB5.out, ⟨World.ownsRow_lit (base := w.heap.size + 2) (e := 78) (size := 3) W4 #[.pointer (some ⟨w.heap.size, 0, none⟩), .int .i64 0, .string ⟨#[]⟩] 1 hz4 (by decide) rfl, HL4.out.kept hba, ?_, Nat.le_trans hz4 hba.size⟩, ?_, rfl, ?_, rfl, rfl, rfl, rfl, rfl, rfl, rfl⟩)
    · intro y hy
      rw [List.mem_singleton] at hy
      subst hy
      exact ⟨CellsAt.of c0 c1 c2 c3 c4 c5 c6, Nat.lt_succ_self _, HX5.out, HG.out, Nat.zero_le _, by show wt r ≤ 4000000; omega⟩
    · rw [HTX.out]
      simp [restT, lvRest, hrk]
    · simp only [lsum, lvW, List.drop_zero]
      rw [wt_eq] at hm
      omega
end Go.Proofs.YtgfbflnhjpbceaaGreatDoor.Range

namespace Go.Proofs.YtgfbflnhjpbceaaGreatDoor.Nrm
open Go.RowKit Num Ident Semver Prec Span
open Range (Rng noRng goodR goodL fits wt wtL RV RAt OpsTab Keep KeepS LtB zeroRV)
set_option maxRecDepth 100000 in
set_option maxHeartbeats 3200000 in
theorem awake_any (w : World) (htab : Tab w) (ht : OpsTab w) :
    Calls Tryz.prog 8 #[] w fun e w' => e = .returned (.bool true) ∧ Below w.heap.size w w' := by
  have HT := Lib.hid ht
  have HTab := Lib.hid htab
  clear ht htab
  have HK := Lib.hid exA_read
  go_enter Tryz.func8, Tryz.ntmps8
  go_wp2_with fail
  refine (Range.read_any ⟨#[94, 49, 46, 50, 46, 48, 44, 32, 33, 61, 49, 46, 51, 46, 48]⟩ _ (by decide) HT.out).mono ?_
  rw [show (⟨#[94, 49, 46, 50, 46, 48, 44, 32, 33, 61, 49, 46, 51, 46, 48]⟩ : ByteArray).data.toList = exA from rfl, HK.out]
  generalize hr : rA = r
  rintro e V1 ⟨x, rfl, lx, hb⟩
  unfold RV.agg
  simp only at lx ⊢
  have HB2 : Hid (Below w.heap.size w (V1.alloc (.cells #[.int .i64 x.kind, .int .u64 (x.v.a : Int), .int .u64 (x.v.b : Int), .int .u64 (x.v.c : Int), .slice x.A x.v.pre.length x.c, .slice x.B x.v.build.length x.d, .slice x.L x.n x.e] 28))) := hb.alloc hb.size _
  have HX2 : Hid (Range.Lies (V1.alloc (.cells #[.int .i64 x.kind, .int .u64 (x.v.a : Int), .int .u64 (x.v.b : Int), .int .u64 (x.v.c : Int), .slice x.A x.v.pre.length x.c, .slice x.B x.v.build.length x.d, .slice x.L x.n x.e] 28)) (LtB (V1.alloc (.cells #[.int .i64 x.kind, .int .u64 (x.v.a : Int), .int .u64 (x.v.b : Int), .int .u64 (x.v.c : Int), .slice x.A x.v.pre.length x.c, .slice x.B x.v.build.length x.d, .slice x.L x.n x.e] 28)).heap.size) r x) := (lx.keep (KeepS.alloc _ _)).mono fun _ _ h => h
  have HR2 : Hid (RAt (V1.alloc (.cells #[.int .i64 x.kind, .int .u64 (x.v.a : Int), .int .u64 (x.v.b : Int), .int .u64 (x.v.c : Int), .slice x.A x.v.pre.length x.c, .slice x.B x.v.build.length x.d, .slice x.L x.n x.e] 28)) V1.heap.size x) := RAt.new V1 _ x
  clear hb lx
  go_upto_region 2 with (fail)
  generalize V1.alloc (.cells #[.int .i64 x.kind, .int .u64 (x.v.a : Int), .int .u64 (x.v.b : Int), .int .u64 (x.v.c : Int), .slice x.A x.v.pre.length x.c, .slice x.B x.v.build.length x.d, .slice x.L x.n x.e] 28) = V2 at HB2 HX2 HR2 ⊢
  obtain ⟨y1, y2, c0, c1, c2, c3, c4, c5, c6⟩ := HR2.out
  go_wp2_with fail
  refine (simple_any r x V2.heap.size V2 HX2.out (Nat.le_refl _) (by rw [← hr]; exact Range.LenOk.of_wt 3 _ (by decide) (by decide)) (fun _ => by rw [← hr]; decide)).mono ?_
  rintro e V3 ⟨y, s, rfl, ly, hb, hs⟩
  have HS : Hid (s = plainR oA) := by
    refine Lib.hid ?_
    rcases hs with ⟨hg, o, ho, _, he⟩ | ⟨hg, _⟩
    · rw [he]
      rw [← hr] at ho
      rw [ho.one oA_set]
    · rw [← hr, rA_good] at hg; cases hg
  have HB3 := Lib.hid (HB2.out.trans (hb.mono HB2.out.size))
  have HY3 : Hid (Range.Lies V3 (LtB V3.heap.size) s y) := ly.mono fun _ _ h => h
  clear hb ly hs HX2 HR2 HB2 y1 y2 c0 c1 c2 c3 c4 c5 c6
  have hs := HS.out
  subst hs
  unfold RV.agg
  go_wp2_with fail
  refine (Range.text_any (plainR oA) y V3.heap.size V3 HY3.out (Nat.le_refl _) (plain_good oA_norm) (by decide) (by rw [oA_text]; decide) (HT.out.keep (Keep.of_below HB3.out)) (HTab.out.kept HB3.out)).mono ?_
  rw [oA_text]
  rintro e V4 ⟨rfl, hb⟩
  have HB4 := Lib.hid (HB3.out.trans (hb.mono HB3.out.size))
  clear hb
  have hq : ((mk exT).toList == [62, 61, 49, 46, 50, 46, 48, 44, 32, 60, 50, 46, 48, 46, 48, 45, 48, 44, 32, 33, 61, 49, 46, 51, 46, 48]) = true := by rw [Lib.toList_data]; decide
  go_wp2
  go_ret
  exact ⟨rfl, HB4.out⟩
end Go.Proofs.YtgfbflnhjpbceaaGreatDoor.Nrm

namespace Go.Proofs.YtgfbflnhjpbceaaGreatDoor.Num
open Go.RowKit

set_option maxRecDepth 100000 in
set_option maxHeartbeats 800000 in
theorem ref_is_any (s : ByteArray) (w : World) (hs : s.size ≤ 1000000) :
    Calls Tryz.prog 121 #[.string s] w fun e w' => e = .returned (.bool (isNum s.data.toList)) ∧ w = w' := by
  have LS := Lib.hid (Lib.size_eq s)
  go_enter Tryz.func121, Tryz.ntmps121
  go_wp2
  go_loop [3] (fun t => ∃ k : Nat, k ≤ s.size ∧ t = .int .i64 k ∧ Hid (∀ j, j < k → isDig (s.data.toList.getD j 0) = true)) (fun t => s.size - (intOf t).toNat)
  case atStart => exact ⟨0, by omega, rfl, fun j h => by omega⟩
  case round =>
    obtain ⟨k, hk, rfl, HD⟩ := hrel
    by_cases hlt : k < s.size
    · have HX := Lib.hid (at_text s k hlt)
      have HI := Lib.hid (isDig_at s.data.toList k)
      have HN : Hid (¬ (48 ≤ (s[k].toNat : Int) ∧ (s[k].toNat : Int) ≤ 57) → isNum s.data.toList = false) := fun hn => (isNum_no _).2 fun hh => hn (by
        have := run_dig s.data.toList k (by rw [hh.2.1, ← LS.out]; exact hlt)
        rw [HI.out, ← HX.out] at this; exact this)
      by_cases h1 : 48 ≤ (s[k].toNat : Int)
      · by_cases h2 : (s[k].toNat : Int) ≤ 57
        · go_wp2
          go_round
          case rel =>
            refine ⟨k + 1, by omega, by go_num, fun j hj => ?_⟩
            rcases Nat.lt_or_ge j k with hj1 | hj1
            · exact HD.out j hj1
            · obtain rfl : j = k := by omega
              exact HI.out.2 (by rw [← HX.out]; exact ⟨h1, h2⟩)
          case measure => simp [intOf]; omega
        · go_wp2
          go_ret
          exact ⟨by rw [HN.out (by omega)]; rfl, rfl⟩
      · go_wp2
        go_ret
        exact ⟨by rw [HN.out (by omega)]; rfl, rfl⟩
    · obtain rfl : k = s.size := by omega
      have HR : Hid (run s.data.toList = s.data.toList.length) := run_stop _ _ (Nat.le_refl _) (by rw [← LS.out]; exact HD.out) (.inl rfl)
      by_cases hz : s.toList = [48]
      · have hb : (s.toList == [48]) = true := by rw [hz]; rfl
        have HF : Hid (isNum s.data.toList = true) := by
          rw [Lib.toList_data] at hz
          unfold Hid; rw [hz]; decide
        have HZ := Lib.hid hz; clear hz
        go_wp2
        go_ret
        exact ⟨by rw [HF.out]; rfl, rfl⟩
      · have hb : (s.toList == [48]) = false := by simpa using hz
        by_cases h0 : s.size = 0
        · have hem : s.toList.isEmpty = true := by rw [Lib.toList_data, List.isEmpty_iff_length_eq_zero, ← LS.out]; exact h0
          have hem2 : (!s.toList.isEmpty) = false := by rw [hem]; rfl
          have HF : Hid (isNum s.data.toList = false) := (isNum_no _).2 fun hh => by have := hh.1; rw [← LS.out] at this; omega
          have H0 := Lib.hid h0; clear h0
          go_wp2
          go_ret
          exact ⟨by rw [HF.out]; rfl, rfl⟩
        · have hem : s.toList.isEmpty = false := by rw [Lib.toList_data, ← Bool.not_eq_true, List.isEmpty_iff_length_eq_zero, ← LS.out]; exact h0
          have hem2 : (!s.toList.isEmpty) = true := by rw [hem]; rfl
          have HP : Hid (∀ h : 0 < s.size, isNum s.data.toList = ((s[0].toNat : Int) != 48)) := by
            intro h
            have e := at_text s 0 h
            rw [Bool.eq_iff_iff, isNum_iff, bne_iff_ne, pad_no, HR.out]
            unfold byteAt at e
            rw [e]
            constructor
            · rintro ⟨_, _, hp⟩ h48
              have h48' : (s.data.toList.getD 0 0).toNat = 48 := by omega
              by_cases h1 : 1 < s.data.toList.length
              · exact hp ⟨h1, h48'⟩
              · apply hz
                rw [Lib.toList_data]
                have hl : s.data.toList.length = 1 := by have := LS.out; omega
                obtain ⟨b, hb1⟩ := List.length_eq_one_iff.1 hl
                rw [hb1] at h48' ⊢
                have : b = 48 := UInt8.toNat_inj.1 (by simpa using h48')
                rw [this]
            · intro h48
              exact ⟨by have := LS.out; omega, rfl, fun hh => h48 (by have := hh.2; omega)⟩
          have HZ := Lib.hid hz; clear hz
          go_wp2
          go_ret
          exact ⟨by rw [HP.out (by omega)]; rfl, rfl⟩
end Go.Proofs.YtgfbflnhjpbceaaGreatDoor.Num

namespace Go.Proofs.YtgfbflnhjpbceaaGreatDoor.Ident
open Go.RowKit Num

theorem idB_yes1 {x : Int} (h : 48 ≤ x ∧ x ≤ 57) : idB x = true := by unfold idB; rw [digB_yes h]; rfl
theorem idB_yes2 {x : Int} (h : (65 ≤ x ∧ x ≤ 90) ∨ (97 ≤ x ∧ x ≤ 122)) : idB x = true := by unfold idB; rw [letB_yes h]; simp
theorem idB_yes3 : idB 45 = true := by decide
theorem idB_no {x : Int} (h1 : ¬ (48 ≤ x ∧ x ≤ 57)) (h2 : ¬ ((65 ≤ x ∧ x ≤ 90) ∨ (97 ≤ x ∧ x ≤ 122))) (h3 : x ≠ 45) : idB x = false := by
  unfold idB; rw [digB_no h1, letB_no h2]; simp [h3]

set_option maxRecDepth 100000 in
set_option maxHeartbeats 800000 in
theorem ref_byte_any (x : Int) (w : World) (h0 : 0 ≤ x) (h1 : x ≤ 255) :
    Calls Tryz.prog 94 #[.int .u8 x] w fun e w' => e = .returned (.bool (idB x)) ∧ w = w' := by
  by_cases ha : 48 ≤ x
  · by_cases hb : x ≤ 57
    · have HF := Lib.hid (idB_yes1 ⟨ha, hb⟩)
      go_enter Tryz.func94, Tryz.ntmps94
      go_wp2
      go_ret
      exact ⟨by rw [HF.out]; rfl, rfl⟩
    · have h45 : (x == 45) = false := by simp; omega
      by_cases hc : 65 ≤ x
      · by_cases hd : x ≤ 90
        · have HF := Lib.hid (idB_yes2 (.inl ⟨hc, hd⟩))
          go_enter Tryz.func94, Tryz.ntmps94
          go_wp2
          go_ret
          exact ⟨by rw [HF.out]; rfl, rfl⟩
        · by_cases he : 97 ≤ x
          · by_cases hf : x ≤ 122
            · have HF := Lib.hid (idB_yes2 (.inr ⟨he, hf⟩))
              go_enter Tryz.func94, Tryz.ntmps94
              go_wp2
              go_ret
              exact ⟨by rw [HF.out]; rfl, rfl⟩
            · have HF := Lib.hid (idB_no (x := x) (by omega) (by omega) (by omega))
              go_enter Tryz.func94, Tryz.ntmps94
              go_wp2
              go_ret
              exact ⟨by rw [HF.out]; rfl, rfl⟩
          · have HF := Lib.hid (idB_no (x := x) (by omega) (by omega) (by omega))
            go_enter Tryz.func94, Tryz.ntmps94
            go_wp2
            go_ret
            exact ⟨by rw [HF.out]; rfl, rfl⟩
      · have he : ¬ 97 ≤ x := by omega
        have HF := Lib.hid (idB_no (x := x) (by omega) (by omega) (by omega))
        go_enter Tryz.func94, Tryz.ntmps94
        go_wp2
        go_ret
        exact ⟨by rw [HF.out]; rfl, rfl⟩
  · have hc : ¬ 65 ≤ x := by omega
    have he : ¬ 97 ≤ x := by omega
    by_cases h45 : x = 45
    · subst h45
      have HF := Lib.hid idB_yes3
      clear ha hc he h0 h1
      go_enter Tryz.func94, Tryz.ntmps94
      go_wp2
      go_ret
      exact ⟨by rw [HF.out]; rfl, rfl⟩
    · have HF := Lib.hid (idB_no (x := x) (by omega) (by omega) h45)
      have hb45 : (x == 45) = false := by simp [h45]
      clear h45
      go_enter Tryz.func94, Tryz.ntmps94
      go_wp2
      go_ret
      exact ⟨by rw [HF.out]; rfl, rfl⟩

set_option maxRecDepth 100000 in
set_option maxHeartbeats 800000 in
theorem ref_numeric_any (s : ByteArray) (w : World) (hs : s.size ≤ 1000000) :
    Calls Tryz.prog 120 #[.string s] w fun e w' => e = .returned (.bool (numeric s.data.toList)) ∧ w = w' := by
  have LS := Lib.hid (Lib.size_eq s)
  go_enter Tryz.func120, Tryz.ntmps120
  go_wp2
  go_loop [3] (fun t => ∃ k : Nat, k ≤ s.size ∧ t = .int .i64 k ∧ Hid (∀ j, j < k → isDig (s.data.toList.getD j 0) = true)) (fun t => s.size - (intOf t).toNat)
  case atStart => exact ⟨0, by omega, rfl, fun j h => by omega⟩
  case round =>
    obtain ⟨k, hk, rfl, HD⟩ := hrel
    by_cases hlt : k < s.size
    · have HX := Lib.hid (at_text s k hlt)
      have HI := Lib.hid (isDig_at s.data.toList k)
      have HN : Hid (¬ (48 ≤ (s[k].toNat : Int) ∧ (s[k].toNat : Int) ≤ 57) → numeric s.data.toList = false) := fun hn => (numeric_no _).2 fun hh => hn (by
        have := run_dig s.data.toList k (by rw [hh.2, ← LS.out]; exact hlt)
        rw [HI.out, ← HX.out] at this; exact this)
      by_cases h1 : 48 ≤ (s[k].toNat : Int)
      · by_cases h2 : (s[k].toNat : Int) ≤ 57
        · go_wp2
          go_round
          case rel =>
            refine ⟨k + 1, by omega, by go_num, fun j hj => ?_⟩
            rcases Nat.lt_or_ge j k with hj1 | hj1
            · exact HD.out j hj1
            · obtain rfl : j = k := by omega
              exact HI.out.2 (by rw [← HX.out]; exact ⟨h1, h2⟩)
          case measure => simp [intOf]; omega
        · go_wp2
          go_ret
          exact ⟨by rw [HN.out (by omega)]; rfl, rfl⟩
      · go_wp2
        go_ret
        exact ⟨by rw [HN.out (by omega)]; rfl, rfl⟩
    · obtain rfl : k = s.size := by omega
      have HR : Hid (run s.data.toList = s.data.toList.length) := run_stop _ _ (Nat.le_refl _) (by rw [← LS.out]; exact HD.out) (.inl rfl)
      by_cases h0 : s.size = 0
      · have hem := (empty_iff s).2 h0
        have hem2 : (!s.toList.isEmpty) = false := by rw [hem]; rfl
        have HF : Hid (numeric s.data.toList = false) := (numeric_no _).2 fun hh => by have := hh.1; rw [← LS.out] at this; omega
        have H0 := Lib.hid h0; clear h0
        go_wp2
        go_ret
        exact ⟨by rw [HF.out]; rfl, rfl⟩
      · have hem := (empty_no s).2 h0
        have hem2 : (!s.toList.isEmpty) = true := by rw [hem]; rfl
        have HF : Hid (numeric s.data.toList = true) := (numeric_iff _).2 ⟨by rw [← LS.out]; omega, HR.out⟩
        go_wp2
        go_ret
        exact ⟨by rw [HF.out]; rfl, rfl⟩

set_option maxRecDepth 100000 in
set_option maxHeartbeats 800000 in
theorem wrong_all (s : ByteArray) (i : Nat) (pre : Bool) (w : World) (hs : s.size ≤ maxLen) (hi : i ≤ maxLen) :
    Calls Tryz.prog 93 #[.string s, .int .i64 i, .bool pre] w fun e w' => e = .returned (.int .i64 (fault s.data.toList i pre)) ∧ w = w' := by
  unfold maxLen at hs hi
  have HL := Lib.hid (Lib.size_eq s)
  by_cases h0 : s.size = 0
  · have HF := Lib.hid (fault_5 (s := s.data.toList) i pre (by rw [← HL.out]; exact h0))
    have hem := (empty_iff s).2 h0
    have H0 := Lib.hid h0; clear h0
    go_enter Tryz.func93, Tryz.ntmps93
    go_wp2
    go_ret
    exact ⟨by rw [HF.out]; rfl, rfl⟩
  · have hem := (empty_no s).2 h0
    have H0 : Hid (s.data.toList.length ≠ 0) := by unfold Hid; rw [← HL.out]; exact h0
    clear h0
    by_cases h1 : 255 < s.size
    · have HF := Lib.hid (fault_4 (s := s.data.toList) (i := i) pre H0.out (.inl (by rw [← HL.out]; exact h1)))
      go_enter Tryz.func93, Tryz.ntmps93
      go_wp2
      go_ret
      exact ⟨by rw [HF.out]; rfl, rfl⟩
    · have HS : Hid (s.size ≤ 1000000) := by unfold Hid; omega
      by_cases h2 : 15 < i
      · have HF := Lib.hid (fault_4 (s := s.data.toList) (i := i) pre H0.out (.inr h2))
        go_enter Tryz.func93, Tryz.ntmps93
        go_wp2
        go_ret
        exact ⟨by rw [HF.out]; rfl, rfl⟩
      · have H12 : Hid (¬ (255 < s.data.toList.length ∨ 16 ≤ i)) := by unfold Hid; rw [← HL.out]; omega
        cases pre
        · have HF := Lib.hid (fault_0 (s := s.data.toList) (i := i) (pre := false) H0.out H12.out (by simp))
          go_enter Tryz.func93, Tryz.ntmps93
          go_wp2
          go_ret
          exact ⟨by rw [HF.out]; rfl, rfl⟩
        · cases h3 : numeric s.data.toList
          · have HF := Lib.hid (fault_0 (s := s.data.toList) (i := i) (pre := true) H0.out H12.out (by simp [h3]))
            have H3 := Lib.hid h3; clear h3
            go_enter Tryz.func93, Tryz.ntmps93
            go_wp2_with fail
            refine (ref_numeric_any s _ HS.out).mono ?_
            rintro e w' ⟨rfl, rfl⟩
            rw [H3.out]
            go_wp2
            go_ret
            exact ⟨by rw [HF.out]; rfl, rfl⟩
          · have HF : Hid (fault s.data.toList i true = if isNum s.data.toList = true then 0 else 3) := by
              unfold Hid
              cases h4 : isNum s.data.toList
              · exact fault_3 H0.out H12.out ⟨rfl, h3, h4⟩
              · exact fault_0 H0.out H12.out (by simp [h4])
            have H3 := Lib.hid h3; clear h3
            cases h4 : isNum s.data.toList
            · have H4 := Lib.hid h4; clear h4
              go_enter Tryz.func93, Tryz.ntmps93
              go_wp2_with fail
              refine (ref_numeric_any s _ HS.out).mono ?_
              rintro e w' ⟨rfl, rfl⟩
              rw [H3.out]
              go_wp2_with fail
              refine (ref_is_any s _ HS.out).mono ?_
              rintro e w1 ⟨rfl, rfl⟩
              rw [H4.out]
              go_wp2
              go_ret
              exact ⟨by rw [HF.out, H4.out]; rfl, rfl⟩
            · have H4 := Lib.hid h4; clear h4
              go_enter Tryz.func93, Tryz.ntmps93
              go_wp2_with fail
              refine (ref_numeric_any s _ HS.out).mono ?_
              rintro e w' ⟨rfl, rfl⟩
              rw [H3.out]
              go_wp2_with fail
              refine (ref_is_any s _ HS.out).mono ?_
              rintro e w1 ⟨rfl, rfl⟩
              rw [H4.out]
              go_wp2
              go_ret
              exact ⟨by rw [HF.out, H4.out]; rfl, rfl⟩

end Go.Proofs.YtgfbflnhjpbceaaGreatDoor.Ident

namespace Go.Proofs.YtgfbflnhjpbceaaGreatDoor.Ident
open Go.RowKit Num

theorem lead_no {x : List UInt8} {j : Nat} (hj : j < x.length) (h : isId (x.getD j 0) = false) : lead x ≠ x.length := by
  intro e
  have := lead_full.1 e (x.getD j 0) (by simp [List.getD, List.getElem?_eq_getElem hj])
  rw [h] at this; cases this
theorem lead_yes {x : List UInt8} (h : ∀ j, j < x.length → isId (x.getD j 0) = true) : lead x = x.length :=
  lead_stop x x.length (Nat.le_refl _) h (.inl rfl)
set_option maxRecDepth 100000 in
set_option maxHeartbeats 1600000 in
theorem ref_good_all (A : Option Addr) (n c : Nat) (xs : List (List UInt8)) (pre : Bool) (w : World) (hr : SRow w A n xs) (hn : n ≤ maxLen) (hs : ∀ x ∈ xs, x.length ≤ maxLen) :
    Calls Tryz.prog 57 #[.slice A n c, .bool pre] w fun e w' => e = .returned (.bool (goodFrom pre xs 0)) ∧ w = w' := by
  have HR := Lib.hid hr
  have HL := Lib.hid hr.1
  have HS := Lib.hid hs
  have HM := Lib.hid hn
  unfold maxLen at hn
  clear hr hs
  go_enter Tryz.func57, Tryz.ntmps57
  go_wp2
  go_loop [5] (fun i => ∃ k : Nat, k ≤ n ∧ i = .int .i64 k ∧ Hid (goodFrom pre (xs.drop k) k = goodFrom pre xs 0)) (fun i => n - (intOf i).toNat)
  case atStart => exact ⟨0, Nat.zero_le _, rfl, rfl⟩
  case round =>
    obtain ⟨k, hk, rfl, HG⟩ := hrel
    by_cases hlt : k < n
    · obtain ⟨b, o, rfl, hb, hcell⟩ := HR.out.2 (by omega)
      have hx := hcell k hlt
      clear hcell
      have HKL : Hid (k < xs.length) := by unfold Hid; rw [HL.out]; exact hlt
      have hlx : (xs.getD k []).length ≤ maxLen := HS.out _ (by have h := HKL.out; simp [List.getD, List.getElem?_eq_getElem h])
      have HST := Lib.hid (fun h1 h2 => goodFrom_step (pre := pre) HKL.out h1 h2)
      have HSP := Lib.hid (fun h => goodFrom_stop (pre := pre) HKL.out h)
      generalize xs.getD k [] = s at hx hlx HST HSP
      go_wp2_with fail
      refine (wrong_all (mk s) k pre _ (by rw [mk_size]; exact hlx) (by unfold maxLen; omega)).mono ?_
      rw [mk_list]
      rintro e w' ⟨rfl, rfl⟩
      have HFP : Hid (fault s k pre = 0 → s.length ≤ 255) := fun h => (fault_pos h).2.1
      generalize fault s k pre = f at HST HSP HFP
      by_cases hf0 : f = 0
      · subst hf0
        have HST2 := Lib.hid (HST.out rfl)
        clear HST
        have hz : (mk s).size ≤ 300 := Nat.le_trans (HFP.out rfl) (by omega)
        clear hlx HFP
        go_wp2
        go_loop [6] (fun j => ∃ m : Nat, m ≤ (mk s).size ∧ j = .int .i64 m ∧ Hid (∀ j, j < m → isId (s.getD j 0) = true)) (fun j => (mk s).size - (intOf j).toNat)
        case atStart => exact ⟨0, Nat.zero_le _, rfl, fun j hj => by omega⟩
        case round =>
          obtain ⟨m, hm, rfl, HD⟩ := hrel
          by_cases hml : m < (mk s).size
          · have HX := Lib.hid (at_text (mk s) m hml)
            have hbd := byteAt_bd s m
            have HI : Hid (isId (s.getD m 0) = idB (byteAt s m)) := (idB_at _).symm
            rw [mk_list] at HX
            rw [← HX.out] at hbd HI
            obtain ⟨hx0, hx1⟩ := hbd
            go_wp2_with fail
            refine (ref_byte_any _ _ hx0 hx1).mono ?_
            rintro e w' ⟨rfl, rfl⟩
            cases h1 : idB ((mk s)[m].toNat : Int)
            · have HF : Hid (goodFrom pre xs 0 = false) := by
                unfold Hid
                rw [← HG.out]
                exact HSP.out (.inr (lead_no hml (by rw [HI.out]; exact h1)))
              have H1 := Lib.hid h1; clear h1
              go_wp2
              go_ret
              exact ⟨by rw [HF.out]; rfl, rfl⟩
            · have HN : Hid (∀ j, j < m + 1 → isId (s.getD j 0) = true) := fun j hj => by
                rcases Nat.lt_or_ge j m with hj1 | hj1
                · exact HD.out j hj1
                · obtain rfl : j = m := by omega
                  rw [HI.out]; exact h1
              have H1 := Lib.hid h1; clear h1
              go_wp2
              exact ⟨⟨m + 1, by omega, by go_num, HN.out⟩, by simp [intOf]; omega⟩
          · have HF : Hid (goodFrom pre (xs.drop (k + 1)) (k + 1) = goodFrom pre xs 0) := by
              unfold Hid
              rw [← HG.out, ← HST2.out (lead_yes (fun j hj => HD.out j (by have : (mk s).size = s.length := rfl; omega)))]
            go_wp2
            exact ⟨⟨k + 1, by omega, by go_num, HF.out⟩, by simp [intOf]; omega⟩
      · have HF : Hid (goodFrom pre xs 0 = false) := by
          unfold Hid
          rw [← HG.out]
          exact HSP.out (.inl hf0)
        go_wp2
        go_ret
        exact ⟨by rw [HF.out]; rfl, rfl⟩
    · have HF : Hid (goodFrom pre xs 0 = true) := by
        unfold Hid
        rw [← HG.out, List.drop_eq_nil_of_le (by rw [HL.out]; omega), goodFrom]
      go_wp2
      go_ret
      exact ⟨by rw [HF.out]; rfl, rfl⟩
end Go.Proofs.YtgfbflnhjpbceaaGreatDoor.Ident

namespace Go.Proofs.YtgfbflnhjpbceaaGreatDoor.Semver
open Go.RowKit Num Ident

set_option maxRecDepth 100000 in
set_option maxHeartbeats 1600000 in
theorem refGood_all (v : Ver) (A : Option Addr) (c : Nat) (B : Option Addr) (d : Nat) (w : World) (hr1 : SRow w A v.pre.length v.pre) (hr2 : SRow w B v.build.length v.build) (hn1 : v.pre.length ≤ maxLen) (hn2 : v.build.length ≤ maxLen) (hs1 : ∀ x ∈ v.pre, x.length ≤ maxLen) (hs2 : ∀ x ∈ v.build, x.length ≤ maxLen) :
    Calls Tryz.prog 27 #[.agg #[.int .u64 (v.a : Int), .int .u64 (v.b : Int), .int .u64 (v.c : Int), .slice A v.pre.length c, .slice B v.build.length d]] w fun e w' => e = .returned (.bool (goodV v)) ∧ Below w.heap.size w w' := by
  have HBa : Hid (Below w.heap.size w (w.alloc (.cells #[.int .u64 (v.a : Int), .int .u64 (v.b : Int), .int .u64 (v.c : Int), .slice A v.pre.length c, .slice B v.build.length d] 25))) := (Below.refl _ _).alloc (Nat.le_refl _) _
  have R1 := Lib.hid (hr1.kept HBa.out)
  have R2 := Lib.hid (hr2.kept HBa.out)
  have S1 := Lib.hid hs1
  have S2 := Lib.hid hs2
  have N1 := Lib.hid hn1
  have N2 := Lib.hid hn2
  have HG : Hid (goodV v = (heldB v.a v.b v.c && (goodFrom true v.pre 0 && goodFrom false v.build 0))) := rfl
  clear hr1 hr2 hs1 hs2 hn1 hn2
  by_cases h1 : (v.a : Int) < 9223372036854775808
  · by_cases h2 : (v.b : Int) < 9223372036854775808
    · by_cases h3 : (v.c : Int) < 9223372036854775808
      · have HH := Lib.hid (held_all h1 h2 h3)
        go_enter Tryz.func27, Tryz.ntmps27
        go_wp2_with fail
        refine (ref_good_all _ _ _ v.pre true _ R1.out N1.out S1.out).mono ?_
        rintro e w' ⟨rfl, rfl⟩
        generalize goodFrom true v.pre 0 = g2 at HG ⊢
        cases g2
        · go_wp2
          go_ret
          exact ⟨by rw [HG.out, HH.out]; rfl, HBa.out⟩
        go_wp2_with fail
        refine (ref_good_all _ _ _ v.build false _ R2.out N2.out S2.out).mono ?_
        rintro e w' ⟨rfl, rfl⟩
        go_wp2
        go_ret
        exact ⟨by rw [HG.out, HH.out]; simp, HBa.out⟩
      · have HH := Lib.hid (held_not3 (x := v.a) (y := v.b) h3)
        go_enter Tryz.func27, Tryz.ntmps27
        go_wp2
        go_ret
        exact ⟨by rw [HG.out, HH.out]; rfl, HBa.out⟩
    · have HH := Lib.hid (held_not2 (x := v.a) (z := v.c) h2)
      go_enter Tryz.func27, Tryz.ntmps27
      go_wp2
      go_ret
      exact ⟨by rw [HG.out, HH.out]; rfl, HBa.out⟩
  · have HH := Lib.hid (held_not1 (y := v.b) (z := v.c) h1)
    go_enter Tryz.func27, Tryz.ntmps27
    go_wp2
    go_ret
    exact ⟨by rw [HG.out, HH.out]; rfl, HBa.out⟩
end Go.Proofs.YtgfbflnhjpbceaaGreatDoor.Semver
