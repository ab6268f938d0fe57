/-
  Numbers of names, sorted as their names stand (slices.SortFunc with Order's closure). Conditions: the call owns the row of the numbers 0, 1, ..; the closure's variable holds the table; no two names are like.
-/
import Derived.Test.YtpgfolfhfhfdhaaNaOrd1
import Derived.Test.YtpgfolfhfhfdhaaNaRefOrder
import Derived.Test.YtpgfolfhfhfdhaaShelfSort
import Derived.Shelf.SlSortCmp.NoneTotal
namespace Go.Proofs.Ytpgfolfhfhfdhaa.Name
open Go.RowKit Num Ident Fr Ints

def encN (n : Nat) (k : { k : Nat // k < n }) : Value := .int .i64 (k.1 : Int)
def cfN (x : List (List UInt8)) (a b : { k : Nat // k < x.length }) : Int := Lib.compareBytes (x.getD a.1 []) (x.getD b.1 [])
theorem ltN (x : List (List UInt8)) (a b : { k : Nat // k < x.length }) : ltOf (cfN x) a b = decide (x.getD a.1 [] < x.getD b.1 []) := by
  unfold ltOf cfN; rw [Bool.eq_iff_iff, decide_eq_true_eq, decide_eq_true_eq, cmp_neg]
theorem swoN (x : List (List UInt8)) : Go.Sort.SWO (ltOf (cfN x)) := by
  refine ⟨fun a => ?_, fun a b c h1 h2 => ?_, fun a b c h1 h2 => ?_⟩
  · rw [ltN]; simp [List.lt_irrefl]
  · rw [ltN, decide_eq_true_eq] at *; exact List.lt_trans h1 h2
  · rw [ltN, decide_eq_false_iff_not, Std.not_lt] at *; exact Std.le_trans h2 h1
/-- What a sort leaves beside its row. -/
theorem but_sort {α : Type} [Inhabited α] (enc : α → Value) (w : World) (blk off m : Nat) (d : Array α) (os : Array Obj) : But (fun k => k = blk) w (sortWorld enc w blk off m d os) := by
  unfold sortWorld Go.Sort.putRow Go.Sort.mapBlock Go.Sort.grow Go.Sort.ahead
  refine ⟨rfl, rfl, rfl, by simp, fun i hi hn => ?_⟩
  rw [Array.getElem?_append_left (by simpa using hi), Array.getElem?_modify, if_neg (fun e => hn e.symm)]
theorem srow_but {T : Nat → Prop} {w w' : World} {A : Option Addr} {n : Nat} {x : List (List UInt8)} (h : SRow w A n x) (hb : But T w w') (hn : ∀ b o, 0 < n → A = some ⟨b, o, none⟩ → ¬ T b) : SRow w' A n x := by
  refine ⟨h.1, fun h0 => ?_⟩
  obtain ⟨b, o, e, hlt, hc⟩ := h.2 h0
  exact ⟨b, o, e, Nat.lt_of_lt_of_le hlt hb.size, fun j hj => (hb.cell (o := o + j) hlt (hn b o h0 e)).trans (hc j hj)⟩
/-- What is asked of the closure. -/
theorem cmpLaysN (bx tb : Nat) (m : Value) (A : Option Addr) (c : Nat) (x : List (List UInt8)) (w : World) (blk n : Nat) [Inhabited { k : Nat // k < x.length }] (hn : x.length ≤ 4096) (hbx : w.cell? ⟨bx, 0, none⟩ = some (.pointer (some ⟨tb, 0, none⟩))) (hbl : bx < w.heap.size) (h2 : At2 w tb m (.slice A x.length c)) (hr : SRow w A x.length x)
    (h3 : bx ≠ blk) (h4 : tb ≠ blk) (h5 : ∀ b o, 0 < x.length → A = some ⟨b, o, none⟩ → b ≠ blk) :
    CmpLays1 Try.prog 24 #[.pointer (some ⟨bx, 0, none⟩)] (encN x.length) (cfN x) blk 0 n w := by
  intro q os dk _ a b
  have hB := but_sort (encN x.length) w blk 0 q dk os
  generalize sortWorld (encN x.length) w blk 0 q dk os = W at hB ⊢
  refine (ord1_any bx tb m A x.length c x a.1 b.1 W ((hB.cell hbl h3).trans hbx) (h2.but hB h4) (srow_but hr hB h5) hn a.2 b.2).mono ?_
  rintro e w' ⟨he, rfl⟩
  exact ⟨he, 1, #[], by rw [Go.Sort.grow_empty]; rfl⟩
set_option maxRecDepth 100000 in
set_option maxHeartbeats 1600000 in
theorem sort_any (bx tb : Nat) (m : Value) (A : Option Addr) (c : Nat) (x : List (List UInt8)) (w : World) (blk cap base : Nat) (hx : x.Nodup) (hn : x.length ≤ 4096) (hbx : w.cell? ⟨bx, 0, none⟩ = some (.pointer (some ⟨tb, 0, none⟩))) (hbl : bx < w.heap.size) (h2 : At2 w tb m (.slice A x.length c)) (hr : SRow w A x.length x)
    (h3 : bx ≠ blk) (h4 : tb ≠ blk) (h5 : ∀ b o, 0 < x.length → A = some ⟨b, o, none⟩ → b ≠ blk) (hown : w.ownsRow base 3 1 (.slice (some ⟨blk, 0, none⟩) x.length cap) x.length (ints ((List.range x.length).map fun (k : Nat) => (k : Int)))) :
    Calls Try.prog 23 #[.slice (some ⟨blk, 0, none⟩) x.length cap, .func (.func 24) #[] #[.pointer (some ⟨bx, 0, none⟩)]] w fun e w' =>
      e = .returned (.tuple #[]) ∧ But (fun k => k = blk) w w' ∧ ∃ o, Ordered x o ∧ IRow w' (some ⟨blk, 0, none⟩) x.length (o.map fun (k : Nat) => (k : Int)) := by
  rcases Nat.eq_zero_or_pos x.length with h0 | h0
  · have hx0 : x = [] := List.eq_nil_of_length_eq_zero h0
    subst hx0
    exact (AnyF.slices_SortFunc_none { Try.sortL with } _ cap _ w).mono fun e w' ⟨he, hw⟩ => by
      subst hw
      exact ⟨he, But.refl _ _, [], Ordered.nil, IRow.none_ _ _⟩
  · haveI : Inhabited { k : Nat // k < x.length } := ⟨⟨0, h0⟩⟩
    obtain ⟨d, hd⟩ : ∃ d : Array { k : Nat // k < x.length }, d.toList.map (fun k => k.1) = List.range x.length := ⟨((List.range x.length).pmap (fun k h => (⟨k, h⟩ : { k : Nat // k < x.length })) (fun k h => List.mem_range.1 h)).toArray, by simp [List.map_pmap]⟩
    have hdn : d.size = x.length := by
      have := congrArg List.length hd
      simpa using this
    have hdk : ∀ j, j < x.length → (d[j]!).1 = j := fun j hj => by
      have := congrArg (fun l => l[j]?) hd
      simp only [List.getElem?_map, Array.getElem?_toList, List.getElem?_range hj] at this
      rw [Array.getElem?_eq_getElem (by omega)] at this
      rw [getElem!_pos d j (by omega)]
      simpa using this
    rcases hown.2 with ⟨hbad, _⟩ | ⟨g, cap', cur, hv, hg0, hg, hnc, hcm, hcs, htk⟩
    · cases hbad
    · injection hv with hv1 hv2 hv3
      injection hv1 with hv1; injection hv1 with hv1
      subst hv1
      have hgl : blk < w.heap.size := (Array.getElem?_eq_some_iff.1 hg).1
      have hH : Go.Sort.Holds (encN x.length) w blk 0 d := by
        intro j hj
        rw [hdn] at hj
        refine ⟨?_, by simp [World.frozen?, hg]⟩
        have e1 := hown.cells (g := blk) rfl j (.int .i64 (j : Int)) (by rw [ints_at _ j (by simpa using hj)]; simp [List.getD, hj])
        rw [add_none] at e1
        rw [e1]; unfold encN; rw [hdk j hj]
      have hcon := Any.slices_SortFunc Try.sortL (encN x.length) (fun _ => rfl) (cfN x) (swoN x) 24 #[.pointer (some ⟨bx, 0, none⟩)] blk 0 cap d w (enters_of Try.func24 (by kernel_rfl) rfl) (cmpLaysN bx tb m A c x w blk d.size hn hbx hbl h2 hr h3 h4 h5) hH hgl (by rw [hdn]; omega)
      rw [hdn] at hcon
      refine hcon.mono fun e w' ⟨he, d', q, os, hp, hs, hw⟩ => ?_
      have h7 : d'.size = x.length := by rw [hp.1, hdn]
      have hperm : (d'.toList.map fun k => k.1).Perm (List.range x.length) := by
        have h6 := hp.2.2
        have e1 : d.extract 0 x.length = d := by have := Array.extract_size (xs := d); rwa [hdn] at this
        have e2 : d'.extract 0 x.length = d' := by have := Array.extract_size (xs := d'); rwa [h7] at this
        rw [e1, e2] at h6
        rw [← hd]; exact h6.map _
      have hnd := hperm.nodup_iff.2 List.nodup_range
      refine ⟨he, by rw [hw]; exact but_sort _ _ _ _ _ _ _, d'.toList.map (fun k => k.1), ⟨hperm, ?_⟩, ?_⟩
      · rw [List.pairwise_map, List.pairwise_iff_getElem]
        intro i j hi hj hij
        have hi' : i < d'.size := by simpa using hi
        have hj' : j < d'.size := by simpa using hj
        have h6 := hs i j (Nat.zero_le _) hij (by have := hp.1; omega)
        rw [ltN, decide_eq_false_iff_not, getElem!_pos d' i hi', getElem!_pos d' j hj', Std.not_lt] at h6
        refine Std.lt_of_le_of_ne (by simpa using h6) fun e => ?_
        have e3 := congrArg (find x) e
        rw [find_of hx _ (by simpa using (d'[i]).2), find_of hx _ (by simpa using (d'[j]).2)] at e3
        exact List.pairwise_iff_getElem.1 hnd i j (by simpa using hi') (by simpa using hj') hij (by simpa using e3)
      · have hH' : Go.Sort.Holds (encN x.length) w' blk 0 d' := by
          rw [hw]
          exact Go.Sort.holds_grow _ _ os blk 0 d' (by simp [Go.Sort.putRow, Go.Sort.mapBlock, Go.Sort.ahead, hgl]) (Go.Sort.holds_putRow (encN x.length) (Go.Sort.ahead w q) blk 0 d d' (Go.Sort.holds_ahead _ _ _ _ _ _ hH) hp.1)
        refine ⟨by simp [h7], by unfold maxLen; omega, fun _ => ⟨blk, 0, rfl, ?_, fun j hj => ?_⟩⟩
        · rw [hw]; exact Nat.lt_of_lt_of_le hgl (but_sort _ _ _ _ _ _ _).size
        · rw [(hH' j (by rw [h7]; exact hj)).1, nat_at, getElem!_pos d' j (by rw [h7]; exact hj)]
          simp [encN, List.getD, h7, hj]
end Go.Proofs.Ytpgfolfhfhfdhaa.Name
