/-
  Edges sorted where they are (slices.SortFunc with sweep's closure): a permutation, none behind one that it stands ahead of. Conditions: the call owns the slice; the edges' versions lie in older memory.
-/
import Derived.Test.YtdbdeadcffpbfaaGreatDoorSpCuts
import Derived.Test.YtdbdeadcffpbfaaGreatDoorSpOwn
import Derived.Test.YtdbdeadcffpbfaaGreatDoorShelfSort
import Derived.Shelf.SlSortCmp.NoneTotal
import Derived.Lib.QuietBelow
namespace Go.Proofs.YtdbdeadcffpbfaaGreatDoor.Span
open Go.RowKit Num Ident Semver Prec

set_option maxRecDepth 100000 in
set_option maxHeartbeats 3200000 in
theorem sw1_anyD (x y : REdge) (w : World) (h1 : Lies w x.cut) (h2 : Lies w y.cut) :
    Calls Tryz.prog 38 #[.agg #[.int .i64 x.cut.kind, .int .u64 (x.cut.v.a : Int), .int .u64 (x.cut.v.b : Int), .int .u64 (x.cut.v.c : Int), .slice x.cut.A x.cut.v.pre.length x.cut.c, .slice x.cut.B x.cut.v.build.length x.cut.d, .int .i64 x.step], .agg #[.int .i64 y.cut.kind, .int .u64 (y.cut.v.a : Int), .int .u64 (y.cut.v.b : Int), .int .u64 (y.cut.v.c : Int), .slice y.cut.A y.cut.v.pre.length y.cut.c, .slice y.cut.B y.cut.v.build.length y.cut.d, .int .i64 y.step]] w fun e w' => e = .returned (.int .i64 (stand x.cut.cut y.cut.cut)) ∧ BelowD w.heap.size w w' := by
  have HBa : Hid (BelowD w.heap.size w ((w.alloc (.cells #[.int .i64 x.cut.kind, .int .u64 (x.cut.v.a : Int), .int .u64 (x.cut.v.b : Int), .int .u64 (x.cut.v.c : Int), .slice x.cut.A x.cut.v.pre.length x.cut.c, .slice x.cut.B x.cut.v.build.length x.cut.d, .int .i64 x.step] 55)).alloc (.cells #[.int .i64 y.cut.kind, .int .u64 (y.cut.v.a : Int), .int .u64 (y.cut.v.b : Int), .int .u64 (y.cut.v.c : Int), .slice y.cut.A y.cut.v.pre.length y.cut.c, .slice y.cut.B y.cut.v.build.length y.cut.d, .int .i64 y.step] 55))) := ((BelowD.refl _ _).alloc (Nat.le_refl _) _).alloc (by simp) _
  have HL := Lib.hid (h1.kept HBa.out.toBelow)
  have HM := Lib.hid (h2.kept HBa.out.toBelow)
  have K0 : Hid (At7B ((w.alloc (.cells #[.int .i64 x.cut.kind, .int .u64 (x.cut.v.a : Int), .int .u64 (x.cut.v.b : Int), .int .u64 (x.cut.v.c : Int), .slice x.cut.A x.cut.v.pre.length x.cut.c, .slice x.cut.B x.cut.v.build.length x.cut.d, .int .i64 x.step] 55)).alloc (.cells #[.int .i64 y.cut.kind, .int .u64 (y.cut.v.a : Int), .int .u64 (y.cut.v.b : Int), .int .u64 (y.cut.v.c : Int), .slice y.cut.A y.cut.v.pre.length y.cut.c, .slice y.cut.B y.cut.v.build.length y.cut.d, .int .i64 y.step] 55)) w.heap.size (.int .i64 x.cut.kind) (.int .u64 (x.cut.v.a : Int)) (.int .u64 (x.cut.v.b : Int)) (.int .u64 (x.cut.v.c : Int)) (.slice x.cut.A x.cut.v.pre.length x.cut.c) (.slice x.cut.B x.cut.v.build.length x.cut.d) (.int .i64 x.step)) := (At7B.new w _ _ _ _ _ _ _ _).kept ((Below.refl _ _).alloc (Nat.le_refl _) _) (by simp)
  have J0 : Hid (At7B ((w.alloc (.cells #[.int .i64 x.cut.kind, .int .u64 (x.cut.v.a : Int), .int .u64 (x.cut.v.b : Int), .int .u64 (x.cut.v.c : Int), .slice x.cut.A x.cut.v.pre.length x.cut.c, .slice x.cut.B x.cut.v.build.length x.cut.d, .int .i64 x.step] 55)).alloc (.cells #[.int .i64 y.cut.kind, .int .u64 (y.cut.v.a : Int), .int .u64 (y.cut.v.b : Int), .int .u64 (y.cut.v.c : Int), .slice y.cut.A y.cut.v.pre.length y.cut.c, .slice y.cut.B y.cut.v.build.length y.cut.d, .int .i64 y.step] 55)) (w.heap.size + 1) (.int .i64 y.cut.kind) (.int .u64 (y.cut.v.a : Int)) (.int .u64 (y.cut.v.b : Int)) (.int .u64 (y.cut.v.c : Int)) (.slice y.cut.A y.cut.v.pre.length y.cut.c) (.slice y.cut.B y.cut.v.build.length y.cut.d) (.int .i64 y.step)) := by
    have := At7B.new (w.alloc (.cells #[.int .i64 x.cut.kind, .int .u64 (x.cut.v.a : Int), .int .u64 (x.cut.v.b : Int), .int .u64 (x.cut.v.c : Int), .slice x.cut.A x.cut.v.pre.length x.cut.c, .slice x.cut.B x.cut.v.build.length x.cut.d, .int .i64 x.step] 55)) 55 (.int .i64 y.cut.kind) (.int .u64 (y.cut.v.a : Int)) (.int .u64 (y.cut.v.b : Int)) (.int .u64 (y.cut.v.c : Int)) (.slice y.cut.A y.cut.v.pre.length y.cut.c) (.slice y.cut.B y.cut.v.build.length y.cut.d) (.int .i64 y.step)
    rw [size_alloc] at this; exact this
  clear h1 h2
  go_enter Tryz.func38, Tryz.ntmps38
  go_upto_region 1 with (fail)
  generalize ((w.alloc (.cells #[.int .i64 x.cut.kind, .int .u64 (x.cut.v.a : Int), .int .u64 (x.cut.v.b : Int), .int .u64 (x.cut.v.c : Int), .slice x.cut.A x.cut.v.pre.length x.cut.c, .slice x.cut.B x.cut.v.build.length x.cut.d, .int .i64 x.step] 55)).alloc (.cells #[.int .i64 y.cut.kind, .int .u64 (y.cut.v.a : Int), .int .u64 (y.cut.v.b : Int), .int .u64 (y.cut.v.c : Int), .slice y.cut.A y.cut.v.pre.length y.cut.c, .slice y.cut.B y.cut.v.build.length y.cut.d, .int .i64 y.step] 55)) = W at HBa HL HM K0 J0 ⊢
  obtain ⟨hz, _, x0, x1, x2, x3, x4, x5, x6⟩ := K0.out
  obtain ⟨hy, _, y0, y1, y2, y3, y4, y5, y6⟩ := J0.out
  go_wp2_with fail
  refine (stand_anyD x.cut y.cut _ HL.out HM.out).mono ?_
  rintro e w1 ⟨rfl, hb1⟩
  have B1 := Lib.hid (HBa.out.trans (hb1.mono HBa.out.size))
  clear hb1 x0 x1 x2 x3 x4 x5 x6 y0 y1 y2 y3 y4 y5 y6
  go_wp2
  go_ret
  exact ⟨rfl, B1.out⟩

theorem grow_of {w w' : World} (h : BelowD w.heap.size w w') : ∃ q os', w' = Go.Sort.grow (w.drewN q) os' := by
  obtain ⟨p, hp⟩ := regrown_of_below h.toBelow
  have hd : w'.drawn = p.d := by rw [hp]; rfl
  have hle := h.drawn
  refine ⟨p.d - w.drawn, p.os, ?_⟩
  rw [hp]
  unfold Go.Sort.grow redrawn World.drewN
  simp only [World.mk.injEq, true_and, and_true]
  omega
/-- An edge whose version lies in a world. -/
structure Laid (w : World) where
  e : REdge
  h : Lies w e.cut
instance (w : World) : Inhabited (Laid w) := ⟨⟨⟨rlow, 0⟩, Lies.low w⟩⟩
def encE (w : World) (x : Laid w) : List Value := x.e.vals
def cfE (w : World) (x y : Laid w) : Int := stand x.e.cut.cut y.e.cut.cut
theorem swoE (w : World) : Go.Sort.SWO (ltOf (cfE w)) := by
  refine ⟨fun x => ?_, fun x y z h1 h2 => ?_, fun x y z h1 h2 => ?_⟩
  · unfold ltOf cfE; rw [stand_self]; rfl
  · unfold ltOf cfE at *; rw [decide_eq_true_eq] at *; exact lt_lt h1 h2
  · unfold ltOf cfE at *
    rw [decide_eq_false_iff_not] at *
    have a := not_lt h1
    have b := not_lt h2
    exact le_not (le_le b a)
/-- What a sort leaves of older memory. -/
theorem below_sort {α : Type} [Inhabited α] (enc : α → List Value) (k : Nat) (w : World) (blk off m : Nat) (d : Array α) (os : Array Obj) (B : Nat) (hB : B ≤ blk) (hw : B ≤ w.heap.size) : Below B w (sortWorldK enc k w blk off m d os) := by
  unfold sortWorldK Go.Sort.putRowK Go.Sort.putRow Go.Sort.mapBlock Go.Sort.grow Go.Sort.ahead
  refine ⟨rfl, rfl, rfl, by simp, fun i hi => ?_⟩
  rw [Array.getElem?_append_left (by simp; omega), Array.getElem?_modify, if_neg (by omega)]
theorem grown_sort {α : Type} [Inhabited α] (enc : α → List Value) (k : Nat) (w : World) (blk off m : Nat) (d : Array α) (os : Array Obj) : w.grownBy (sortWorldK enc k w blk off m d os) (some blk) := by
  unfold sortWorldK Go.Sort.putRowK Go.Sort.putRow Go.Sort.mapBlock Go.Sort.grow Go.Sort.ahead
  refine ⟨rfl, rfl, rfl, by simp, fun i hi hne => ?_⟩
  rw [Array.getElem?_append_left (by simpa using hi), Array.getElem?_modify, if_neg (fun e => hne (by rw [e]))]
theorem flatK_list {α : Type} [Inhabited α] (enc : α → List Value) (k : Nat) (hk : ∀ x, (enc x).length = k) (h0 : 0 < k) (d : Array α) : (Go.Sort.flatK enc k d).toList = d.toList.flatMap enc := by
  apply List.ext_getElem?
  intro t
  by_cases ht : t < d.size * k
  · have hq : t / k < d.size := Nat.div_lt_of_lt_mul (by rw [Nat.mul_comm]; exact ht)
    have hm : t % k < k := Nat.mod_lt _ h0
    have e1 : t = t / k * k + t % k := by rw [Nat.mul_comm]; exact (Nat.div_add_mod t k).symm
    have e2 := flat_get enc k hk d.toList (t / k) (t % k) (by simpa using hq) hm
    rw [← e1] at e2
    rw [e2, Array.getElem?_toList, Array.getElem?_eq_getElem (by rw [Go.Sort.size_flatK]; exact ht)]
    have e3 := Go.Sort.get_flatK enc k d t ht
    rw [getElem!_pos _ t (by rw [Go.Sort.size_flatK]; exact ht)] at e3
    rw [e3]
    have e4 : d.toList.getD (t / k) default = d[t / k]! := by
      rw [getElem!_pos d _ hq]; simp [List.getD, hq]
    rw [e4, getElem!_pos _ (t % k) (by rw [hk]; exact hm), List.getElem?_eq_getElem]
  · rw [List.getElem?_eq_none (by simp [Go.Sort.size_flatK]; omega), List.getElem?_eq_none (by rw [flat_len _ k hk]; simp; omega)]

set_option maxRecDepth 100000 in
set_option maxHeartbeats 1600000 in
theorem cmpLays (w1 w : World) (blk n : Nat) (hb : Below w1.heap.size w1 w) (hblk : w1.heap.size ≤ blk) : CmpLays Tryz.prog 38 #[] (encE w1) 7 (cfE w1) blk 0 n w := by
  intro m os dk _ x y
  have hB : Below w1.heap.size w1 (sortWorldK (encE w1) 7 w blk 0 m dk os) := hb.trans (below_sort _ _ _ _ _ _ _ _ _ hblk hb.size)
  generalize sortWorldK (encE w1) 7 w blk 0 m dk os = W at hB ⊢
  have h := sw1_anyD x.e y.e W (x.h.kept hB) (y.h.kept hB)
  rw [Array.append_empty]
  exact h.mono fun e w' ⟨he, hw⟩ => ⟨he, grow_of hw⟩
/-- What the sort leaves. -/
def SortPost (w : World) (base : Nat) (v : Value) (re : List REdge) (e : Ending) (w' : World) : Prop :=
  e = .returned (.tuple #[]) ∧ ∃ re' : List REdge, re'.Perm re ∧ (re'.Pairwise fun x y => stand x.cut.cut y.cut.cut ≤ 0) ∧ w'.ownsRow base 55 7 v re'.length (re'.flatMap REdge.vals) ∧ w.grownBy w' v.ownBlock

set_option maxRecDepth 100000 in
set_option maxHeartbeats 1600000 in
theorem sort_any (w1 w : World) (base : Nat) (v : Value) (re : List REdge) (hown : w.ownsRow base 55 7 v re.length (re.flatMap REdge.vals)) (hl : ∀ e ∈ re, Lies w1 e.cut) (hb : Below w1.heap.size w1 w) (hbase : w1.heap.size ≤ base) (hsz : re.length < 4611686018427387904) :
    Calls Tryz.prog 37 #[v, .func (.func 38) #[] #[]] w (SortPost w base v re) := by
  have hown0 := hown
  obtain ⟨hlen, h2⟩ := hown
  rcases h2 with ⟨rfl, h0⟩ | ⟨g, cap, cur, rfl, hg0, hg, hnc, hcm, hcs, htk⟩
  · have hre : re = [] := List.eq_nil_of_length_eq_zero h0
    subst hre
    exact (AnyF.slices_SortFunc_none Tryz.sortL none 0 (.func (.func 38) #[] #[]) w).mono fun e w' ⟨he, hw⟩ => by
      subst hw
      exact ⟨he, [], List.Perm.refl _, List.Pairwise.nil, hown0, World.grownBy.refl _ _⟩
  · obtain ⟨d, hd⟩ : ∃ d : Array (Laid w1), d.toList.map Laid.e = re := ⟨(re.pmap (fun e h => (⟨e, h⟩ : Laid w1)) hl).toArray, by simp [List.map_pmap]⟩
    have hdn : d.size = re.length := by rw [← hd]; simp
    have hk : ∀ x : Laid w1, (encE w1 x).length = 7 := fun _ => rfl
    have hF : (Go.Sort.flatK (encE w1) 7 d).toList = re.flatMap REdge.vals := by
      rw [flatK_list _ 7 hk (by omega), ← hd, List.flatMap_map]; rfl
    have hgl : g < w.heap.size := (Array.getElem?_eq_some_iff.1 hg).1
    have hH : Go.Sort.HoldsK (encE w1) 7 w g 0 d := by
      intro j hj
      rw [Go.Sort.size_flatK, hdn] at hj
      have hj2 : j < (Go.Sort.flatK (encE w1) 7 d).size := by rw [Go.Sort.size_flatK, hdn]; exact hj
      refine ⟨?_, by simp [World.frozen?, hg]⟩
      have e1 := hown0.cells (g := g) rfl j _ (by rw [← hF, Array.getElem?_toList]; exact Array.getElem?_eq_getElem hj2)
      rw [add_none] at e1
      rw [e1, getElem!_pos _ j hj2]; rfl
    have hcon := AnyQ.slices_SortFunc Tryz.sortL 7 Tryz.isAgg55 Tryz.sizeOf55 (encE w1) hk (fun x u hu => evals_one x.e u hu) (cfE w1) (swoE w1) 38 #[] g 0 cap d w (enters_of Tryz.func38 (by kernel_rfl) rfl) (cmpLays w1 w g d.size hb (Nat.le_trans hbase hg0)) hH hgl (by rw [hdn]; exact hsz)
    rw [hdn] at hcon
    refine hcon.mono fun e w' ⟨he, d', m, os, hp, hs, hw⟩ => ⟨he, d'.toList.map Laid.e, ?_, ?_, ?_, ?_⟩
    · have h1 := hp.2.2
      rw [← hdn, Array.extract_size] at h1
      have h3 : (d'.extract 0 d.size) = d' := by rw [← hp.1, Array.extract_size]
      rw [h3] at h1
      rw [← hd]; exact h1.map _
    · rw [List.pairwise_map, List.pairwise_iff_getElem]
      intro i j hi hj hij
      have hi' : i < d'.size := by simpa using hi
      have hj' : j < d'.size := by simpa using hj
      have h1 := hs i j (Nat.zero_le _) hij (by rw [← hdn, ← hp.1]; exact hj')
      unfold ltOf cfE at h1
      rw [decide_eq_false_iff_not, getElem!_pos d' i hi', getElem!_pos d' j hj'] at h1
      simpa using not_lt h1
    · have hsz' : (Go.Sort.flatK (encE w1) 7 d').size = re.length * 7 := by rw [Go.Sort.size_flatK, hp.1, hdn]
      have hF' : (Go.Sort.flatK (encE w1) 7 d').toList = (d'.toList.map Laid.e).flatMap REdge.vals := by
        rw [flatK_list _ 7 hk (by omega), List.flatMap_map]; rfl
      have hl' : (d'.toList.map Laid.e).length = re.length := by rw [List.length_map, Array.length_toList, hp.1, hdn]
      rw [hl', ← hF']
      refine ⟨by rw [Array.length_toList]; exact hsz', .inr ⟨g, cap, Go.Sort.putCells id 0 (Go.Sort.flatK (encE w1) 7 d') cur, rfl, hg0, ?_, hnc, hcm, by unfold Go.Sort.putCells; rw [Array.size_mapIdx]; exact hcs, ?_⟩⟩
      · rw [hw]
        unfold sortWorldK Go.Sort.putRowK Go.Sort.putRow Go.Sort.mapBlock Go.Sort.grow Go.Sort.ahead
        show ((w.heap.modify g _) ++ os)[g]? = _
        rw [Array.getElem?_append_left (by simpa using hgl), Array.getElem?_modify, if_pos rfl, hg]; rfl
      · apply List.ext_getElem?
        intro t
        have hcs' : re.length * 7 ≤ cur.size := by rw [hcs]; exact Nat.mul_le_mul_right 7 hnc
        by_cases ht : t < re.length * 7
        · rw [List.getElem?_take_of_lt ht, Array.getElem?_toList, Array.getElem?_toList]
          unfold Go.Sort.putCells
          rw [Array.getElem?_mapIdx, Array.getElem?_eq_getElem (show t < cur.size by omega), Array.getElem?_eq_getElem (show t < (Go.Sort.flatK (encE w1) 7 d').size by omega)]
          simp only [Option.map_some]
          rw [if_pos ⟨Nat.zero_le _, by omega⟩, Nat.sub_zero, getElem!_pos _ t (by omega)]; rfl
        · rw [List.getElem?_eq_none (by rw [List.length_take]; omega), List.getElem?_eq_none (by rw [Array.length_toList, hsz']; omega)]
    · rw [hw]; exact grown_sort _ _ _ _ _ _ _ _
end Go.Proofs.YtdbdeadcffpbfaaGreatDoor.Span
