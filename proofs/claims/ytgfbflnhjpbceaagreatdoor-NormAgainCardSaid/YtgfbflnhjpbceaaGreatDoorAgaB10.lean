/-
  What the theorem of the last text needs of these: RgSameMem, RgSame, SvFore. Conditions: as each theorem states.
-/
import Derived.Test.YtgfbflnhjpbceaaGreatDoorAgaB1
import Derived.Test.YtgfbflnhjpbceaaGreatDoorAgaB7
import Derived.Test.YtgfbflnhjpbceaaGreatDoorAgaB8
import Derived.Test.YtgfbflnhjpbceaaGreatDoorAgaB9
import Derived.WalkSmall
import Derived.Laws.OwnMore
import Derived.StillTailTactics
import Derived.Deep.CutBlock
import Derived.Deep.DeepCutAuto
import Derived.Deep.RegionHeld3
set_option maxRecDepth 100000
set_option maxHeartbeats 25600000
namespace Go.Proofs.YtgfbflnhjpbceaaGreatDoor.Range
open Go.RowKit Num Ident Semver
structure Ent where
 l : List Rng
 A : Option Addr
 e : Nat
 B : Option Addr
 f : Nat
instance : Inhabited Ent := ⟨⟨[], none, 0, none, 0⟩⟩
def Ent.vals (x : Ent) : List Value := [.slice x.A x.l.length x.e, .slice x.B x.l.length x.f]
theorem ent_len (x : Ent) : x.vals.length = 2 := rfl
theorem ent_one (x : Ent) : ∀ u ∈ x.vals, u.oneCell' = true := by
 intro u hu; simp only [Ent.vals, List.mem_cons, List.mem_nil_iff, or_false] at hu
 rcases hu with rfl | rfl <;> rfl
def LtB (B g : Nat) : Prop := g < B
theorem KeepS.lt {w w' : World} {B : Nat} (h : Below B w w') : KeepS (LtB B) w w' := ⟨h.size, fun g o _ hg hc => (h.cell (p := ⟨g, o, none⟩) hg).trans hc⟩
structure EntOk (W : World) (B : Nat) (x : Ent) : Prop where
 a : RgRow W (LtB B) x.A x.l.length x.l
 b : RgRow W (LtB B) x.B x.l.length x.l
 pos : 0 < x.l.length
theorem EntOk.kept {W W' : World} {B : Nat} {x : Ent} (h : EntOk W B x) (k : KeepS (LtB B) W W') : EntOk W' B x := ⟨h.a.keep k, h.b.keep k, h.pos⟩
def wsum : List Ent → Nat
 | [] => 0
 | x :: t => wtL x.l + wsum t
theorem wsum_more (T : List Ent) (x : Ent) : wsum (T ++ [x]) = wsum T + wtL x.l := by
 induction T with
 | nil => show wtL x.l + 0 = 0 + wtL x.l; omega
 | cons y t ih => show wtL y.l + wsum (t ++ [x]) = wtL y.l + wsum t + wtL x.l; omega
theorem wsum_len {W : World} {B : Nat} : ∀ {T : List Ent}, (∀ x ∈ T, EntOk W B x) → T.length ≤ wsum T
 | [], _ => Nat.zero_le _
 | x :: t, h => by
  have h1 := wtL_pos (h x (by simp)).pos
  have h2 := wsum_len (fun y hy => h y (List.mem_cons_of_mem _ hy))
  show t.length + 1 ≤ wtL x.l + wsum t
  omega
theorem split_last {T : List Ent} (h : T ≠ []) : ∃ R x, T = R ++ [x] := ⟨T.dropLast, T.getLast h, (List.dropLast_concat_getLast h).symm⟩
theorem RgRow.one {w : World} {S : Nat → Prop} {L : Option Addr} {n : Nat} {l : List Rng} (h : RgRow w S L n l) {j : Nat} (hj : j < n) : ∃ b o x, L = some ⟨b, o, none⟩ ∧ S b ∧ CellsAt w b (o + j * 7) x ∧ Lies w S (l.getD j noRng) x := by
 obtain ⟨f, _, h2, h3⟩ := h
 obtain ⟨b, o, e, hb, hc⟩ := h2 (by omega)
 exact ⟨b, o, f j, e, hb, hc j hj, h3 j hj⟩
structure Two (W : World) (B j : Nat) (x : Ent) (r : Rng) (b o b' o' : Nat) (s t : RV) : Prop where
 lt : b < B
 lt' : b' < B
 cs : CellsAt W b (o + j * 7) s
 ct : CellsAt W b' (o' + j * 7) t
 p1 : SRow W s.A s.v.pre.length s.v.pre
 p2 : SRow W s.B s.v.build.length s.v.build
 q1 : SRow W t.A s.v.pre.length s.v.pre
 q2 : SRow W t.B s.v.build.length s.v.build
 fit : FitV s.v
 ra : RgRow W (LtB B) s.L s.n r.subs
 rb : RgRow W (LtB B) t.L s.n r.subs
 kind : t.kind = s.kind
 ver : t.v = s.v
 n : t.n = s.n
 len : s.n = r.subs.length
theorem EntOk.two {W : World} {B j : Nat} {x : Ent} (h : EntOk W B x) (hj : j < x.l.length) : ∃ b o b' o' s t, x.A = some ⟨b, o, none⟩ ∧ x.B = some ⟨b', o', none⟩ ∧ Two W B j x (x.l.getD j noRng) b o b' o' s t := by
 obtain ⟨b, o, s, e1, h1, c1, l1⟩ := h.a.one hj
 obtain ⟨b', o', t, e2, h2, c2, l2⟩ := h.b.one hj
 have s1 := l1.says
 have s2 := l2.says
 have hv : t.v = s.v := s2.ver.symm.trans s1.ver
 have hk : t.kind = s.kind := s2.kind.symm.trans s1.kind
 obtain ⟨f1, n1, r1⟩ := s1.subs
 obtain ⟨f2, n2, r2⟩ := s2.subs
 have hn : t.n = s.n := n2.symm.trans n1
 refine ⟨b, o, b', o', s, t, e1, e2, h1, h2, c1, c2, s1.pre, s1.build, by rw [← hv]; exact s2.pre, by rw [← hv]; exact s2.build, s1.fit, ⟨f1, n1, r1⟩, by rw [← hn]; exact ⟨f2, n2, r2⟩, hk, hv, hn, n1.symm⟩
theorem RgRow.new (w : World) (t : TypeId) (x : RV) (r : Rng) {B : Nat} (h : Lies w (LtB B) r x) (hB : w.heap.size < B) : RgRow (w.alloc (.cells x.vals.toArray t)) (LtB B) (some ⟨w.heap.size, 0, none⟩) 1 [r] := by
 refine ⟨fun _ => x, rfl, fun _ => ⟨w.heap.size, 0, rfl, hB, fun j hj i u hu => ?_⟩, fun j hj => ?_⟩
 ·obtain rfl : j = 0 := by omega
  have := news_new w x.vals t i u hu
  rw [show ((⟨w.heap.size, 0, none⟩ : Addr).add i) = ⟨w.heap.size, 0 + 0 * 7 + i, none⟩ from by cases i <;> simp [Addr.add]] at this
  exact this
 ·obtain rfl : j = 0 := by omega
  exact h.keep (KeepS.alloc _ _)
theorem entInfo : (Tryz.prog.info? 84).map (fun i => (i.zero, i.size, i.bytes)) = some (some (.agg #[.slice none 0 0, .slice none 0 0]), 2, 48) := by kernel_rfl
theorem wpList_append_ent (w : World) {ops : Array Oper} {rest : List Oper} {o : Oper} {a : Act} {Q : Exit → Act → World → Prop} (hgd : o.guard = none) (s x : Operand)
  (ho : o.op = .call { callee := .builtin .append, args := #[s, x], argTypes := #[85, 85] })
  (base : Nat) (v : Value) (T : List Ent) (hs : a.eval s = v) (hown : w.ownsRow base 84 2 v T.length (T.flatMap Ent.vals))
  (ad : Addr) (y : Ent) (hx : a.eval x = .slice (some ad) 1 1) (hnews : ∀ j u, y.vals[j]? = some u → w.cell? (ad.add j) = some u) (hb : T.length ≤ 5000000) (hbase : base ≤ w.heap.size)
  (h : ∀ v' w', w'.ownsRow base 84 2 v' (T ++ [y]).length ((T ++ [y]).flatMap Ent.vals) → Below base w w' → wpList Tryz.prog ops Q rest (a.put o.dst v') w') : wpList Tryz.prog ops Q (o :: rest) a w := by
 obtain ⟨i, hi, hz, hsz, hby⟩ := info_parts entInfo
 refine wpList_append_own_at w hgd s x 85 ho base 84 i _ 2 48 Tryz.underlying85 hi hz hsz hby rfl (by omega) v T.length _ hs hown ad 1 1 y.vals hx rfl hnews (ent_one y) (by unfold maxLen; omega) (by omega) hbase (fun v' w' h2 h3 _ h5 => ?_)
 have e : (T ++ [y]).length = T.length + 1 := by rw [List.length_append]; rfl
 refine h v' w' (by rw [e, List.flatMap_append]; simpa using h2) ⟨h3.os, h3.tape, h3.output, h3.size, fun k hk => h3.block k (by omega) (fun e2 => ?_)⟩
 have := (hown.lt k e2.symm).1
 omega
theorem op_append_ent (w : World) {o : Oper} {a : Act} {K : Act → World → Prop} {Q : Exit → Act → World → Prop} (s x : Operand)
  (ho : o.op = .call { callee := .builtin .append, args := #[s, x], argTypes := #[85, 85] })
  (base : Nat) (v : Value) (T : List Ent) (hs : a.eval s = v) (hown : w.ownsRow base 84 2 v T.length (T.flatMap Ent.vals))
  (ad : Addr) (y : Ent) (hx : a.eval x = .slice (some ad) 1 1) (hnews : ∀ j u, y.vals[j]? = some u → w.cell? (ad.add j) = some u) (hb : T.length ≤ 5000000) (hbase : base ≤ w.heap.size)
  (h : ∀ v' w', w'.ownsRow base 84 2 v' (T ++ [y]).length ((T ++ [y]).flatMap Ent.vals) → Below base w w' → K (a.put o.dst v') w') : Oper.wp Tryz.prog o a w K Q := by
 obtain ⟨i, hi, hz, hsz, hby⟩ := info_parts entInfo
 obtain ⟨v', w', hr, h2, h3, h4, h5⟩ := run_append_own_at (P := Tryz.prog) w base 85 o.type 84 i _ 2 48 Tryz.underlying85 hi hz hsz hby rfl (by omega) v T.length _ hown ad 1 1 y.vals rfl hnews (ent_one y) (by unfold maxLen; omega) (by omega) hbase
 unfold Oper.wp execOp
 simp only [ho, resolve, invoke, builtin, Sem.run_bind, Sem.run_pure, Result.andThen_ok, List.map_toArray, List.map_cons, List.map_nil, hs, hx, hr]
 have e : (T ++ [y]).length = T.length + 1 := by rw [List.length_append]; rfl
 refine h v' w' (by rw [e, List.flatMap_append]; simpa using h2) ⟨h3.os, h3.tape, h3.output, h3.size, fun k hk => h3.block k (by omega) (fun e2 => ?_)⟩
 have := (hown.lt k e2.symm).1
 omega
end Go.Proofs.YtgfbflnhjpbceaaGreatDoor.Range
namespace Go.Proofs.YtgfbflnhjpbceaaGreatDoor.Range
open Go.RowKit Num Ident Semver
theorem arr_lit (t : Array Value) (n : Nat) (h : t.size = n) : t = ((List.range n).map fun i => t.getD i undef).toArray := by
 apply Array.ext
 ·simp [h]
 ·intro i h1 h2
  simp [Array.getD, h1]
theorem sm_frame (t : Array Value) (h : t.size = 104) : ∃ F : Nat → Value, t = #[t.getD 0 undef, t.getD 1 undef, t.getD 2 undef, t.getD 3 undef, t.getD 4 undef, t.getD 5 undef, F 6, F 7, F 8, F 9, F 10, F 11, F 12, F 13, F 14, F 15, F 16, F 17, F 18, F 19, F 20, F 21, F 22, F 23, F 24, F 25, F 26, F 27, F 28, F 29, F 30, F 31, F 32, F 33, F 34, F 35, F 36, F 37, F 38, F 39, F 40, F 41, F 42, F 43, F 44, F 45, F 46, F 47, F 48, F 49, F 50, F 51, F 52, F 53, F 54, F 55, F 56, F 57, F 58, F 59, F 60, F 61, F 62, F 63, F 64, F 65, F 66, F 67, F 68, F 69, F 70, F 71, F 72, F 73, F 74, F 75, F 76, F 77, F 78, F 79, F 80, F 81, F 82, F 83, F 84, F 85, F 86, F 87, F 88, F 89, F 90, F 91, F 92, F 93, F 94, F 95, F 96, F 97, F 98, F 99, F 100, F 101, F 102, F 103] := ⟨fun i => t.getD i undef, arr_lit t 104 h⟩
def SmJ (w : World) (x0 x1 : Value) (m : Nat) (a' : Act) (W : World) : Prop :=
 ∃ (T : List Ent) (v : Value), Below w.heap.size w W ∧ w.heap.size + 4 ≤ W.heap.size ∧ W.ownsRow (w.heap.size + 4) 84 2 v T.length (T.flatMap Ent.vals) ∧ (∀ x ∈ T, EntOk W (w.heap.size + 4) x) ∧ wsum T = m ∧ m ≤ 4000000 ∧
  a'.defers = [] ∧ a'.tmps.size = 104 ∧ a'.tmps.getD 0 undef = x0 ∧ a'.tmps.getD 1 undef = x1 ∧ a'.tmps.getD 2 undef = .pointer (some ⟨w.heap.size, 0, none⟩) ∧ a'.tmps.getD 3 undef = .pointer (some ⟨w.heap.size + 1, 0, none⟩) ∧ a'.tmps.getD 4 undef = .bool false ∧ a'.tmps.getD 5 undef = v
theorem same_of (r : Rng) (x y : RV) (S : Nat → Prop) (w : World) (hx : Lies w S r x) (hy : Lies w S r y) (hS : ∀ g, S g → g < w.heap.size) (hm : wt r ≤ 4000000) :
  Calls Tryz.prog 26 #[x.agg, y.agg] w fun e w' => e = .returned (.bool true) ∧ Below w.heap.size w w' := by
 have HX := Lib.hid (hx.mono (S' := LtB w.heap.size) fun g hg _ => hS g hg)
 have HY := Lib.hid (hy.mono (S' := LtB w.heap.size) fun g hg _ => hS g hg)
 clear hx hy hS
 unfold RV.agg
 go_enter Tryz.func26, Tryz.ntmps26
 go_wp2_with fail
 have HBa : Hid (Below w.heap.size w ((w.alloc (.cells #[.int .i64 x.kind, .int .u64 (x.v.a : Int), .int .u64 (x.v.b : Int), .int .u64 (x.v.c : Int), .slice x.A x.v.pre.length x.c, .slice x.B x.v.build.length x.d, .slice x.L x.n x.e] 28)).alloc (.cells #[.int .i64 y.kind, .int .u64 (y.v.a : Int), .int .u64 (y.v.b : Int), .int .u64 (y.v.c : Int), .slice y.A y.v.pre.length y.c, .slice y.B y.v.build.length y.d, .slice y.L y.n y.e] 28))) := ((Below.refl _ _).alloc (Nat.le_refl _) _).alloc (by simp) _
 have HRx : Hid (RAt ((w.alloc (.cells #[.int .i64 x.kind, .int .u64 (x.v.a : Int), .int .u64 (x.v.b : Int), .int .u64 (x.v.c : Int), .slice x.A x.v.pre.length x.c, .slice x.B x.v.build.length x.d, .slice x.L x.n x.e] 28)).alloc (.cells #[.int .i64 y.kind, .int .u64 (y.v.a : Int), .int .u64 (y.v.b : Int), .int .u64 (y.v.c : Int), .slice y.A y.v.pre.length y.c, .slice y.B y.v.build.length y.d, .slice y.L y.n y.e] 28)) w.heap.size x) := (RAt.new w _ x).kept ((Below.refl _ _).alloc (Nat.le_refl _) _) (by simp)
 have HRy : Hid (RAt ((w.alloc (.cells #[.int .i64 x.kind, .int .u64 (x.v.a : Int), .int .u64 (x.v.b : Int), .int .u64 (x.v.c : Int), .slice x.A x.v.pre.length x.c, .slice x.B x.v.build.length x.d, .slice x.L x.n x.e] 28)).alloc (.cells #[.int .i64 y.kind, .int .u64 (y.v.a : Int), .int .u64 (y.v.b : Int), .int .u64 (y.v.c : Int), .slice y.A y.v.pre.length y.c, .slice y.B y.v.build.length y.d, .slice y.L y.n y.e] 28)) (w.heap.size + 1) y) := by have := RAt.new (w.alloc (.cells #[.int .i64 x.kind, .int .u64 (x.v.a : Int), .int .u64 (x.v.b : Int), .int .u64 (x.v.c : Int), .slice x.A x.v.pre.length x.c, .slice x.B x.v.build.length x.d, .slice x.L x.n x.e] 28)) 28 y; rw [size_alloc] at this; exact this
 have HSz : Hid (((w.alloc (.cells #[.int .i64 x.kind, .int .u64 (x.v.a : Int), .int .u64 (x.v.b : Int), .int .u64 (x.v.c : Int), .slice x.A x.v.pre.length x.c, .slice x.B x.v.build.length x.d, .slice x.L x.n x.e] 28)).alloc (.cells #[.int .i64 y.kind, .int .u64 (y.v.a : Int), .int .u64 (y.v.b : Int), .int .u64 (y.v.c : Int), .slice y.A y.v.pre.length y.c, .slice y.B y.v.build.length y.d, .slice y.L y.n y.e] 28)).heap.size = w.heap.size + 2) := by rw [size_alloc, size_alloc]; rfl
 generalize (w.alloc (.cells #[.int .i64 x.kind, .int .u64 (x.v.a : Int), .int .u64 (x.v.b : Int), .int .u64 (x.v.c : Int), .slice x.A x.v.pre.length x.c, .slice x.B x.v.build.length x.d, .slice x.L x.n x.e] 28)).alloc (.cells #[.int .i64 y.kind, .int .u64 (y.v.a : Int), .int .u64 (y.v.b : Int), .int .u64 (y.v.c : Int), .slice y.A y.v.pre.length y.c, .slice y.B y.v.build.length y.d, .slice y.L y.n y.e] 28) = W1 at HBa HRx HRy HSz ⊢
 refine wp_scope_back_of 0 (SmJ w x.agg y.agg) rfl ?_ ?_
 ·rintro m ⟨tm, df⟩ W ⟨T, v, hb1, hz, hown, hok, hwm, hmm, hd, hs, t0, t1, t2, t3, t4, t5⟩
  simp only at hd hs t0 t1 t2 t3 t4 t5
  obtain ⟨F, hF⟩ := sm_frame tm hs
  rw [t0, t1, t2, t3, t4, t5] at hF
  clear t0 t1 t2 t3 t4 t5 hs
  subst hF; subst hd
  have HB1 := Lib.hid hb1
  have HO1 := Lib.hid hown
  have HK1 := Lib.hid hok
  clear hb1 hown hok
  by_cases h1 : T = []
  ·subst h1
   rcases HO1.out.2 with ⟨rfl, _⟩ | ⟨g, cp, cur, rfl, _⟩
   all_goals
    go_wp2
    simp only [Exit.jump]
    go_ret
    exact ⟨rfl, HB1.out⟩
  ·obtain ⟨R, y', rfl⟩ := split_last h1
   clear h1
   obtain ⟨y, hy⟩ : ∃ y, y' = y := ⟨_, rfl⟩
   subst hy
   have hlen : (R ++ [y']).length = R.length + 1 := by rw [List.length_append]; rfl
   have hRl : R.length < 4000000 := by have := wsum_len HK1.out; omega
   have HW := Lib.hid hwm
   rw [hlen] at HO1
   rcases HO1.out.2 with ⟨_, h0⟩ | ⟨g, cp, cur, rfl, hg, _⟩
   ·exact absurd h0 (Nat.succ_ne_zero _)
   have hge : (R ++ [y']).flatMap Ent.vals = R.flatMap Ent.vals ++ y'.vals := by rw [List.flatMap_append]; simp
   have hgt : ∀ i, i < 2 → W.cell? ⟨g, R.length * 2 + i, none⟩ = y'.vals[i]? := fun i hi => by
    rw [HO1.out.cellAt (R.length * 2 + i) (by omega), flat_get Ent.vals 2 ent_len _ _ _ (by omega) hi]
    simp [List.getD]
   have HC1 : Hid (W.cell? ⟨g, R.length * 2, none⟩ = some (.slice y'.A y'.l.length y'.e)) := hgt 0 (by omega)
   have HC2 : Hid (W.cell? ⟨g, R.length * 2 + 1, none⟩ = some (.slice y'.B y'.l.length y'.f)) := hgt 1 (by omega)
   have HPop : Hid (W.ownsRow (w.heap.size + 4) 84 2 (.slice (some ⟨g, 0, none⟩) R.length cp) R.length (R.flatMap Ent.vals)) := by
    have := HO1.out
    rw [hge] at this
    exact ownsRow_pop (by rw [flat_len Ent.vals 2 ent_len]) this
   have hcp : R.length + 1 ≤ cp := by rename_i h; exact h.2.1
   clear hge hgt HO1
   have hs1 : IntKind.i64.wrap (((R.length + 1 : Nat) : Int) - 1) = (R.length : Int) := by rw [IntKind.wrap_i64] <;> omega
   have hs2 : (R.length : Int) < ((R.length + 1 : Nat) : Int) := by omega
   have hs3 : (0 : Int) ≤ (R.length : Int) := by omega
   have d1 := HC1.out
   have d2 := HC2.out
   go_upto_region 4 with (fail)
   go_cut [6, 7] (fun x y wx => x = .slice y'.A y'.l.length y'.e ∧ y = .slice y'.B y'.l.length y'.f ∧ ∃ q, wx = W.drewN q)
   case first =>
    go_quiet (fail)
    go_wp2
    go_meet
    exact ⟨rfl, rfl, _, rfl⟩
   case rest =>
    obtain ⟨rfl, rfl, q, rfl⟩ := hcut
    have HBq : Hid (Below W.heap.size W (W.drewN q)) := ⟨rfl, rfl, rfl, Nat.le_refl _, fun _ _ => rfl⟩
    have HPop2 := Lib.hid (own_below HPop.out HBq.out)
    have HB2 := Lib.hid (HB1.out.trans (HBq.out.mono HB1.out.size))
    have HKR : Hid (∀ z ∈ R, EntOk (W.drewN q) (w.heap.size + 4) z) := fun z hz => (HK1.out z (by simp [hz])).kept (KeepS.of_below HBq.out)
    have HKY : Hid (EntOk (W.drewN q) (w.heap.size + 4) y') := (HK1.out y' (by simp)).kept (KeepS.of_below HBq.out)
    have hz2 : w.heap.size + 4 ≤ (W.drewN q).heap.size := hz
    have hsum : wsum R + wtL y'.l = m := by rw [← wsum_more]; exact hwm
    have hpos := HKY.out.pos
    clear HBq HPop HB1 HK1 HC1 HC2 d1 d2 hz hs1 hs2 hs3 HW hwm
    generalize W.drewN q = W2 at HPop2 HB2 HKR HKY hz2 ⊢
    go_wp2
    go_loopw [4, 5, 39] (fun rv v iv W' => rv = .bool false ∧ ∃ (k : Nat) (T : List Ent), k ≤ y'.l.length ∧ iv = .int .i64 (k : Int) ∧ Hid (Below w.heap.size w W') ∧ w.heap.size + 4 ≤ W'.heap.size ∧ Hid (W'.ownsRow (w.heap.size + 4) 84 2 v T.length (T.flatMap Ent.vals)) ∧ Hid (∀ z ∈ T, EntOk W' (w.heap.size + 4) z) ∧ Hid (EntOk W' (w.heap.size + 4) y') ∧ wsum T + wtL (y'.l.drop k) + k ≤ m) (fun _ _ iv _ => y'.l.length - (intOf iv).toNat)
    case atStart => exact ⟨rfl, 0, R, Nat.zero_le _, rfl, HB2, hz2, HPop2, HKR, HKY, by rw [List.drop_zero]; omega⟩
    case round =>
     obtain ⟨rfl, k, T, hk, rfl, HB3, hz3, HO3, HKT, HKZ, hsm⟩ := hrel
     clear HB2 HPop2 HKR HKY hz2
     by_cases hlt : k < y'.l.length
     ·obtain ⟨b, o, b', o', s, t, eA, eB, hT⟩ := HKZ.out.two hlt
      have hw := wtL_drop y'.l k hlt
      rw [eA, eB]
      generalize y'.l.getD k noRng = r1 at hT hw
      have HT := Lib.hid hT
      have HCS := Lib.hid hT.cs
      have HCT := Lib.hid hT.ct
      have HP1 := Lib.hid hT.p1
      have HP2 := Lib.hid hT.p2
      have HQ1 := Lib.hid hT.q1
      have HQ2 := Lib.hid hT.q2
      have HK := Lib.hid hT.kind
      have HV := Lib.hid hT.ver
      have HN := Lib.hid hT.n
      have HM1 : Hid (s.v.pre.length ≤ maxLen) := hT.fit.pre
      have HM2 : Hid (s.v.build.length ≤ maxLen) := hT.fit.build
      clear hT
      go_upto_region 9 with (fail)
      go_cut [81] (fun x wx => x = .bool false ∧ Below wr.heap.size wr wx)
      case first =>
       have B0 := Lib.hid ((Below.refl wr.heap.size wr).drew)
       refine wp_region_held_drew (S := fun w' => CellsAt w' b (o + k * 7) s ∧ CellsAt w' b' (o' + k * 7) t) (by kernel_rfl) ⟨HCS.out, HCT.out⟩ (fun hHeld => ?_)
       refine tk 0 rfl (.slice (some ⟨b, o, none⟩) y'.l.length y'.e) ?_
       refine tk 1 rfl (.int .i64 (k : Int)) ?_
       refine tk 2 rfl (.pointer (some ⟨b, o + k * 7, none⟩)) ?_
       refine tk 3 rfl (.pointer (some ⟨b, o + k * 7, none⟩)) ?_
       refine tk 4 rfl (.int .i64 s.kind) ?_ fun w' hS' => by obtain ⟨x0, x1, x2, x3, x4, x5, x6⟩ := hS'.1.cells; go_simp
       refine tk 5 rfl (.slice (some ⟨b', o', none⟩) y'.l.length y'.f) ?_
       refine tk 6 rfl (.int .i64 (k : Int)) ?_
       refine tk 7 rfl (.pointer (some ⟨b', o' + k * 7, none⟩)) ?_
       refine tk 8 rfl (.pointer (some ⟨b', o' + k * 7, none⟩)) ?_
       refine tk 9 rfl (.int .i64 s.kind) ?_ fun w' hS' => by obtain ⟨x0, x1, x2, x3, x4, x5, x6⟩ := hS'.2.cells; rw [HK.out] at x0; go_simp
       refine tk 10 rfl (.bool false) ?_
       refine tk 11 rfl (.bool false) ?_
       refine tk 12 rfl (.slice (some ⟨b, o, none⟩) y'.l.length y'.e) ?_
       refine tk 13 rfl (.int .i64 (k : Int)) ?_
       refine tk 14 rfl (.pointer (some ⟨b, o + k * 7, none⟩)) ?_
       refine tk 15 rfl (.pointer (some ⟨b, o + k * 7 + 1, none⟩)) ?_
       refine tk 16 rfl (.agg #[.int .u64 (s.v.a : Int), .int .u64 (s.v.b : Int), .int .u64 (s.v.c : Int), .slice s.A s.v.pre.length s.c, .slice s.B s.v.build.length s.d]) ?_ fun w' hS' => by obtain ⟨x0, x1, x2, x3, x4, x5, x6⟩ := hS'.1.cells; go_simp
       refine tk 17 rfl (.slice (some ⟨b', o', none⟩) y'.l.length y'.f) ?_
       refine tk 18 rfl (.int .i64 (k : Int)) ?_
       refine tk 19 rfl (.pointer (some ⟨b', o' + k * 7, none⟩)) ?_
       refine tk 20 rfl (.pointer (some ⟨b', o' + k * 7 + 1, none⟩)) ?_
       refine tk 21 rfl (.agg #[.int .u64 (s.v.a : Int), .int .u64 (s.v.b : Int), .int .u64 (s.v.c : Int), .slice t.A s.v.pre.length t.c, .slice t.B s.v.build.length t.d]) ?_ fun w' hS' => by obtain ⟨x0, x1, x2, x3, x4, x5, x6⟩ := hS'.2.cells; rw [HV.out] at x1 x2 x3 x4 x5; go_simp
       refine cl 22 rfl fun K hK => ?_
       go_simp
       refine (same_parts s.A s.v.pre.length s.c s.v.pre s.B s.v.build.length s.d s.v.build t.A s.v.pre.length t.c s.v.pre t.B s.v.build.length t.d s.v.build s.v.a s.v.b s.v.c s.v.a s.v.b s.v.c _ (HP1.out.kept B0.out) (HP2.out.kept B0.out) (HQ1.out.kept B0.out) (HQ2.out.kept B0.out) HM1.out HM2.out HM1.out HM2.out).mono ?_
       rintro e w2 ⟨rfl, hb2⟩
       have B2 := Lib.hid (B0.out.trans (hb2.mono B0.out.size))
       clear hb2 hHeld
       rw [sameV_self]
       refine hK.out _ _ ⟨HCS.out.keep (KeepS.of_below (S := fun _ => True) B2.out) trivial, HCT.out.keep (KeepS.of_below (S := fun _ => True) B2.out) trivial⟩ (fun hHeld => ?_)
       clear hK K
       try simp only [Act.put, p1, p2, p3]
       refine tk 23 rfl (.bool false) ?_
       refine tk 24 rfl (.bool false) ?_
       refine tk 25 rfl (.bool false) ?_
       refine tk 26 rfl (.slice (some ⟨b, o, none⟩) y'.l.length y'.e) ?_
       refine tk 27 rfl (.int .i64 (k : Int)) ?_
       refine tk 28 rfl (.pointer (some ⟨b, o + k * 7, none⟩)) ?_
       refine tk 29 rfl (.pointer (some ⟨b, o + k * 7 + 6, none⟩)) ?_
       refine tk 30 rfl (.slice s.L s.n s.e) ?_ fun w' hS' => by obtain ⟨x0, x1, x2, x3, x4, x5, x6⟩ := hS'.1.cells; go_simp
       refine tk 31 rfl (.int .i64 (s.n : Int)) ?_
       refine tk 32 rfl (.slice (some ⟨b', o', none⟩) y'.l.length y'.f) ?_
       refine tk 33 rfl (.int .i64 (k : Int)) ?_
       refine tk 34 rfl (.pointer (some ⟨b', o' + k * 7, none⟩)) ?_
       refine tk 35 rfl (.pointer (some ⟨b', o' + k * 7 + 6, none⟩)) ?_
       refine tk 36 rfl (.slice t.L s.n t.e) ?_ fun w' hS' => by obtain ⟨x0, x1, x2, x3, x4, x5, x6⟩ := hS'.2.cells; rw [HN.out] at x6; go_simp
       refine tk 37 rfl (.int .i64 (s.n : Int)) ?_
       refine tk 38 rfl (.bool false) ?_
       refine tk 39 rfl (.bool false) ?_
       refine wpAnyH_done (by kernel_rfl) ?_ _
       go_wp2
       go_meet
       exact ⟨rfl, B2.out⟩
      case rest =>
       obtain ⟨rfl, hbx⟩ := hcut
       have HB4 := Lib.hid (HB3.out.trans (hbx.mono HB3.out.size))
       have HO4 := Lib.hid (own_below HO3.out hbx)
       have HKT4 : Hid (∀ z ∈ T, EntOk wc (w.heap.size + 4) z) := fun z hz => (HKT.out z hz).kept (KeepS.of_below hbx)
       have HKZ4 : Hid (EntOk wc (w.heap.size + 4) y') := HKZ.out.kept (KeepS.of_below hbx)
       have c6 := (HCS.out.keep (KeepS.of_below (S := fun _ => True) hbx) trivial).cells.2.2.2.2.2.2
       have d6 := (HCT.out.keep (KeepS.of_below (S := fun _ => True) hbx) trivial).cells.2.2.2.2.2.2
       have hln := HT.out.len
       have HRA := HT.out.ra.keep (KeepS.of_below hbx)
       have HRB := HT.out.rb.keep (KeepS.of_below hbx)
       rw [hln] at c6 HRA HRB
       rw [HN.out, hln] at d6
       have HRA := Lib.hid HRA
       have HRB := Lib.hid HRB
       have hz4 : w.heap.size + 4 ≤ wc.heap.size := Nat.le_trans hz3 hbx.size
       have hTl : T.length ≤ 5000000 := by have := wsum_len HKT4.out; omega
       have hlb := HT.out.lt
       have hlc := HT.out.lt'
       clear HT HCS HCT HP1 HP2 HQ1 HQ2 HK HV HN HM1 HM2 HB3 HO3 HKT HKZ hz3 hbx hln
       by_cases hn0 : r1.subs.length = 0
       ·have hw0 : wtL r1.subs = 0 := by rw [List.length_eq_zero_iff.1 hn0]; rfl
        have hb0 : ¬ (0 : Int) < (r1.subs.length : Int) := by omega
        go_wp2
        exact ⟨⟨rfl, k + 1, T, by omega, by go_num, HB4, hz4, HO4, HKT4, HKZ4, by omega⟩, by simp [intOf]; omega⟩
       ·have hb0 : (0 : Int) < (r1.subs.length : Int) := by omega
        have hn1 : 0 < r1.subs.length := by omega
        clear hn0
        go_upto_region 12 with (fail)
        have hbd : Below wc.heap.size wc wc.drew := (Below.refl wc.heap.size wc).drew
        have HB5 : Hid (Below w.heap.size w wc.drew) := HB4.out.trans (hbd.mono HB4.out.size)
        have HO5 := Lib.hid (own_below HO4.out hbd)
        have HKT5 : Hid (∀ z ∈ T, EntOk wc.drew (w.heap.size + 4) z) := fun z hz => (HKT4.out z hz).kept (KeepS.of_below hbd)
        have HKZ5 : Hid (EntOk wc.drew (w.heap.size + 4) y') := HKZ4.out.kept (KeepS.of_below hbd)
        have HRA5 : Hid (RgRow wc.drew (LtB (w.heap.size + 4)) s.L r1.subs.length r1.subs) := HRA.out.keep (KeepS.of_below hbd)
        have HRB5 : Hid (RgRow wc.drew (LtB (w.heap.size + 4)) t.L r1.subs.length r1.subs) := HRB.out.keep (KeepS.of_below hbd)
        have hz5 : w.heap.size + 4 ≤ wc.drew.heap.size := hz4
        clear HB4 HO4 HKT4 HKZ4 HRA HRB hz4
        refine wp_region_held_drew (S := fun w' => KeepS (LtB (w.heap.size + 4)) wc w') (by kernel_rfl) (KeepS.of_below hbd) (fun hHeld => ?_)
        refine tk 0 rfl u5 ?_
        refine tk 1 rfl (.slice (some ⟨b, o, none⟩) y'.l.length y'.e) ?_
        refine tk 2 rfl (.int .i64 (k : Int)) ?_
        refine tk 3 rfl (.pointer (some ⟨b, o + k * 7, none⟩)) ?_
        refine tk 4 rfl (.pointer (some ⟨b, o + k * 7 + 6, none⟩)) ?_
        refine tk 5 rfl (.slice s.L r1.subs.length s.e) ?_ fun w' hS' => by have x6 := hS'.cell _ _ _ hlb c6; go_simp
        refine tk 6 rfl (.slice (some ⟨b', o', none⟩) y'.l.length y'.f) ?_
        refine tk 7 rfl (.int .i64 (k : Int)) ?_
        refine tk 8 rfl (.pointer (some ⟨b', o' + k * 7, none⟩)) ?_
        refine tk 9 rfl (.pointer (some ⟨b', o' + k * 7 + 6, none⟩)) ?_
        refine tk 10 rfl (.slice t.L r1.subs.length t.e) ?_ fun w' hS' => by have x6 := hS'.cell _ _ _ hlc d6; go_simp
        refine tk 11 rfl (.agg #[.slice s.L r1.subs.length s.e, .slice t.L r1.subs.length t.e]) ?_
        refine cl 12 rfl fun K hK => ?_
        go_simp
        refine hK.out _ _ ((KeepS.of_below hbd).trans (KeepS.alloc _ _)) (fun hHeld => ?_)
        clear hK K
        try simp only [Act.put, p1, p2, p3]
        refine cl 13 rfl fun K hK => ?_
        rw [if_pos (by rfl)]
        refine op_append_ent _ _ _ rfl (w.heap.size + 4) _ T rfl (HO5.out.alloc _) ⟨wc.drew.heap.size, 0, none⟩ ⟨r1.subs, s.L, s.e, t.L, t.e⟩ rfl (fun j u hu => news_new wc.drew _ _ j u hu) hTl (by show w.heap.size + 4 ≤ (wc.alloc _).heap.size; rw [size_alloc]; exact Nat.le_succ_of_le hz5) ?_
        intro v' w6 hown hb6
        have hba : Below wc.drew.heap.size wc.drew (wc.drew.alloc (.cells #[.slice s.L r1.subs.length s.e, .slice t.L r1.subs.length t.e] 84)) := (Below.refl _ _).alloc (Nat.le_refl _) _
        have kk : KeepS (LtB (w.heap.size + 4)) wc.drew w6 := (KeepS.of_below hba).trans (KeepS.lt hb6)
        have HB6 : Hid (Below w.heap.size w w6) := (HB5.out.trans (hba.mono HB5.out.size)).trans (hb6.mono (by omega))
        have hz6 : w.heap.size + 4 ≤ w6.heap.size := Nat.le_trans hz5 kk.size
        have HKZ6 : Hid (EntOk w6 (w.heap.size + 4) y') := HKZ5.out.kept kk
        have HKT6 : Hid (∀ z ∈ T ++ [(⟨r1.subs, s.L, s.e, t.L, t.e⟩ : Ent)], EntOk w6 (w.heap.size + 4) z) := fun z hz => by
         rcases List.mem_append.1 hz with h | h
         ·exact (HKT5.out z h).kept kk
         ·rw [List.mem_singleton] at h
          subst h
          exact ⟨HRA5.out.keep kk, HRB5.out.keep kk, hn1⟩
        have HO6 := Lib.hid hown
        refine hK.out _ _ ((KeepS.of_below hbd).trans kk) (fun hHeld2 => ?_)
        clear hK K hown hb6 hba kk hHeld
        try simp only [Act.put, p1, p2, p3]
        refine tk 14 rfl v' ?_
        refine wpAnyH_done (by kernel_rfl) ?_ _
        go_wp2
        exact ⟨⟨rfl, k + 1, _, by omega, by go_num, HB6, hz6, HO6, HKT6, HKZ6, by rw [wsum_more]; show wsum T + wtL r1.subs + _ + _ ≤ _; omega⟩, by simp [intOf]; omega⟩
     ·obtain rfl : k = y'.l.length := by omega
      have hsm2 : wsum T < m := by rw [List.drop_length] at hsm; have : wtL [] = 0 := rfl; omega
      clear hlt hk
      have HB3' := Lib.hid HB3.out
      go_wp2
      go_step3
      exact ⟨rfl, _, ⟨T, _, HB3'.out, hz3, HO3.out, HKT.out, rfl, by omega, rfl, rfl, rfl, rfl, rfl, rfl, rfl, rfl⟩, hsm2⟩
 ·intro HP
  obtain ⟨g1, g2, c0, c1, c2, c3, c4, c5, c6⟩ := HRx.out
  obtain ⟨h1, h2, d0, d1, d2, d3, d4, d5, d6⟩ := HRy.out
  have hsz := HSz.out
  go_wp2
  go_step3
  rename_i hK
  have hb1 : Below W1.heap.size W1 (W1.alloc (.cells #[.int .i64 x.kind, .int .u64 (x.v.a : Int), .int .u64 (x.v.b : Int), .int .u64 (x.v.c : Int), .slice x.A x.v.pre.length x.c, .slice x.B x.v.build.length x.d, .slice x.L x.n x.e] 28)) := (Below.refl _ _).alloc (Nat.le_refl _) _
  have hb2 : Below (W1.alloc (.cells #[.int .i64 x.kind, .int .u64 (x.v.a : Int), .int .u64 (x.v.b : Int), .int .u64 (x.v.c : Int), .slice x.A x.v.pre.length x.c, .slice x.B x.v.build.length x.d, .slice x.L x.n x.e] 28)).heap.size (W1.alloc (.cells #[.int .i64 x.kind, .int .u64 (x.v.a : Int), .int .u64 (x.v.b : Int), .int .u64 (x.v.c : Int), .slice x.A x.v.pre.length x.c, .slice x.B x.v.build.length x.d, .slice x.L x.n x.e] 28)) ((W1.alloc (.cells #[.int .i64 x.kind, .int .u64 (x.v.a : Int), .int .u64 (x.v.b : Int), .int .u64 (x.v.c : Int), .slice x.A x.v.pre.length x.c, .slice x.B x.v.build.length x.d, .slice x.L x.n x.e] 28)).alloc (.cells #[.int .i64 y.kind, .int .u64 (y.v.a : Int), .int .u64 (y.v.b : Int), .int .u64 (y.v.c : Int), .slice y.A y.v.pre.length y.c, .slice y.B y.v.build.length y.d, .slice y.L y.n y.e] 28)) := (Below.refl _ _).alloc (Nat.le_refl _) _
  have z1 : (W1.alloc (.cells #[.int .i64 x.kind, .int .u64 (x.v.a : Int), .int .u64 (x.v.b : Int), .int .u64 (x.v.c : Int), .slice x.A x.v.pre.length x.c, .slice x.B x.v.build.length x.d, .slice x.L x.n x.e] 28)).heap.size = w.heap.size + 3 := by rw [size_alloc, hsz]
  have z2 : ((W1.alloc (.cells #[.int .i64 x.kind, .int .u64 (x.v.a : Int), .int .u64 (x.v.b : Int), .int .u64 (x.v.c : Int), .slice x.A x.v.pre.length x.c, .slice x.B x.v.build.length x.d, .slice x.L x.n x.e] 28)).alloc (.cells #[.int .i64 y.kind, .int .u64 (y.v.a : Int), .int .u64 (y.v.b : Int), .int .u64 (y.v.c : Int), .slice y.A y.v.pre.length y.c, .slice y.B y.v.build.length y.d, .slice y.L y.n y.e] 28)).heap.size = w.heap.size + 4 := by rw [size_alloc, z1]
  have k1 : KeepS (LtB w.heap.size) w W1 := KeepS.lt HBa.out
  have ra : RgRow (W1.alloc (.cells #[.int .i64 x.kind, .int .u64 (x.v.a : Int), .int .u64 (x.v.b : Int), .int .u64 (x.v.c : Int), .slice x.A x.v.pre.length x.c, .slice x.B x.v.build.length x.d, .slice x.L x.n x.e] 28)) (LtB (w.heap.size + 4)) (some ⟨W1.heap.size, 0, none⟩) 1 [r] := RgRow.new W1 28 x r ((HX.out.keep k1).mono fun g hg _ => by unfold LtB at hg ⊢; omega) (by omega)
  have rb : RgRow ((W1.alloc (.cells #[.int .i64 x.kind, .int .u64 (x.v.a : Int), .int .u64 (x.v.b : Int), .int .u64 (x.v.c : Int), .slice x.A x.v.pre.length x.c, .slice x.B x.v.build.length x.d, .slice x.L x.n x.e] 28)).alloc (.cells #[.int .i64 y.kind, .int .u64 (y.v.a : Int), .int .u64 (y.v.b : Int), .int .u64 (y.v.c : Int), .slice y.A y.v.pre.length y.c, .slice y.B y.v.build.length y.d, .slice y.L y.n y.e] 28)) (LtB (w.heap.size + 4)) (some ⟨(W1.alloc (.cells #[.int .i64 x.kind, .int .u64 (x.v.a : Int), .int .u64 (x.v.b : Int), .int .u64 (x.v.c : Int), .slice x.A x.v.pre.length x.c, .slice x.B x.v.build.length x.d, .slice x.L x.n x.e] 28)).heap.size, 0, none⟩) 1 [r] := RgRow.new (W1.alloc (.cells #[.int .i64 x.kind, .int .u64 (x.v.a : Int), .int .u64 (x.v.b : Int), .int .u64 (x.v.c : Int), .slice x.A x.v.pre.length x.c, .slice x.B x.v.build.length x.d, .slice x.L x.n x.e] 28)) 28 y r (((HY.out.keep k1).keep (KeepS.of_below hb1)).mono fun g hg _ => by unfold LtB at hg ⊢; omega) (by omega)
  rw [hsz] at ra
  rw [z1] at rb
  have ho := World.ownsRow_lit (base := w.heap.size + 4) (e := 84) (size := 2) ((W1.alloc (.cells #[.int .i64 x.kind, .int .u64 (x.v.a : Int), .int .u64 (x.v.b : Int), .int .u64 (x.v.c : Int), .slice x.A x.v.pre.length x.c, .slice x.B x.v.build.length x.d, .slice x.L x.n x.e] 28)).alloc (.cells #[.int .i64 y.kind, .int .u64 (y.v.a : Int), .int .u64 (y.v.b : Int), .int .u64 (y.v.c : Int), .slice y.A y.v.pre.length y.c, .slice y.B y.v.build.length y.d, .slice y.L y.n y.e] 28)) #[.slice (some ⟨w.heap.size + 2, 0, none⟩) 1 1, .slice (some ⟨w.heap.size + 3, 0, none⟩) 1 1] 1 (by omega) (by decide) rfl
  rw [z2] at ho
  refine hK _ _ (HP.out (wt r) _ _ ⟨[⟨[r], some ⟨w.heap.size + 2, 0, none⟩, 1, some ⟨w.heap.size + 3, 0, none⟩, 1⟩], _, ?_, ?_, ho, ?_, ?_, hm, rfl, rfl, rfl, rfl, rfl, rfl, rfl, rfl⟩)
  ·exact ((HBa.out.alloc (by omega) _).alloc (by simp; omega) _).alloc (by simp; omega) _
  ·simp; omega
  ·intro z hz
   rw [List.mem_singleton] at hz
   subst hz
   exact ⟨(ra.keep (KeepS.of_below hb2)).keep (KeepS.alloc _ _), rb.keep (KeepS.alloc _ _), Nat.one_pos⟩
  ·show wt r + 0 + 0 = wt r
   rfl
end Go.Proofs.YtgfbflnhjpbceaaGreatDoor.Range
namespace Go.Proofs.YtgfbflnhjpbceaaGreatDoor.Semver
open Num Ident

theorem run_cat : ∀ (d r : List UInt8), AllDig d → (∀ b t, r = b :: t → isDig b = false) → run (d ++ r) = d.length
 | [], r, _, h => by
  cases r with
  | nil => rfl
  | cons b t => rw [List.nil_append, run, h b t rfl]; rfl
 | b :: d, r, hd, h => by
  rw [allDig_cons] at hd
  rw [List.cons_append, run, if_pos hd.1, run_cat d r hd.2 h]; rfl
theorem parse_cat (a d r : List UInt8) (hd : isNum d = true) (hv : val d ≤ maxField) (hr : ∀ b t, r = b :: t → isDig b = false) : parse (a ++ (d ++ r)) (a.length : Int) = (val d, d.length, 0) := by
 have h := (isNum_iff d).1 hd
 have hdrop : (a ++ (d ++ r)).drop a.length = d ++ r := by simp
 have e := parse_at (a ++ (d ++ r)) a.length (by simp) d (by rw [hdrop, run_cat d r (all_of_run h.2.1) hr]; simp)
 rw [e, if_neg (by omega), if_neg (by rw [h.2.2]; simp), if_neg (by omega)]
theorem parse_dec (a r : List UInt8) (x : Nat) (hx : x ≤ maxField) (hr : ∀ b t, r = b :: t → isDig b = false) : parse (a ++ (Lib.decDigits x ++ r)) (a.length : Int) = (x, (Lib.decDigits x).length, 0) := by
 rw [parse_cat a _ r (dec_num x) (by rw [dec_val]; exact hx) hr, dec_val]
theorem point_cat (a r : List UInt8) : point (a ++ 46 :: r) a.length = 0 := by
 refine point_yes (by simp) ?_
 have := byteAt_place a (46 :: r) 0
 rw [Nat.add_zero] at this
 rw [this]; rfl
theorem core2_cat (a r : List UInt8) (x y z : Nat) (hz : z ≤ maxField) (hr : ∀ b t, r = b :: t → isDig b = false) : core2 (a ++ (Lib.decDigits z ++ r)) x y a.length = (0, a.length + (Lib.decDigits z).length, x, y, z) := by
 unfold core2
 rw [parse_dec a r z hz hr]; rfl
theorem stop46 (r : List UInt8) : ∀ b t, (46 : UInt8) :: r = b :: t → isDig b = false := by
 intro b t h
 injection h with h
 rw [← h]; decide
theorem core1_cat (a r : List UInt8) (x y z : Nat) (hy : y ≤ maxField) (hz : z ≤ maxField) (hr : ∀ b t, r = b :: t → isDig b = false) :
  core1 (a ++ (Lib.decDigits y ++ 46 :: (Lib.decDigits z ++ r))) x a.length = (0, a.length + (Lib.decDigits y).length + 1 + (Lib.decDigits z).length, x, y, z) := by
 have e1 : a ++ (Lib.decDigits y ++ 46 :: (Lib.decDigits z ++ r)) = (a ++ Lib.decDigits y) ++ 46 :: (Lib.decDigits z ++ r) := by simp
 have e2 : a ++ (Lib.decDigits y ++ 46 :: (Lib.decDigits z ++ r)) = (a ++ Lib.decDigits y ++ [46]) ++ (Lib.decDigits z ++ r) := by simp
 have h1 := point_cat (a ++ Lib.decDigits y) (Lib.decDigits z ++ r)
 have h2 := core2_cat (a ++ Lib.decDigits y ++ [46]) r x y z hz hr
 rw [← e1, List.length_append] at h1
 rw [← e2] at h2
 simp only [List.length_append, List.length_singleton] at h2
 unfold core1
 rw [parse_dec a _ y hy (stop46 _)]
 simp only [ne_eq, not_true_eq_false, if_false]
 unfold after2
 rw [h1]
 simp only [ne_eq, not_true_eq_false, if_false]
 exact h2
theorem core_cat (r : List UInt8) (x y z : Nat) (hx : x ≤ maxField) (hy : y ≤ maxField) (hz : z ≤ maxField) (hr : ∀ b t, r = b :: t → isDig b = false) :
  core (Lib.decDigits x ++ 46 :: (Lib.decDigits y ++ 46 :: (Lib.decDigits z ++ r))) 0 = (0, (Lib.decDigits x).length + 1 + (Lib.decDigits y).length + 1 + (Lib.decDigits z).length, x, y, z) := by
 have e2 : Lib.decDigits x ++ 46 :: (Lib.decDigits y ++ 46 :: (Lib.decDigits z ++ r)) = (Lib.decDigits x ++ [46]) ++ (Lib.decDigits y ++ 46 :: (Lib.decDigits z ++ r)) := by simp
 have h0 := parse_dec [] (46 :: (Lib.decDigits y ++ 46 :: (Lib.decDigits z ++ r))) x hx (stop46 _)
 have h1 := point_cat (Lib.decDigits x) (Lib.decDigits y ++ 46 :: (Lib.decDigits z ++ r))
 have h2 := core1_cat (Lib.decDigits x ++ [46]) r x y z hy hz hr
 rw [← e2] at h2
 simp only [List.length_append, List.length_singleton] at h2
 rw [List.nil_append, List.length_nil] at h0
 unfold core
 rw [h0]
 simp only [ne_eq, not_true_eq_false, if_false, Nat.zero_add]
 unfold after1
 rw [h1]
 simp only [ne_eq, not_true_eq_false, if_false]
 exact h2

theorem go_cat {pre : Bool} (r : List UInt8) (hr : ∀ b t, r = b :: t → isId b = false ∧ b.toNat ≠ 46) : ∀ (xs : List (List UInt8)) (acc : List (List UInt8)) (n : Nat), xs ≠ [] → goodFrom pre xs acc.length = true → go pre (joined xs ++ r) [] acc n = (0, n + (joined xs).length, acc ++ xs)
 | [], _, _, h, _ => absurd rfl h
 | [x], acc, n, _, h => by
  rw [goodFrom, Bool.and_eq_true, Bool.and_eq_true, beq_iff_eq, beq_iff_eq] at h
  rw [joined_one, go_ids x r [] acc n (lead_full.1 h.1.2), List.nil_append]
  cases r with
  | nil => rw [go, shut, if_pos h.1.1]
  | cons b t => rw [go_else (hr b t rfl).1 (hr b t rfl).2, shut, if_pos h.1.1]
 | x :: y :: s, acc, n, _, h => by
  rw [goodFrom, Bool.and_eq_true, Bool.and_eq_true, beq_iff_eq, beq_iff_eq] at h
  have h2 : goodFrom pre (y :: s) (acc ++ [x]).length = true := by rw [List.length_append]; exact h.2
  rw [joined_cons, List.append_assoc, go_ids x _ [] acc n (lead_full.1 h.1.2), List.nil_append, List.cons_append, go_point (by decide) h.1.1, go_cat r hr (y :: s) (acc ++ [x]) _ (by simp) h2]
  simp; omega
theorem row_cat {pre : Bool} (a r : List UInt8) (xs : List (List UInt8)) (hr : ∀ b t, r = b :: t → isId b = false ∧ b.toNat ≠ 46) (h0 : xs ≠ []) (h : goodFrom pre xs 0 = true) : row (a ++ (joined xs ++ r)) (a.length : Int) pre = (0, (joined xs).length, xs) := by
 have hdrop : (a ++ (joined xs ++ r)).drop a.length = joined xs ++ r := by simp
 have h1 : ¬ ((a.length : Int) < 0 ∨ ((a ++ (joined xs ++ r)).length : Int) < (a.length : Int)) := by simp only [List.length_append]; omega
 unfold row
 rw [if_neg h1, Int.toNat_natCast, hdrop]
 have := go_cat (pre := pre) r hr xs [] 0 h0 h
 simpa using this
theorem rowAt_cat (a r : List UInt8) (xs : List (List UInt8)) (m : Nat) (mb : UInt8) (hm : m = mb.toNat) (hr : ∀ b t, r = b :: t → isId b = false ∧ b.toNat ≠ 46 ∧ b ≠ mb) (h : goodFrom (m == 45) xs 0 = true) :
  rowAt (a ++ (rowText mb xs ++ r)) a.length m = (0, a.length + (rowText mb xs).length, xs) := by
 by_cases h0 : xs = []
 ·subst h0
  rw [rowText_none rfl, List.nil_append]
  refine rowAt_none ?_
  cases r with
  | nil => left; simp
  | cons b t =>
   right
   have hb := (hr b t rfl).2.2
   have := byteAt_place a (b :: t) 0
   rw [Nat.add_zero] at this
   rw [this, hm]
   intro e
   apply hb
   have e2 : (b.toNat : Int) = (mb.toNat : Int) := e
   exact UInt8.toNat_inj.1 (by omega)
 ·have hl : xs.length ≠ 0 := fun e => h0 (List.eq_nil_of_length_eq_zero e)
  rw [rowText_some hl]
  have e1 : a ++ ([mb] ++ joined xs ++ r) = a ++ (mb :: (joined xs ++ r)) := by simp
  have e2 : a ++ ([mb] ++ joined xs ++ r) = (a ++ [mb]) ++ (joined xs ++ r) := by simp
  have hrow := row_cat (pre := (m == 45)) (a ++ [mb]) r xs (fun b t e => ⟨(hr b t e).1, (hr b t e).2.1⟩) h0 h
  rw [← e2, List.length_append, List.length_singleton] at hrow
  have hbyte : byteAt (a ++ ([mb] ++ joined xs ++ r)) a.length = (m : Int) := by
   have := byteAt_place a (mb :: (joined xs ++ r)) 0
   rw [Nat.add_zero] at this
   rw [e1, this, hm]; rfl
  rw [rowAt_some (by simp) hbyte, hrow]
  simp only [List.length_append, List.length_singleton, Nat.add_assoc]

theorem rowText_stop (xs : List (List UInt8)) : ∀ b t, rowText 43 xs = b :: t → isId b = false ∧ b.toNat ≠ 46 ∧ b ≠ 45 := by
 intro b t h
 unfold rowText at h
 split at h
 ·cases h
 ·injection h with h
  rw [← h]; decide
theorem rows_stop (xs ys : List (List UInt8)) : ∀ b t, rowText 45 xs ++ (rowText 43 ys ++ []) = b :: t → isDig b = false := by
 intro b t h
 by_cases h0 : xs.length = 0
 ·rw [rowText_none h0, List.nil_append, List.append_nil] at h
  have h1 := (rowText_stop ys b t h).1
  by_cases h2 : isDig b = true
  ·unfold isId at h1; rw [h2] at h1; simp at h1
  ·simpa using h2
 ·rw [rowText_some h0] at h
  simp only [List.cons_append] at h
  injection h with h
  rw [← h]; decide

theorem text_read {v : Ver} (h : goodV v = true) : vread (vtext v) = (0, 0, v) := by
 unfold goodV at h
 rw [Bool.and_eq_true, Bool.and_eq_true] at h
 obtain ⟨h1, h2, h3⟩ := h
 have hh := of_decide_eq_true h1
 obtain ⟨L1, hL1⟩ : ∃ L, (Lib.decDigits v.a).length + 1 + (Lib.decDigits v.b).length + 1 + (Lib.decDigits v.c).length = L := ⟨_, rfl⟩
 have c1 := core_cat (rowText 45 v.pre ++ (rowText 43 v.build ++ [])) v.a v.b v.c hh.1 hh.2.1 hh.2.2 (rows_stop v.pre v.build)
 rw [hL1] at c1
 obtain ⟨a, ha⟩ : ∃ a, Lib.decDigits v.a ++ [46] ++ Lib.decDigits v.b ++ [46] ++ Lib.decDigits v.c = a := ⟨_, rfl⟩
 have hal : a.length = L1 := by rw [← ha, ← hL1]; simp; omega
 have e0 : vtext v = a ++ (rowText 45 v.pre ++ (rowText 43 v.build ++ [])) := by unfold vtext; rw [ha]; simp
 have e1 : Lib.decDigits v.a ++ 46 :: (Lib.decDigits v.b ++ 46 :: (Lib.decDigits v.c ++ (rowText 45 v.pre ++ (rowText 43 v.build ++ [])))) = vtext v := by rw [e0, ← ha]; simp
 have r1 := rowAt_cat a (rowText 43 v.build ++ []) v.pre 45 45 rfl (fun b t e => rowText_stop v.build b t (by rw [List.append_nil] at e; exact e)) h2
 have e2 : vtext v = (a ++ rowText 45 v.pre) ++ (rowText 43 v.build ++ []) := by rw [e0]; simp
 have r2 := rowAt_cat (a ++ rowText 45 v.pre) [] v.build 43 43 rfl (fun b t e => by cases e) h3
 rw [e1] at c1
 rw [← e0, hal] at r1
 rw [← e2, List.length_append, hal] at r2
 have hlen : (vtext v).length = L1 + (rowText 45 v.pre).length + (rowText 43 v.build).length := by rw [e2]; simp [hal]; omega
 have hp : vparse (vtext v) 0 = (0, L1 + (rowText 45 v.pre).length + (rowText 43 v.build).length, v) := by
  unfold vparse
  rw [if_neg (by omega), Int.toNat_zero]
  unfold inside
  rw [c1]
  simp only [ne_eq, not_true_eq_false, if_false]
  unfold tail1
  rw [r1]
  simp only [ne_eq, not_true_eq_false, if_false]
  unfold tail2
  rw [r2]
  simp only [ne_eq, not_true_eq_false, if_false]
 unfold vread
 rw [hp]
 simp [hlen]
end Go.Proofs.YtgfbflnhjpbceaaGreatDoor.Semver
