/-
  What the theorem of the last text needs of these: RgMem, SvRead, RgWeight, RgFore, SpMem, RgPass, SpSort. Conditions: as each theorem states.
-/
import Derived.Test.YtgakcdcfblgagaaDoorJoA1
import Derived.Test.YtgakcdcfblgagaaDoorJoA2
import Derived.Test.YtgakcdcfblgagaaDoorJoA3
import Derived.Test.YtgakcdcfblgagaaDoorJoA4
import Derived.Test.YtgakcdcfblgagaaDoorJoA5
import Derived.Test.YtgakcdcfblgagaaDoorJoA6
import Derived.Deep.Draws
import Derived.Deep.CutBlock
import Derived.Deep.DeepCutAuto
import Derived.Test.YtgakcdcfblgagaaDoorShelfPre
import Derived.StillTailTactics
import Derived.Deep.QuietTactic
import Derived.BigQuiet
import Derived.Deep.RegionHeld3
import Derived.Test.YtgakcdcfblgagaaDoorChecked
import Derived.WalkKit
import Derived.ChangeKeysEq
import Derived.Laws.StructEq
import Derived.Shelf.SlSortCmp.NoneTotal
import Derived.Lib.QuietBelow
set_option maxRecDepth 100000
set_option maxHeartbeats 25600000
namespace Go.Proofs.YtgakcdcfblgagaaDoor.Range
open Go.RowKit Num Ident Semver

structure Keep (w w':World):Prop where
 size:w.heap.size≤w'.heap.size
 cell:∀ g o v,w.cell? ⟨g,o,none⟩=some v→((∀ x,v≠.int .i64 x)∨(w.cell? ⟨g,o+1,none⟩).isSome=true)→w'.cell? ⟨g,o,none⟩=some v
theorem block_lt {w:World} {g o:Nat} {v:Value} (h:w.cell? ⟨g,o,none⟩=some v):g<w.heap.size:=World.block_lt_of_cell? w _ h
theorem Keep.of_below {w w':World} (h:Below w.heap.size w w'):Keep w w' :=
 ⟨h.size,fun g o _ hc _=>(h.cell (p:=⟨g,o,none⟩) (block_lt hc)).trans hc⟩

structure Rd (w:World) (b:Nat) (A:Option Addr) (n c p:Nat):Prop where
 lt:b<w.heap.size
 open_:∀ o,w.frozen? ⟨b,o,none⟩=false
 row:w.cell? ⟨b,0,none⟩=some (.slice A n c)
 at_:w.cell? ⟨b,1,none⟩=some (.int .i64 p)
 end_:w.cell? ⟨b,2,none⟩=none
structure Moved (b:Nat) (w w':World):Prop where
 os:w'.os=w.os
 tape:w'.tape=w.tape
 output:w'.output=w.output
 size:w.heap.size≤w'.heap.size
 block:∀ k,k<w.heap.size→k≠b→w'.heap[k]?=w.heap[k]?
 cell:∀ o,o≠1→w'.cell? ⟨b,o,none⟩=w.cell? ⟨b,o,none⟩
 frozen:∀ o,w'.frozen? ⟨b,o,none⟩=w.frozen? ⟨b,o,none⟩
theorem Moved.refl (b:Nat) (w:World):Moved b w w:=⟨rfl,rfl,rfl,Nat.le_refl _,fun _ _ _=>rfl,fun _ _=>rfl,fun _=>rfl⟩
theorem Moved.trans {b:Nat} {u v w:World} (h:Moved b u v) (k:Moved b v w):Moved b u w :=
 ⟨k.os.trans h.os,k.tape.trans h.tape,k.output.trans h.output,Nat.le_trans h.size k.size,fun i hi hb=>(k.block i (Nat.lt_of_lt_of_le hi h.size) hb).trans (h.block i hi hb),fun o ho=>(k.cell o ho).trans (h.cell o ho),fun o=>(k.frozen o).trans (h.frozen o)⟩
theorem Moved.below {b B:Nat} {u v w:World} (h:Moved b u v) (k:Below B v w) (hB:u.heap.size≤B) (hb:b<u.heap.size):Moved b u w :=
 ⟨k.os.trans h.os,k.tape.trans h.tape,k.output.trans h.output,Nat.le_trans h.size k.size,fun i hi hne=>(k.block i (Nat.lt_of_lt_of_le hi hB)).trans (h.block i hi hne),
  fun o ho=>(k.cell (p:=⟨b,o,none⟩) (Nat.lt_of_lt_of_le hb hB)).trans (h.cell o ho),fun o=>(k.frozen (p:=⟨b,o,none⟩) (Nat.lt_of_lt_of_le hb hB)).trans (h.frozen o)⟩
theorem Moved.alloc {b:Nat} {u v:World} (h:Moved b u v) (hb:b<u.heap.size) (o:Obj):Moved b u (v.alloc o):=h.below ((Below.refl _ _).alloc h.size o) (Nat.le_refl _) hb
theorem Moved.set {b:Nat} {u v:World} (h:Moved b u v) (hb:b<u.heap.size) {p:Addr} (hp:u.heap.size≤p.block) (x:Value):Moved b u (v.setCell p x):=h.below ((Below.refl _ _).setCell hp x) (Nat.le_refl _) hb
theorem Moved.below_of {b:Nat} {u v:World} (h:Moved b u v) (hb:b≤u.heap.size):Below b u v:=⟨h.os,h.tape,h.output,h.size,fun k hk=>h.block k (by omega) (by omega)⟩
theorem Rd.kept {w w':World} {b:Nat} {A:Option Addr} {n c p:Nat} (h:Rd w b A n c p) {B:Nat} (k:Below B w w') (hB:b<B):Rd w' b A n c p :=
 ⟨Nat.lt_of_lt_of_le h.lt k.size,fun o=>(k.frozen (p:=⟨b,o,none⟩) hB).trans (h.open_ o),(k.cell (p:=⟨b,0,none⟩) hB).trans h.row,(k.cell (p:=⟨b,1,none⟩) hB).trans h.at_,(k.cell (p:=⟨b,2,none⟩) hB).trans h.end_⟩
theorem Rd.alloc {w:World} {b:Nat} {A:Option Addr} {n c p:Nat} (h:Rd w b A n c p) (o:Obj):Rd (w.alloc o) b A n c p:=h.kept ((Below.refl w.heap.size w).alloc (Nat.le_refl _) o) h.lt
theorem Rd.set {w:World} {b:Nat} {A:Option Addr} {n c p:Nat} (h:Rd w b A n c p) {q:Addr} (hq:b<q.block) (x:Value):Rd (w.setCell q x) b A n c p:=h.kept ((Below.refl (b+1) w).setCell hq x) (Nat.lt_succ_self _)
theorem Rd.move {w:World} {b:Nat} {A:Option Addr} {n c p:Nat} (h:Rd w b A n c p) (q:Nat):Rd (w.setCell ⟨b,1,none⟩ (.int .i64 q)) b A n c q:=by
 refine ⟨by simpa using h.lt,fun o=>by simp [go_sem,h.open_],?_,?_,?_⟩
 ·rw [cell_beside _ _ _ _ _ (by omega)]; exact h.row
 ·exact World.cell?_setCell_same _ _ _ h.at_
 ·rw [cell_beside _ _ _ _ _ (by omega)]; exact h.end_
theorem Moved.at_ {w:World} {b:Nat} (x:Value):Moved b w (w.setCell ⟨b,1,none⟩ x) :=
 ⟨rfl,rfl,rfl,by simp,fun k _ hk=>Below.heap_setCell _ _ _ _ hk,fun o ho=>cell_beside _ _ _ _ _ (fun e=>ho e.symm),fun o=>by simp [go_sem]⟩
theorem Moved.move {u w:World} {b:Nat} (h:Moved b u w) (x:Value):Moved b u (w.setCell ⟨b,1,none⟩ x):=h.trans (Moved.at_ x)
theorem Rd.keep {w w':World} {b:Nat} {A:Option Addr} {n c p:Nat} (h:Rd w b A n c p) (k:Moved b w w'):Keep w w':=by
 refine ⟨k.size,fun g o v hc hv=>?_⟩
 by_cases hg:g=b
 ·subst hg
  by_cases ho:o=1
  ·subst ho
   rcases hv with hv | hv
   ·rw [h.at_] at hc
    injection hc with hc
    exact absurd hc.symm (hv _)
   ·rw [h.end_] at hv; cases hv
  ·rw [k.cell o ho]; exact hc
 ·exact (World.cell?_of_block (w:=w) (a:=⟨g,o,none⟩) (k.block g (block_lt hc) hg)).trans hc
theorem Rd.drewN {w:World} {b:Nat} {A:Option Addr} {n c p:Nat} (h:Rd w b A n c p) (k:Nat):Rd (w.drewN k) b A n c p:=⟨h.lt,h.open_,h.row,h.at_,h.end_⟩
theorem Rd.drew {w:World} {b:Nat} {A:Option Addr} {n c p:Nat} (h:Rd w b A n c p):Rd w.drew b A n c p:=⟨h.lt,h.open_,h.row,h.at_,h.end_⟩
theorem Moved.drewN {b:Nat} {u w:World} (h:Moved b u w) (k:Nat):Moved b u (w.drewN k):=⟨h.os,h.tape,h.output,h.size,h.block,h.cell,h.frozen⟩
theorem Moved.drew {b:Nat} {u w:World} (h:Moved b u w):Moved b u w.drew:=⟨h.os,h.tape,h.output,h.size,h.block,h.cell,h.frozen⟩
theorem Keep.drew (w:World):Keep w w.drew:=⟨Nat.le_refl _,fun _ _ _ h _=>h⟩
theorem row_keep {w w':World} {A:Option Addr} {n:Nat} {l:List UInt8} (h:Row w A n l) (k:Keep w w'):Row w' A n l:=by
 refine ⟨h.1,h.2.1,fun h0=>?_⟩
 obtain ⟨b,o,e,hlt,hc⟩:=h.2.2 h0
 exact ⟨b,o,e,Nat.lt_of_lt_of_le hlt k.size,fun j hj=>k.cell _ _ _ (hc j hj) (.inl fun x e=>by injection e with e _; cases e)⟩

structure KeepS (S:Nat→Prop) (w w':World):Prop where
 size:w.heap.size≤w'.heap.size
 cell:∀ g o v,S g→w.cell? ⟨g,o,none⟩=some v→w'.cell? ⟨g,o,none⟩=some v
theorem KeepS.of_below {w w':World} {S:Nat→Prop} (h:Below w.heap.size w w'):KeepS S w w':=⟨h.size,fun g o _ _ hc=>(h.cell (p:=⟨g,o,none⟩) (block_lt hc)).trans hc⟩
theorem KeepS.trans {S:Nat→Prop} {u v w:World} (h:KeepS S u v) (k:KeepS S v w):KeepS S u w:=⟨Nat.le_trans h.size k.size,fun g o x hg hc=>k.cell g o x hg (h.cell g o x hg hc)⟩
theorem KeepS.alloc {S:Nat→Prop} (w:World) (o:Obj):KeepS S w (w.alloc o):=KeepS.of_below ((Below.refl _ _).alloc (Nat.le_refl _) o)
theorem KeepS.set {S:Nat→Prop} {w:World} {g o:Nat} (hg:¬ S g) (v:Value):KeepS S w (w.setCell ⟨g,o,none⟩ v):=by
 refine ⟨by simp,fun g' o' x hg' hc=>?_⟩
 rw [World.cell?_setCell_other _ _ _ _ (by intro e; injection e with e _; rw [← e] at hg'; exact hg hg')]; exact hc
theorem KeepS.moved {S:Nat→Prop} {w w':World} {b:Nat} (k:Moved b w w') (hb:¬ S b):KeepS S w w' :=
 ⟨k.size,fun g o _ hg hc=>(World.cell?_of_block (w:=w) (a:=⟨g,o,none⟩) (k.block g (block_lt hc) (fun e=>hb (e ▸ hg)))).trans hc⟩
theorem KeepS.grown {S:Nat→Prop} {w w':World} {row:Option Nat} (k:w.grownBy w' row) (hb:∀ g,S g→some g≠row):KeepS S w w' :=
 ⟨k.size,fun g o _ hg hc=>(World.cell?_of_block (w:=w) (a:=⟨g,o,none⟩) (k.block g (block_lt hc) (hb g hg))).trans hc⟩
def InS (S:Nat→Prop) (A:Option Addr) (n:Nat):Prop:=0<n→∃ b o,A=some ⟨b,o,none⟩∧S b
theorem InS.none_ (S:Nat→Prop) (A:Option Addr):InS S A 0:=fun h=>absurd h (Nat.lt_irrefl _)
theorem srow_keepS {w w':World} {S:Nat→Prop} {A:Option Addr} {n:Nat} {xs:List (List UInt8)} (h:SRow w A n xs) (k:KeepS S w w') (hs:InS S A n):SRow w' A n xs:=by
 refine ⟨h.1,fun h0=>?_⟩
 obtain ⟨b,o,e,hlt,hc⟩:=h.2 h0
 obtain ⟨b',o',e',hb⟩:=hs h0
 rw [e] at e'
 injection e' with e'
 injection e' with e1 e2
 subst e1
 exact ⟨b,o,e,Nat.lt_of_lt_of_le hlt k.size,fun j hj=>k.cell _ _ _ hb (hc j hj)⟩
theorem InS.mono {S S':Nat→Prop} {w:World} {A:Option Addr} {n:Nat} {xs:List (List UInt8)} (h:InS S A n) (hr:SRow w A n xs) (hS:∀ b,S b→b<w.heap.size→S' b):InS S' A n:=fun h0=>by
 obtain ⟨b,o,e,hb⟩:=h h0
 obtain ⟨b',o',e',hlt,_⟩:=hr.2 h0
 rw [e] at e'
 injection e' with e'
 injection e' with e1 e2
 subst e1
 exact ⟨b,o,e,hS b hb hlt⟩
structure FitV (v:Ver):Prop where
 a:v.a<18446744073709551616
 b:v.b<18446744073709551616
 c:v.c<18446744073709551616
 pre:v.pre.length≤maxLen
 build:v.build.length≤maxLen
 pres:∀ x ∈ v.pre,x.length≤maxLen
 builds:∀ x ∈ v.build,x.length≤maxLen
theorem FitV.none:FitV noVer:=⟨by decide,by decide,by decide,Nat.zero_le _,Nat.zero_le _,(fun x h=>by cases h),(fun x h=>by cases h)⟩
structure RV where
 kind:Int
 v:Ver
 A:Option Addr
 c:Nat
 B:Option Addr
 d:Nat
 L:Option Addr
 n:Nat
 e:Nat
instance:Coe RV Value:=⟨fun x=>.agg #[.int .i64 x.kind,.int .u64 x.v.a,.int .u64 x.v.b,.int .u64 x.v.c,.slice x.A x.v.pre.length x.c,.slice x.B x.v.build.length x.d,.slice x.L x.n x.e]⟩
instance:Coe RV Obj:=⟨fun x=>.cells #[.int .i64 x.kind,.int .u64 x.v.a,.int .u64 x.v.b,.int .u64 x.v.c,.slice x.A x.v.pre.length x.c,.slice x.B x.v.build.length x.d,.slice x.L x.n x.e] 51⟩
instance:Inhabited RV:=⟨⟨0,noVer,none,0,none,0,none,0,0⟩⟩
def RV.vals (x:RV):List Value:=[.int .i64 x.kind,.int .u64 x.v.a,.int .u64 x.v.b,.int .u64 x.v.c,.slice x.A x.v.pre.length x.c,.slice x.B x.v.build.length x.d,.slice x.L x.n x.e]
theorem rv_len (x:RV):x.vals.length=7:=rfl
theorem rv_one (x:RV):∀ u ∈ x.vals,u.oneCell'=true:=by
 intro u hu; simp only [RV.vals,List.mem_cons,List.mem_nil_iff,or_false] at hu
 rcases hu with rfl | rfl | rfl | rfl | rfl | rfl | rfl <;> rfl
def CellsAt (w:World) (b o:Nat) (x:RV):Prop:=∀ i u,x.vals[i]?=some u→w.cell? ⟨b,o+i,none⟩=some u
theorem CellsAt.keep {w w':World} {S:Nat→Prop} {b o:Nat} {x:RV} (h:CellsAt w b o x) (k:KeepS S w w') (hb:S b):CellsAt w' b o x:=fun i u hu=>k.cell _ _ _ hb (h i u hu)
theorem CellsAt.lt {w:World} {b o:Nat} {x:RV} (h:CellsAt w b o x):b<w.heap.size:=block_lt (h 0 _ rfl)
inductive Lies (w:World) (S:Nat→Prop):Rng→RV→Prop
 | mk (x:RV) (l:List Rng) (f:Nat→RV) (hn:x.n=l.length) (he:x.n≤x.e) (pre:SRow w x.A x.v.pre.length x.v.pre) (build:SRow w x.B x.v.build.length x.v.build) (ip:InS S x.A x.v.pre.length) (ib:InS S x.B x.v.build.length) (cp:x.v.pre.length≤x.c) (cb:x.v.build.length≤x.d)
   (fit:FitV x.v) (nil:x.L=none→x.e=0)
   (cells:0<x.n→∃ b o,x.L=some ⟨b,o,none⟩∧S b∧∀ j,j<x.n→CellsAt w b (o+j * 7) (f j)) (subs:∀ j,j<x.n→Lies w S (l.getD j noRng) (f j)):Lies w S (.mk x.kind x.v l) x
theorem Lies.keep {w w':World} {S:Nat→Prop} {r:Rng} {x:RV} (h:Lies w S r x) (k:KeepS S w w'):Lies w' S r x:=by
 induction h with
 | mk x l f hn he pre build ip ib cp cb fit nil cells _ ih =>
  refine Lies.mk x l f hn he (srow_keepS pre k ip) (srow_keepS build k ib) ip ib cp cb fit nil (fun h0=>?_) ih
  obtain ⟨b,o,e,hb,hc⟩:=cells h0
  exact ⟨b,o,e,hb,fun j hj=>(hc j hj).keep k hb⟩
theorem Lies.mono {w:World} {S S':Nat→Prop} {r:Rng} {x:RV} (h:Lies w S r x) (hS:∀ b,S b→b<w.heap.size→S' b):Lies w S' r x:=by
 induction h with
 | mk x l f hn he pre build ip ib cp cb fit nil cells _ ih =>
  refine Lies.mk x l f hn he pre build (ip.mono pre hS) (ib.mono build hS) cp cb fit nil (fun h0=>?_) ih
  obtain ⟨b,o,e,hb,hc⟩:=cells h0
  exact ⟨b,o,e,hS b hb (hc 0 h0).lt,hc⟩
def RgRow (w:World) (S:Nat→Prop) (L:Option Addr) (n:Nat) (l:List Rng):Prop :=
 ∃ f:Nat→RV,l.length=n∧(0<n→∃ b o,L=some ⟨b,o,none⟩∧S b∧∀ j,j<n→CellsAt w b (o+j * 7) (f j))∧∀ j,j<n→Lies w S (l.getD j noRng) (f j)
structure Says (w:World) (S:Nat→Prop) (r:Rng) (x:RV):Prop where
 kind:r.kind=x.kind
 ver:r.ver=x.v
 pre:SRow w x.A x.v.pre.length x.v.pre
 build:SRow w x.B x.v.build.length x.v.build
 ip:InS S x.A x.v.pre.length
 ib:InS S x.B x.v.build.length
 cp:x.v.pre.length≤x.c
 cb:x.v.build.length≤x.d
 fit:FitV x.v
 nil:x.L=none→x.e=0
 cap:x.n≤x.e
 subs:RgRow w S x.L x.n r.subs
theorem Lies.version {w:World} {S:Nat→Prop} (kind:Int) (v:Ver) (A:Option Addr) (c:Nat) (B:Option Addr) (d:Nat) (pre:SRow w A v.pre.length v.pre) (build:SRow w B v.build.length v.build) (ip:InS S A v.pre.length) (ib:InS S B v.build.length) (cp:v.pre.length≤c) (cb:v.build.length≤d) (fit:FitV v) :
  Lies w S (.mk kind v []) ⟨kind,v,A,c,B,d,none,0,0⟩ :=
 Lies.mk ⟨kind,v,A,c,B,d,none,0,0⟩ [] (fun _=>default) rfl (Nat.le_refl _) pre build ip ib cp cb fit (fun _=>rfl) (fun h=>absurd h (Nat.lt_irrefl _)) (fun _ hj=>absurd hj (Nat.not_lt_zero _))
def zeroRV (kind:Int):RV:=⟨kind,noVer,none,0,none,0,none,0,0⟩
theorem Lies.zero (w:World) (S:Nat→Prop) (kind:Int):Lies w S (.mk kind noVer []) (zeroRV kind) :=
 Lies.version kind noVer none 0 none 0 (SRow.none_ _ _) (SRow.none_ _ _) (InS.none_ _ _) (InS.none_ _ _) (Nat.le_refl _) (Nat.le_refl _) FitV.none
theorem Lies.many {w:World} {S:Nat→Prop} (kind:Int) {L:Option Addr} {n e:Nat} {l:List Rng} (h:RgRow w S L n l) (he:n≤e) (nil:L=none→e=0):Lies w S (.mk kind noVer l) ⟨kind,noVer,none,0,none,0,L,n,e⟩:=by
 obtain ⟨f,h1,h2,h3⟩:=h
 exact Lies.mk ⟨kind,noVer,none,0,none,0,L,n,e⟩ l f h1.symm he (SRow.none_ _ _) (SRow.none_ _ _) (InS.none_ _ _) (InS.none_ _ _) (Nat.le_refl _) (Nat.le_refl _) FitV.none nil h2 h3
def RV.agg (x:RV):Value:=.agg #[x.kind,x.v.a,x.v.b,x.v.c,.slice x.A x.v.pre.length x.c,.slice x.B x.v.build.length x.d,.slice x.L x.n x.e]
theorem CellsAt.cells {w:World} {b o:Nat} {x:RV} (h:CellsAt w b o x):w.cell? ⟨b,o,none⟩=some (.int .i64 x.kind)∧w.cell? ⟨b,o+1,none⟩=some (.int .u64 x.v.a)∧w.cell? ⟨b,o+2,none⟩=some (.int .u64 x.v.b)∧w.cell? ⟨b,o+3,none⟩=some (.int .u64 x.v.c)∧w.cell? ⟨b,o+4,none⟩=some (.slice x.A x.v.pre.length x.c)∧w.cell? ⟨b,o+5,none⟩=some (.slice x.B x.v.build.length x.d)∧w.cell? ⟨b,o+6,none⟩=some (.slice x.L x.n x.e) :=
 ⟨h 0 _ rfl,h 1 _ rfl,h 2 _ rfl,h 3 _ rfl,h 4 _ rfl,h 5 _ rfl,h 6 _ rfl⟩
theorem RgRow.of_own {w:World} {S:Nat→Prop} {base:Nat} {v:Value} {n:Nat} {xs:List RV} {l:List Rng} (h:w.ownsRow base 51 7 v n (xs.flatMap RV.vals)) (hB:∀ g,base≤g→S g) (hx:xs.length=n) (hl:l.length=n) (hs:∀ j,j<n→Lies w S (l.getD j noRng) (xs.getD j default)) :
  ∃ L e,v=.slice L n e∧n≤e∧(L=none→e=0)∧RgRow w S L n l:=by
 obtain ⟨L,e,h1,h2,h3,h4⟩:=own_cells rv_len h hx
 refine ⟨L,e,h1,h2,h3,fun j=>xs.getD j default,hl,fun h0=>?_,hs⟩
 obtain ⟨g,e1,hg,_,_,hc⟩:=h4 h0
 exact ⟨g,0,e1,hB g hg,fun j hj i u hu=>hc j hj i u hu⟩
structure Pl (l:List UInt8) (p:Nat) (s:List UInt8):Prop where
 le:p≤l.length
 eq:s=l.drop p
theorem Pl.len {l s:List UInt8} {p:Nat} (h:Pl l p s):s.length=l.length - p:=by rw [h.eq,List.length_drop]
theorem Pl.drop {l s:List UInt8} {p k:Nat} (h:Pl l p s) (hk:p+k≤l.length):Pl l (p+k) (s.drop k):=⟨hk,by rw [h.eq,List.drop_drop]⟩
def RAt (W:World) (g:Nat) (x:RV):Prop:=At7 W g x.kind x.v.a x.v.b x.v.c (.slice x.A x.v.pre.length x.c) (.slice x.B x.v.build.length x.d) (.slice x.L x.n x.e)
theorem RAt.new (w:World) (t:TypeId) (x:RV):RAt (w.alloc (.cells #[x.kind,x.v.a,x.v.b,x.v.c,.slice x.A x.v.pre.length x.c,.slice x.B x.v.build.length x.d,.slice x.L x.n x.e] t)) w.heap.size x:=At7.new w t _ _ _ _ _ _ _
theorem RAt.kept {W W':World} {g B:Nat} {x:RV} (h:RAt W g x) (hb:Below B W W') (hB:g<B):RAt W' g x:=At7.kept h hb hB
theorem At7.moved {W W':World} {b B:Nat} {u0 u1 u2 u3 u4 u5 u6:Value} (h:At7 W B u0 u1 u2 u3 u4 u5 u6) (hm:Moved b W W') (hne:B≠b):At7 W' B u0 u1 u2 u3 u4 u5 u6:=by
 obtain ⟨h1,h2,c0,c1,c2,c3,c4,c5,c6⟩:=h
 have k:=hm.block B h1 hne
 have kc:∀ o,W'.cell? ⟨B,o,none⟩=W.cell? ⟨B,o,none⟩:=fun o=>World.cell?_of_block (w:=W) (a:=⟨B,o,none⟩) k
 exact ⟨Nat.lt_of_lt_of_le h1 hm.size,fun o=>(World.frozen?_of_block (w:=W) (a:=⟨B,o,none⟩) k).trans (h2 o),(kc 0).trans c0,(kc 1).trans c1,(kc 2).trans c2,(kc 3).trans c3,(kc 4).trans c4,(kc 5).trans c5,(kc 6).trans c6⟩
theorem RAt.moved {W W':World} {b g:Nat} {x:RV} (h:RAt W g x) (hm:Moved b W W') (hne:g≠b):RAt W' g x:=At7.moved h hm hne
theorem At7.grown {w w':World} {row:Option Nat} {g:Nat} {u0 u1 u2 u3 u4 u5 u6:Value} (h:At7 w g u0 u1 u2 u3 u4 u5 u6) (hg:w.grownBy w' row) (hne:some g≠row):At7 w' g u0 u1 u2 u3 u4 u5 u6:=by
 obtain ⟨h1,h2,c0,c1,c2,c3,c4,c5,c6⟩:=h
 have k:=hg.block g h1 hne
 have kc:∀ o,w'.cell? ⟨g,o,none⟩=w.cell? ⟨g,o,none⟩:=fun o=>World.cell?_of_block (w:=w) (a:=⟨g,o,none⟩) k
 exact ⟨Nat.lt_of_lt_of_le h1 hg.size,fun o=>(World.frozen?_of_block (w:=w) (a:=⟨g,o,none⟩) k).trans (h2 o),(kc 0).trans c0,(kc 1).trans c1,(kc 2).trans c2,(kc 3).trans c3,(kc 4).trans c4,(kc 5).trans c5,(kc 6).trans c6⟩
theorem RAt.grown {w w':World} {row:Option Nat} {g:Nat} {x:RV} (h:RAt w g x) (hg:w.grownBy w' row) (hne:some g≠row):RAt w' g x:=At7.grown h hg hne
theorem Rd.grown {w w':World} {row:Option Nat} {b:Nat} {A:Option Addr} {n c p:Nat} (h:Rd w b A n c p) (hg:w.grownBy w' row) (hne:some b≠row):Rd w' b A n c p:=by
 have k:=hg.block b h.lt hne
 have kc:∀ o,w'.cell? ⟨b,o,none⟩=w.cell? ⟨b,o,none⟩:=fun o=>World.cell?_of_block (w:=w) (a:=⟨b,o,none⟩) k
 exact ⟨Nat.lt_of_lt_of_le h.lt hg.size,fun o=>(World.frozen?_of_block (w:=w) (a:=⟨b,o,none⟩) k).trans (h.open_ o),(kc 0).trans h.row,(kc 1).trans h.at_,(kc 2).trans h.end_⟩
theorem Moved.grown {u w w':World} {row:Option Nat} {b:Nat} (h:Moved b u w) (hg:w.grownBy w' row) (hb:b<u.heap.size) (hr:∀ g,row=some g→u.heap.size≤g):Moved b u w' :=
 h.below ((Below.refl _ _).grown hg h.size hr) (Nat.le_refl _) hb
def setR (W:World) (g:Nat) (x:RV):World:=(((((((W.setCell ⟨g,0,none⟩ x.kind).setCell ⟨g,1,none⟩ x.v.a).setCell ⟨g,2,none⟩ x.v.b).setCell ⟨g,3,none⟩ x.v.c).setCell ⟨g,4,none⟩ (.slice x.A x.v.pre.length x.c)).setCell ⟨g,5,none⟩ (.slice x.B x.v.build.length x.d)).setCell ⟨g,6,none⟩ (.slice x.L x.n x.e))
theorem setR_at {W:World} {g:Nat} {x y:RV} (h:RAt W g y):RAt (setR W g x) g x:=by
 obtain ⟨h1,h2,c0,c1,c2,c3,c4,c5,c6⟩:=h
 unfold setR
 refine ⟨by simpa using h1,fun o=>by simp [go_sem,h2],?_,?_,?_,?_,?_,?_,?_⟩ <;> simp [go_sem,c0,c1,c2,c3,c4,c5,c6]
theorem setR_below {W:World} {g:Nat} (B:Nat) (hB:B≤g) (x:RV):Below B W (setR W g x):=by
 unfold setR
 exact ((((((((Below.refl B W).setCell (p:=⟨g,0,none⟩) hB _).setCell (p:=⟨g,1,none⟩) hB _).setCell (p:=⟨g,2,none⟩) hB _).setCell (p:=⟨g,3,none⟩) hB _).setCell (p:=⟨g,4,none⟩) hB _).setCell (p:=⟨g,5,none⟩) hB _).setCell (p:=⟨g,6,none⟩) hB _)
theorem setR_rd {W:World} {g b:Nat} {A:Option Addr} {n c p:Nat} (h:Rd W b A n c p) (hb:b<g) (x:RV):Rd (setR W g x) b A n c p:=h.kept (setR_below g (Nat.le_refl _) x) hb
theorem setR_moved {W u:World} {g b:Nat} (h:Moved b u W) (hb:b<u.heap.size) (hg:u.heap.size≤g) (x:RV):Moved b u (setR W g x):=h.below (setR_below g (Nat.le_refl _) x) hg hb
theorem setR_keep {W:World} {g:Nat} {S:Nat→Prop} (hg:¬ S g) (x:RV):KeepS S W (setR W g x):=by
 unfold setR
 exact (KeepS.set hg _).trans ((KeepS.set hg _).trans ((KeepS.set hg _).trans ((KeepS.set hg _).trans ((KeepS.set hg _).trans ((KeepS.set hg _).trans (KeepS.set hg _))))))
def From (B:Nat) (g:Nat):Prop:=B≤g
def RgPost (b:Nat) (A:Option Addr) (n c:Nat) (l:List UInt8) (w:World) (t:Out) (e:Ending) (w':World):Prop :=
 ∃ (x:RV) (q:Nat),e=.returned (.tuple #[x.agg,.int .i64 t.1])∧Lies w' (From w.heap.size) t.2.2 x∧Pl l q t.2.1∧Rd w' b A n c q∧Moved b w w'
theorem Lies.from_ {w:World} {B B':Nat} {r:Rng} {x:RV} (h:Lies w (From B) r x) (hB:B'≤B):Lies w (From B') r x:=h.mono fun _ hb _=>Nat.le_trans hB hb
theorem rg_end {b:Nat} {A:Option Addr} {n c:Nat} {l:List UInt8} {w W:World} {f:Nat} {s:List UInt8} {r:Rng} {x:RV} {q:Nat} (hb:b<w.heap.size) (hL:Lies W (From (w.heap.size+1)) r x) (hP:Pl l q s) (hR:Rd W b A n c q) (hM:Moved b w W) :
  RgPost b A n c l w (f,s,r) (.returned (.tuple #[x.agg,.int .i64 f])) (setR W w.heap.size x) :=
 ⟨x,q,rfl,(hL.keep (setR_keep (Nat.not_succ_le_self _) x)).from_ (Nat.le_succ _),hP,setR_rd hR hb x,setR_moved hM hb (Nat.le_refl _) x⟩
end Go.Proofs.YtgakcdcfblgagaaDoor.Range
namespace Go.Proofs.YtgakcdcfblgagaaDoor.Semver
open Go.RowKit Num Ident

theorem read_fresh (s:ByteArray) (w:World) (hs:s.size≤maxLen) :
  Calls Tryd.prog 26 #[.string s] w (VerPostF w (vread s.data.toList)):=by
 have HL:=Lib.hid (Lib.size_eq s)
 obtain ⟨cc,W,hcc,hcv,hr,hb⟩:=run_bytes (w.alloc false) s hs
 have HV:Hid (At5 W w.heap.size (.int .u64 0) (.int .u64 0) (.int .u64 0) (.slice none 0 0) (.slice none 0 0)):=(At5.new w 45 _ _ _ _ _).kept hb (by simp)
 have HB:Hid (Below w.heap.size w W):=((Below.refl w.heap.size w).alloc (Nat.le_refl _) _).trans (hb.mono (by simp))
 have hz:w.heap.size+1≤W.heap.size:=by have:=hb.size; simpa using this
 rw [size_alloc] at hr hcv
 have HR:=Lib.hid hr
 unfold maxLen at hs
 clear hr hb
 generalize s.data.toList=l at HL HR
 have HQ:=Lib.hid (vparse_end l 0)
 have HP:=Lib.hid (fun A n c W hW hc=>parse_anyF A n c l 0 W hW hc)
 have HI:Hid (vread l=if (vparse l 0).1≠0 then ((vparse l 0).1,(vparse l 0).2.1,noVer) else if (vparse l 0).2.1≠l.length then (13,(vparse l 0).2.1,noVer) else (0,0,(vparse l 0).2.2)):=rfl
 obtain ⟨⟨f,q,⟨x,y,z,xs,ys⟩⟩,hk⟩:∃ t,vparse l 0=t:=⟨_,rfl⟩
 rw [hk] at HP HI HQ
 clear hk
 have hq:q≤s.size:=by have:=HQ.out; rw [← HL.out] at this; exact this
 go_enter Tryd.func26,Tryd.ntmps26
 go_wp2_with fail
 refine (HP.out _ _ _ _ HR.out hcc).mono ?_
 rintro e w1 ⟨A2,c2,A3,c3,rfl,hc2,hc3,hr2,hr3,hb1,hf2,hf3⟩
 have HF2:=Lib.hid (hf2.mono (B':=w.heap.size) (Nat.le_trans (Nat.le_succ _) hz))
 have HF3:=Lib.hid (hf3.mono (B':=w.heap.size) (Nat.le_trans (Nat.le_succ _) hz))
 clear hf2 hf3
 simp only at hc2 hc3 hr2 hr3 ⊢
 have HV1:=Lib.hid (HV.out.kept hb1 (by omega))
 have HB1:=Lib.hid (HB.out.trans (hb1.mono (by omega)))
 have hz1:=hb1.size
 obtain ⟨hvl,hvf,hv0,hv1,hv2,hv3,hv4⟩:=HV1.out
 have HA:=Lib.hid (hr2.set5 hv0 hv1 hv2 hv3 hv4 (by simp) (by simp) (by simp) (by simp) (by simp) (.int .u64 x) (.int .u64 y) (.int .u64 z) (.slice A2 xs.length c2) (.slice A3 ys.length c3))
 have HB':=Lib.hid (hr3.set5 hv0 hv1 hv2 hv3 hv4 (by simp) (by simp) (by simp) (by simp) (by simp) (.int .u64 x) (.int .u64 y) (.int .u64 z) (.slice A2 xs.length c2) (.slice A3 ys.length c3))
 have HV2:=Lib.hid (HV1.out.set5 (.int .u64 x) (.int .u64 y) (.int .u64 z) (.slice A2 xs.length c2) (.slice A3 ys.length c3))
 have HB2:Hid (Below w.heap.size w (set5 w1 w.heap.size (.int .u64 x) (.int .u64 y) (.int .u64 z) (.slice A2 xs.length c2) (.slice A3 ys.length c3))):=(((((HB1.out.setCell (by simp) _).setCell (by simp) _).setCell (by simp) _).setCell (by simp) _).setCell (by simp) _)
 clear hr2 hr3 hb1 HV HB hcv
 go_upto_region 2 with (fail)
 clear hvl hvf hv0 hv1 hv2 hv3 hv4 HV1 HB1
 unfold set5 at HV2 HB2
 generalize ((((w1.setCell ⟨w.heap.size,0,none⟩ (.int .u64 x)).setCell ⟨w.heap.size,1,none⟩ (.int .u64 y)).setCell ⟨w.heap.size,2,none⟩ (.int .u64 z)).setCell ⟨w.heap.size,3,none⟩ (.slice A2 xs.length c2)).setCell ⟨w.heap.size,4,none⟩ (.slice A3 ys.length c3)=w2 at HA HB' HV2 HB2 ⊢
 obtain ⟨hvl,hvf,hv0,hv1,hv2,hv3,hv4⟩:=HV2.out
 by_cases h0:f=0
 ·subst h0
  by_cases h1:q=s.size
  ·have HI2:Hid (vread l=(0,0,⟨x,y,z,xs,ys⟩)):=HI.out.trans ((if_neg (by simp)).trans (if_neg (by rw [← HL.out]; simpa using h1)))
   have hb1:((q:Int) != (s.size:Int))=false:=by simp [h1]
   have HA2:=Lib.hid (HA.out.set5 hv0 hv1 hv2 hv3 hv4 (by simp) (by simp) (by simp) (by simp) (by simp) (.int .u64 x) (.int .u64 y) (.int .u64 z) (.slice A2 xs.length c2) (.slice A3 ys.length c3))
   have HB3:=Lib.hid (HB'.out.set5 hv0 hv1 hv2 hv3 hv4 (by simp) (by simp) (by simp) (by simp) (by simp) (.int .u64 x) (.int .u64 y) (.int .u64 z) (.slice A2 xs.length c2) (.slice A3 ys.length c3))
   clear h1 HI
   go_wp2
   exact bodyPost_ret (v:=.tuple #[.agg #[.int .u64 x,.int .u64 y,.int .u64 z,.slice A2 xs.length c2,.slice A3 ys.length c3],.int .i64 0,.int .i64 0]) (by simp [results,Tryd.results26,go_sem,hv0,hv1,hv2,hv3,hv4]) rfl (by rw [HI2.out]; exact ⟨A2,c2,A3,c3,rfl,hc2,hc3,HA2.out,HB3.out,(((((HB2.out.setCell (by simp) _).setCell (by simp) _).setCell (by simp) _).setCell (by simp) _).setCell (by simp) _),HF2.out,HF3.out⟩)
  ·have HI2:Hid (vread l=(13,q,noVer)):=HI.out.trans ((if_neg (by simp)).trans (if_pos (by rw [← HL.out]; exact h1)))
   have hb1:((q:Int) != (s.size:Int))=true:=by simp; omega
   clear h1 HI
   go_wp2
   exact bodyPost_ret (v:=.tuple #[.agg #[.int .u64 0,.int .u64 0,.int .u64 0,.slice none 0 0,.slice none 0 0],.int .i64 q,.int .i64 13]) (by simp [results,Tryd.results26,go_sem,hv0,hv1,hv2,hv3,hv4]) rfl (by rw [HI2.out]; exact VerPostF.bad (f:=13) (((((HB2.out.setCell (by simp) _).setCell (by simp) _).setCell (by simp) _).setCell (by simp) _).setCell (by simp) _))
 ·have HI2:Hid (vread l=(f,q,noVer)):=HI.out.trans (if_pos h0)
  have hb1:((f:Int) != 0)=true:=by simp [h0]
  have hb2:((f:Int) == 0)=false:=by simp [h0]
  clear h0 HI
  go_wp2
  exact bodyPost_ret (v:=.tuple #[.agg #[.int .u64 0,.int .u64 0,.int .u64 0,.slice none 0 0,.slice none 0 0],.int .i64 q,.int .i64 f]) (by simp [results,Tryd.results26,go_sem,hv0,hv1,hv2,hv3,hv4]) rfl (by rw [HI2.out]; exact VerPostF.bad (((((HB2.out.setCell (by simp) _).setCell (by simp) _).setCell (by simp) _).setCell (by simp) _).setCell (by simp) _))
end Go.Proofs.YtgakcdcfblgagaaDoor.Semver
namespace Go.Proofs.YtgakcdcfblgagaaDoor.Range
open Go.RowKit Num Ident Semver
mutual
def wt:Rng→Nat
 | .mk _ _ l=>1+wtL l
def wtL:List Rng→Nat
 | []=>0
 | r :: rs=>wt r+wtL rs
end
theorem wt_eq (r:Rng):wt r=1+wtL r.subs:=by cases r; rfl
theorem wtL_cons (r:Rng) (rs:List Rng):wtL (r :: rs)=wt r+wtL rs:=rfl
mutual
theorem wt_text:∀ (r:Rng) (d:Nat),goodR r d=true→wt r+1≤2 * (textR r).length
 | .mk k v l,d,h=>by
  rw [goodR_eq,Bool.and_eq_true,Bool.and_eq_true] at h
  obtain ⟨⟨_,hf⟩,hl⟩:=h
  have hw:wt (.mk k v l)=1+wtL l:=rfl
  rw [hw,textR_eq,List.length_append]
  have hk:=wtL_text l k (most k l.length) 0 d hl
  unfold fits at hf
  by_cases h1:ofVersion k=true
  ·rw [if_pos h1,Bool.and_eq_true,decide_eq_true_eq] at hf
   obtain rfl:l=[]:=List.length_eq_zero_iff.1 hf.2
   have h2:1≤k∧k≤8:=by simpa [ofVersion] using h1
   have e:1≤(markR k v).length:=by
    unfold markR
    rw [if_neg (by omega),if_neg (by omega),if_neg (by omega),if_pos h1,List.length_append]
    have:∀ i:Fin 8,1≤(ops.getD i.val []).length:=by decide
    have:=this ⟨(k - 1).toNat,by omega⟩
    simp only at this
    omega
   have:wtL []=0:=rfl
   omega
  ·rw [if_neg h1] at hf
   split at hf
   ·cases hf
   split at hf
   ·rename_i h0
    rw [decide_eq_true_eq] at hf
    obtain rfl:l=[]:=List.length_eq_zero_iff.1 hf
    subst h0
    have:(markR 0 v).length=1:=rfl
    have:wtL []=0:=rfl
    omega
   split at hf
   ·rename_i h9
    rw [decide_eq_true_eq] at hf
    have:=hk (by unfold most; rw [if_pos h9]; omega)
    omega
   split at hf
   ·rename_i h11
    rw [decide_eq_true_eq] at hf
    subst h11
    have:=hk (by rw [hf]; decide)
    have:(markR 11 v).length=1:=rfl
    omega
   ·cases hf
theorem wtL_text:∀ (l:List Rng) (o:Int) (m i d:Nat),goodL o l d=true→i+l.length≤m→wtL l+l.length≤2 * (textL o m l i).length
 | [],_,_,_,_,_,_=>by show 0+0≤_; omega
 | r :: rs,o,m,i,d,h,hm=>by
  rw [goodL_cons,Bool.and_eq_true] at h
  rw [List.length_cons] at hm
  have h1:=wt_text r _ h.1
  have h2:=wtL_text rs o m (i+1) d h.2 (by omega)
  rw [textL_cons,if_pos (by omega),wtL_cons]
  simp only [List.length_append,List.length_cons]
  omega
end
theorem wt_read {s:List UInt8} (h:(exprF (pone 64) s).1=0):wt (exprF (pone 64) s).2.2≤12 * s.length:=by
 have h1:=wt_text _ 0 (read_good h)
 have h2:=read_short h
 omega
theorem wt_pread (l:List UInt8):wt (pread l).2.2≤12 * l.length+1:=by
 unfold pread
 split
 ·exact Nat.le_add_left _ _
 ·rename_i h1

  split
  ·exact Nat.le_add_left _ _
  ·unfold pparse at h1 ⊢
   rw [if_neg (by omega)] at h1 ⊢
   simp only [ne_eq,Decidable.not_not] at h1
   have:=wt_read h1
   have h3:=(Piece.blanks (l.drop (0:Int).toNat)).len
   simp only [List.length_drop] at h3
   show wt (exprF (pone 64) (blanks (l.drop (0:Int).toNat))).2.2≤_
   omega
end Go.Proofs.YtgakcdcfblgagaaDoor.Range
namespace Go.Proofs.YtgakcdcfblgagaaDoor.Range
open Num Ident Semver


structure Reads (r:Rng) (k:Nat) (rest:List UInt8):Prop where
 one:r.kind≠9→r.kind≠10→pone k (textR r ++ rest)=(0,blanks rest,r)
 every:r.kind≠10→furO (blanks rest)=none→everyF (pone k) (textR r ++ rest)=(0,blanks rest,r)
 expr:furO (blanks rest)=none→furE (blanks rest)=none→exprF (pone k) (textR r ++ rest)=(0,blanks rest,r)
end Go.Proofs.YtgakcdcfblgagaaDoor.Range
namespace Go.Proofs.YtgakcdcfblgagaaDoor.Span
open Go.RowKit Num Ident Semver Prec

structure RCut where
 kind:Int
 v:Ver
 A:Option Addr
 c:Nat
 B:Option Addr
 d:Nat
instance:Coe RCut Value:=⟨fun x=>.agg #[.int .i64 x.kind,.int .u64 x.v.a,.int .u64 x.v.b,.int .u64 x.v.c,.slice x.A x.v.pre.length x.c,.slice x.B x.v.build.length x.d]⟩
instance (x y:RCut):CoeDep (RCut × RCut) (x,y) Value:=⟨.agg #[.int .i64 x.kind,.int .u64 x.v.a,.int .u64 x.v.b,.int .u64 x.v.c,.slice x.A x.v.pre.length x.c,.slice x.B x.v.build.length x.d,.int .i64 y.kind,.int .u64 y.v.a,.int .u64 y.v.b,.int .u64 y.v.c,.slice y.A y.v.pre.length y.c,.slice y.B y.v.build.length y.d]⟩
instance (x:Ver) (A B:Option Addr) (c d:Nat):CoeDep (Ver × Option Addr × Nat × Option Addr × Nat) (x,A,c,B,d) Obj:=⟨.cells #[.int .u64 x.a,.int .u64 x.b,.int .u64 x.c,.slice A x.pre.length c,.slice B x.build.length d] 45⟩
def RCut.cut (r:RCut):Cut:=⟨r.kind,r.v⟩
structure RSp where
 lo:RCut
 hi:RCut
def RSp.sp (s:RSp):Sp:=⟨s.lo.cut,s.hi.cut⟩
structure REdge where
 cut:RCut
 step:Int
def REdge.edge (e:REdge):Edge:=⟨e.cut.cut,e.step⟩
def rlow:RCut:=⟨0,noVer,none,0,none,0⟩
instance:Inhabited REdge:=⟨⟨rlow,0⟩⟩
def RCut.vals (r:RCut):List Value:=[.int .i64 r.kind,.int .u64 r.v.a,.int .u64 r.v.b,.int .u64 r.v.c,.slice r.A r.v.pre.length r.c,.slice r.B r.v.build.length r.d]
def RSp.vals (s:RSp):List Value:=[.int .i64 s.lo.kind,.int .u64 s.lo.v.a,.int .u64 s.lo.v.b,.int .u64 s.lo.v.c,.slice s.lo.A s.lo.v.pre.length s.lo.c,.slice s.lo.B s.lo.v.build.length s.lo.d,.int .i64 s.hi.kind,.int .u64 s.hi.v.a,.int .u64 s.hi.v.b,.int .u64 s.hi.v.c,.slice s.hi.A s.hi.v.pre.length s.hi.c,.slice s.hi.B s.hi.v.build.length s.hi.d]
def REdge.vals (e:REdge):List Value:=[.int .i64 e.cut.kind,.int .u64 e.cut.v.a,.int .u64 e.cut.v.b,.int .u64 e.cut.v.c,.slice e.cut.A e.cut.v.pre.length e.cut.c,.slice e.cut.B e.cut.v.build.length e.cut.d,.int .i64 e.step]
structure Lies (w:World) (r:RCut):Prop where
 pre:SRow w r.A r.v.pre.length r.v.pre
 build:SRow w r.B r.v.build.length r.v.build
 fpre:Fit r.v.pre
 fbuild:Fit r.v.build
structure LiesS (w:World) (s:RSp):Prop where
 lo:Lies w s.lo
 hi:Lies w s.hi

def At6B (W:World) (b:Nat) (u0 u1 u2 u3 u4 u5:Value):Prop:=b<W.heap.size∧(∀ o,W.frozen? ⟨b,o,none⟩=false)∧W.cell? ⟨b,0,none⟩=some u0∧W.cell? ⟨b,1,none⟩=some u1∧W.cell? ⟨b,2,none⟩=some u2∧W.cell? ⟨b,3,none⟩=some u3∧W.cell? ⟨b,4,none⟩=some u4∧W.cell? ⟨b,5,none⟩=some u5
theorem At6B.new (w:World) (t:TypeId) (u0 u1 u2 u3 u4 u5:Value):At6B (w.alloc (.cells #[u0,u1,u2,u3,u4,u5] t)) w.heap.size u0 u1 u2 u3 u4 u5:=by
 unfold At6B
 refine ⟨by simp,fun o=>by simp [go_sem],?_,?_,?_,?_,?_,?_⟩ <;> simp [go_sem]
def At7B (W:World) (b:Nat) (u0 u1 u2 u3 u4 u5 u6:Value):Prop:=b<W.heap.size∧(∀ o,W.frozen? ⟨b,o,none⟩=false)∧W.cell? ⟨b,0,none⟩=some u0∧W.cell? ⟨b,1,none⟩=some u1∧W.cell? ⟨b,2,none⟩=some u2∧W.cell? ⟨b,3,none⟩=some u3∧W.cell? ⟨b,4,none⟩=some u4∧W.cell? ⟨b,5,none⟩=some u5∧W.cell? ⟨b,6,none⟩=some u6
theorem At7B.new (w:World) (t:TypeId) (u0 u1 u2 u3 u4 u5 u6:Value):At7B (w.alloc (.cells #[u0,u1,u2,u3,u4,u5,u6] t)) w.heap.size u0 u1 u2 u3 u4 u5 u6:=by
 unfold At7B
 refine ⟨by simp,fun o=>by simp [go_sem],?_,?_,?_,?_,?_,?_,?_⟩ <;> simp [go_sem]
def At12B (W:World) (b:Nat) (u0 u1 u2 u3 u4 u5 u6 u7 u8 u9 u10 u11:Value):Prop:=b<W.heap.size∧(∀ o,W.frozen? ⟨b,o,none⟩=false)∧W.cell? ⟨b,0,none⟩=some u0∧W.cell? ⟨b,1,none⟩=some u1∧W.cell? ⟨b,2,none⟩=some u2∧W.cell? ⟨b,3,none⟩=some u3∧W.cell? ⟨b,4,none⟩=some u4∧W.cell? ⟨b,5,none⟩=some u5∧W.cell? ⟨b,6,none⟩=some u6∧W.cell? ⟨b,7,none⟩=some u7∧W.cell? ⟨b,8,none⟩=some u8∧W.cell? ⟨b,9,none⟩=some u9∧W.cell? ⟨b,10,none⟩=some u10∧W.cell? ⟨b,11,none⟩=some u11
theorem At12B.new (w:World) (t:TypeId) (u0 u1 u2 u3 u4 u5 u6 u7 u8 u9 u10 u11:Value):At12B (w.alloc (.cells #[u0,u1,u2,u3,u4,u5,u6,u7,u8,u9,u10,u11] t)) w.heap.size u0 u1 u2 u3 u4 u5 u6 u7 u8 u9 u10 u11:=by
 unfold At12B
 refine ⟨by simp,fun o=>by simp [go_sem],?_,?_,?_,?_,?_,?_,?_,?_,?_,?_,?_,?_⟩ <;> simp [go_sem]


end Go.Proofs.YtgakcdcfblgagaaDoor.Span
namespace Go.Proofs.YtgakcdcfblgagaaDoor.Range
open Go.RowKit Num Ident Semver

def PsJ (w:World) (b:Nat) (A:Option Addr) (n c k:Nat) (l s:List UInt8) (a':Act) (w':World):Prop :=
 ∃ (q:Nat) (t:List UInt8) (u2 u3 u4 u5 u6 u7 u8 u9 u10 u11 u12 u13 u14 u15 u16 u17 u18 u19 u20 u21 u22 u23 u24 u25 u26 u27 u28 u29 u30 u31 u32 u33 u34 u35 u36 u37 u38 u39 u40 u41 u42 u43 u44 u45 u46 u47 u48 u49 u50 u51 u52 u53 u54:Value),Rd w' b A n c q∧Pl l q t∧blanks t=s∧Moved b w w' ∧
  a'={ tmps:=#[.pointer (some ⟨b,0,none⟩),.int .i64 k,u2,u3,u4,u5,u6,u7,u8,u9,u10,u11,u12,u13,u14,u15,u16,u17,u18,u19,u20,u21,u22,u23,u24,u25,u26,u27,u28,u29,u30,u31,u32,u33,u34,u35,u36,u37,u38,u39,u40,u41,u42,u43,u44,u45,u46,u47,u48,u49,u50,u51,u52,u53,u54],defers:=[] }
def PsM (b n:Nat) (_:Act) (w':World):Nat:=n - (intOf ((w'.cell? ⟨b,1,none⟩).getD undef)).toNat
theorem pl_next {l t:List UInt8} {q:Nat} (h:Pl l q t) (hq:q<l.length):t=l.getD q 0 :: l.drop (q+1):=by rw [h.eq,drop_getD l q hq]
theorem blank_at {l:List UInt8} {q:Nat} (h:byteAt l q=32∨byteAt l q=9):blankB (l.getD q 0)=true:=by
 unfold byteAt at h
 have e:l.getD q 0=32∨l.getD q 0=9:=by
  rcases h with h | h
  ·left; exact UInt8.toNat_inj.1 (show (l.getD q 0).toNat=32 by omega)
  ·right; exact UInt8.toNat_inj.1 (show (l.getD q 0).toNat=9 by omega)
 unfold blankB
 rcases e with e | e <;> rw [e] <;> decide
theorem blank_not {l:List UInt8} {q:Nat} (h1:byteAt l q≠32) (h2:byteAt l q≠9):blankB (l.getD q 0)=false:=by
 unfold byteAt at h1 h2
 unfold blankB
 have e1:l.getD q 0≠32:=fun e=>h1 (by rw [e]; rfl)
 have e2:l.getD q 0≠9:=fun e=>h2 (by rw [e]; rfl)
 rw [beq_eq_false_iff_ne.2 e1,beq_eq_false_iff_ne.2 e2]; rfl
theorem psM_less {w w':World} {b n c c' p q:Nat} {A A':Option Addr} {a a':Act} (h':Rd w' b A' n c' q) (h:Rd w b A n c p) (hl:p<q∧p<n):PsM b n a' w'<PsM b n a w:=by
 unfold PsM
 rw [h'.at_,h.at_]
 simp only [Option.getD_some,intOf]
 omega
theorem pass_any (b:Nat) (A:Option Addr) (n c p k:Nat) (l s:List UInt8) (w:World) (hR:Rd w b A n c p) (hr:Row w A n l) (hs:Pl l p s) (hk:p+k≤n) :
  Calls Tryd.prog 59 #[.pointer (some ⟨b,0,none⟩),.int .i64 k] w fun e w'=>e=.returned (.tuple #[])∧∃ q,Pl l q (blanks (s.drop k))∧Rd w' b A n c q∧Moved b w w':=by
 have hm:=hr.2.1
 unfold maxLen at hm
 have HL:=Lib.hid hr.1
 have HR:=Lib.hid hR
 have HRow:=Lib.hid hr
 have HS:=Lib.hid hs
 obtain ⟨hlt,hfr,hx0,hx1,_⟩:=hR
 clear hr hs
 go_enter Tryd.func59,Tryd.ntmps59
 go_wp2
 refine wp_scope_back 0 (PsJ w b A n c k l (blanks (s.drop k))) (PsM b n) rfl ?_ ?_
 ·rintro a' w1 ⟨q,t,u2,u3,u4,u5,u6,u7,u8,u9,u10,u11,u12,u13,u14,u15,u16,u17,u18,u19,u20,u21,u22,u23,u24,u25,u26,u27,u28,u29,u30,u31,u32,u33,u34,u35,u36,u37,u38,u39,u40,u41,u42,u43,u44,u45,u46,u47,u48,u49,u50,u51,u52,u53,u54,hR1,hp1,hb1,hm1,rfl⟩
  have HK:=Lib.hid (HR.out.keep hm1)
  have HRow1:=Lib.hid (row_keep HRow.out HK.out)
  have HP1:=Lib.hid hp1
  have HB1:=Lib.hid hb1
  have HM1:=Lib.hid hm1
  have HR1:=Lib.hid hR1
  have hqn:q≤n:=by have:=hp1.le; rw [HL.out] at this; exact this
  clear hp1 hb1 hm1 hlt hfr hx0 hx1
  obtain ⟨hlt,hfr,hx0,hx1,_⟩:=hR1
  by_cases h1:q<n
  ·obtain ⟨g,o,rfl,hg,hcell⟩:=HRow1.out.2.2 (by omega)
   have hx:=hcell q h1
   have HBl:=Lib.hid (blank_at (l:=l) (q:=q))
   have HBn:=Lib.hid (blank_not (l:=l) (q:=q))
   have HT:=Lib.hid (pl_next HP1.out (by rw [HL.out]; exact h1))
   have hbd:=byteAt_bd l q
   clear hcell
   generalize byteAt l q=x at hx HBl HBn hbd
   have hk1:(q:Int)<(n:Int):=by omega
   have HNext:Hid (blankB (l.getD q 0)=true→blanks (l.drop (q+1))=blanks (s.drop k)):=fun hb=>by rw [← HB1.out,HT.out,blanks_yes _ hb]
   have HEnd:Hid (blankB (l.getD q 0)=false→t=blanks (s.drop k)):=fun hb=>by rw [← HB1.out,HT.out,blanks_no _ hb]
   have HPn:Hid (Pl l (q+1) (l.drop (q+1))):=⟨by rw [HL.out]; omega,rfl⟩
   by_cases h32:x=32
   ·have HBL:=Lib.hid (HBl.out (.inl h32))
    have hb2:(x == 32)=true:=by simp [h32]
    clear h32 HBl HBn
    go_wp2_with fail
    go_quiet (fail)
    go_wp2
    go_step3
    refine ⟨rfl,⟨q+1,l.drop (q+1),_,_,_,_,_,_,_,_,_,_,_,_,_,_,_,_,_,_,_,_,_,_,_,_,_,_,_,_,_,_,_,_,_,_,_,_,_,_,_,_,_,_,_,_,_,_,_,_,_,_,_,_,_,(HR1.out.drewN _).move (q+1),HPn.out,HNext.out HBL.out,(HM1.out.drewN _).move _,rfl⟩,?_⟩
    exact psM_less ((HR1.out.drewN _).move (q+1)) HR1.out (by omega)
   ·have hb2:(x == 32)=false:=by simp [h32]
    by_cases h9:x=9
    ·have HBL:=Lib.hid (HBl.out (.inr h9))
     have hb3:(x == 9)=true:=by simp [h9]
     clear h32 h9 HBl HBn
     go_wp2_with fail
     go_quiet (fail)
     go_wp2
     go_step3
     refine ⟨rfl,⟨q+1,l.drop (q+1),_,_,_,_,_,_,_,_,_,_,_,_,_,_,_,_,_,_,_,_,_,_,_,_,_,_,_,_,_,_,_,_,_,_,_,_,_,_,_,_,_,_,_,_,_,_,_,_,_,_,_,_,_,(HR1.out.drewN _).move (q+1),HPn.out,HNext.out HBL.out,(HM1.out.drewN _).move _,rfl⟩,?_⟩
     exact psM_less ((HR1.out.drewN _).move (q+1)) HR1.out (by omega)
    ·have HBN:=Lib.hid (HBn.out h32 h9)
     have hb3:(x == 9)=false:=by simp [h9]
     clear h32 h9 HBl HBn
     go_wp2_with fail
     go_quiet (fail)
     go_wp2
     simp only [Exit.jump]
     go_end0
     exact ⟨rfl,q,HEnd.out HBN.out ▸ HP1.out,HR1.out.drewN _,HM1.out.drewN _⟩
  ·have hk1:decide ((q:Int)<(n:Int))=false:=by simp; omega
   have HEnd:Hid (t=blanks (s.drop k)):=by
    have e:t=[]:=by rw [HP1.out.eq]; exact List.drop_eq_nil_of_le (by rw [HL.out]; omega)
    unfold Hid; rw [← HB1.out,e]; rfl
   go_wp2_with fail
   go_quiet (fail)
   go_wp2
   simp only [Exit.jump]
   go_end0
   exact ⟨rfl,q,HEnd.out ▸ HP1.out,HR1.out.drewN _,HM1.out.drewN _⟩
 ·intro HP
  go_wp2
  go_step3
  rename_i hK
  exact hK _ _ (HP.out _ _ ⟨p+k,s.drop k,_,_,_,_,_,_,_,_,_,_,_,_,_,_,_,_,_,_,_,_,_,_,_,_,_,_,_,_,_,_,_,_,_,_,_,_,_,_,_,_,_,_,_,_,_,_,_,_,_,_,_,_,_,HR.out.move (p+k),HS.out.drop (by rw [HL.out]; exact hk),rfl,Moved.at_ _,rfl⟩)
end Go.Proofs.YtgakcdcfblgagaaDoor.Range
namespace Go.Proofs.YtgakcdcfblgagaaDoor.Span
open Go.RowKit Num Ident Semver Prec

structure Laid (w:World) where
 e:REdge
 h:Lies w e.cut

end Go.Proofs.YtgakcdcfblgagaaDoor.Span
