/-
  What the theorem of the last text needs of these: MoMem, MoPlain, MoMore, MoRefDep, MoCame, MoRefPins, MoRefCheck, MoFew. Conditions: as each theorem states.
-/
import Derived.Test.YtneilnibghhgmaaGreatDoorFwA1
import Derived.Test.YtneilnibghhgmaaGreatDoorFwA2
import Derived.Test.YtneilnibghhgmaaGreatDoorFwA3
import Derived.Test.YtneilnibghhgmaaGreatDoorFwA4
import Derived.Test.YtneilnibghhgmaaGreatDoorFwA5
import Derived.Test.YtneilnibghhgmaaGreatDoorFwA9
import Derived.Test.YtneilnibghhgmaaGreatDoorFwA10
import Derived.Test.YtneilnibghhgmaaGreatDoorFwA12
import Derived.Test.YtneilnibghhgmaaGreatDoorFwA13
import Derived.Test.YtneilnibghhgmaaGreatDoorFwA14
import Derived.Test.YtneilnibghhgmaaGreatDoorFwA17
import Derived.Deep.CutBlock
import Derived.Deep.DeepCutAuto
import Derived.StillTailTactics
import Derived.Deep.QuietTactic
import Derived.BigQuiet
set_option maxRecDepth 100000
set_option maxHeartbeats 25600000
namespace Go.Proofs.YtneilnibghhgmaaGreatDoor.Model
open Go.RowKit Num Ident Semver
open Range (Rng noRng RV KeepS LtB InS LenOk FitV srow_keepS)
open KR (KRow)

structure MDep where
 name:List UInt8
 r:Rng
 x:RV
instance:Inhabited MDep:=⟨⟨[],noRng,default⟩⟩
def MDep.vals (d:MDep):List Value:=.string (Ident.mk d.name) :: d.x.vals
def MDep.p (d:MDep):PDep:=⟨d.name,d.r⟩
def MDep.agg (d:MDep):Value:=.agg #[.string (Ident.mk d.name),d.x.kind,d.x.v.a,d.x.v.b,d.x.v.c,.slice d.x.A d.x.v.pre.length d.x.c,.slice d.x.B d.x.v.build.length d.x.d,.slice d.x.L d.x.n d.x.e]
theorem dep_one (d:MDep):∀ u ∈ d.vals,u.oneCell'=true:=by
 intro u hu
 rcases List.mem_cons.1 hu with rfl | hu
 ·rfl
 ·exact Range.rv_one d.x u hu
theorem depInfo:(Tryz.prog.info? 61).map (fun i=>(i.zero,i.size,i.bytes))=some (some (.agg #[.string ⟨#[]⟩,.int .i64 0,.int .u64 0,.int .u64 0,.int .u64 0,.slice none 0 0,.slice none 0 0,.slice none 0 0]),8,120):=by kernel_rfl
theorem dep_len (d:MDep):d.vals.length=8:=rfl
structure DepOk (w:World) (S:Nat→Prop) (d:MDep):Prop where
 short:d.name.length≤maxLen
 lies:Range.Lies w S d.r d.x
 len:LenOk d.r
 slim:Nrm.Slim d.r
theorem DepOk.keep {w w':World} {S:Nat→Prop} {d:MDep} (h:DepOk w S d) (k:KeepS S w w'):DepOk w' S d:=⟨h.short,h.lies.keep k,h.len,h.slim⟩
theorem DepOk.mono {w:World} {S S':Nat→Prop} {d:MDep} (h:DepOk w S d) (hS:∀ b,S b→b<w.heap.size→S' b):DepOk w S' d:=⟨h.short,h.lies.mono hS,h.len,h.slim⟩
structure DRow (w:World) (S:Nat→Prop) (A:Option Addr) (n:Nat) (l:List MDep):Prop where
 row:KRow MDep.vals 8 w S A n l
 ok:∀ d ∈ l,DepOk w S d
theorem DRow.keep {w w':World} {S:Nat→Prop} {A:Option Addr} {n:Nat} {l:List MDep} (h:DRow w S A n l) (k:KeepS S w w'):DRow w' S A n l:=⟨h.row.keep k,fun d hd=>(h.ok d hd).keep k⟩
theorem DRow.mono {w:World} {S S':Nat→Prop} {A:Option Addr} {n:Nat} {l:List MDep} (h:DRow w S A n l) (hS:∀ b,S b→b<w.heap.size→S' b):DRow w S' A n l:=⟨h.row.mono hS,fun d hd=>(h.ok d hd).mono hS⟩
structure MVer where
 v:Ver
 A:Option Addr
 c:Nat
 B:Option Addr
 d:Nat
instance:Inhabited MVer:=⟨⟨noVer,none,0,none,0⟩⟩
def MVer.vals (x:MVer):List Value:=[.int .u64 x.v.a,.int .u64 x.v.b,.int .u64 x.v.c,.slice x.A x.v.pre.length x.c,.slice x.B x.v.build.length x.d]
def MVer.agg (x:MVer):Value:=.agg #[x.v.a,x.v.b,x.v.c,.slice x.A x.v.pre.length x.c,.slice x.B x.v.build.length x.d]
structure VerOk (w:World) (S:Nat→Prop) (x:MVer):Prop where
 pre:SRow w x.A x.v.pre.length x.v.pre
 build:SRow w x.B x.v.build.length x.v.build
 ip:InS S x.A x.v.pre.length
 ib:InS S x.B x.v.build.length
 cp:x.v.pre.length≤x.c
 cb:x.v.build.length≤x.d
 fit:FitV x.v
theorem VerOk.keep {w w':World} {S:Nat→Prop} {x:MVer} (h:VerOk w S x) (k:KeepS S w w'):VerOk w' S x:=⟨srow_keepS h.pre k h.ip,srow_keepS h.build k h.ib,h.ip,h.ib,h.cp,h.cb,h.fit⟩
theorem VerOk.mono {w:World} {S S':Nat→Prop} {x:MVer} (h:VerOk w S x) (hS:∀ b,S b→b<w.heap.size→S' b):VerOk w S' x:=⟨h.pre,h.build,h.ip.mono h.pre hS,h.ib.mono h.build hS,h.cp,h.cb,h.fit⟩
structure MRel where
 ver:MVer
 yanked:Bool
 N:Option Addr
 nc:Nat
 needs:List MDep
 B:Option Addr
 bc:Nat
 bans:List MDep
instance:Inhabited MRel:=⟨⟨default,false,none,0,[],none,0,[]⟩⟩
def MRel.vals (r:MRel):List Value:=r.ver.vals ++ [.bool r.yanked,.slice r.N r.needs.length r.nc,.slice r.B r.bans.length r.bc]
def MRel.agg (r:MRel):Value:=.agg #[r.ver.v.a,r.ver.v.b,r.ver.v.c,.slice r.ver.A r.ver.v.pre.length r.ver.c,.slice r.ver.B r.ver.v.build.length r.ver.d,.bool r.yanked,.slice r.N r.needs.length r.nc,.slice r.B r.bans.length r.bc]
def MRel.p (r:MRel):PRel:=⟨r.ver.v,r.yanked,r.needs.map MDep.p,r.bans.map MDep.p⟩
theorem rel_len (r:MRel):r.vals.length=8:=rfl
structure RelOk (w:World) (S:Nat→Prop) (r:MRel):Prop where
 ver:VerOk w S r.ver
 needs:DRow w S r.N r.needs.length r.needs
 bans:DRow w S r.B r.bans.length r.bans
 nc:r.needs.length≤r.nc∧r.nc≤maxLen
 bc:r.bans.length≤r.bc∧r.bc≤maxLen
 nn:r.N=none→r.nc=0
 bn:r.B=none→r.bc=0
theorem RelOk.keep {w w':World} {S:Nat→Prop} {r:MRel} (h:RelOk w S r) (k:KeepS S w w'):RelOk w' S r:=⟨h.ver.keep k,h.needs.keep k,h.bans.keep k,h.nc,h.bc,h.nn,h.bn⟩
theorem RelOk.mono {w:World} {S S':Nat→Prop} {r:MRel} (h:RelOk w S r) (hS:∀ b,S b→b<w.heap.size→S' b):RelOk w S' r:=⟨h.ver.mono hS,h.needs.mono hS,h.bans.mono hS,h.nc,h.bc,h.nn,h.bn⟩
structure RRow (w:World) (S:Nat→Prop) (A:Option Addr) (n:Nat) (l:List MRel):Prop where
 row:KRow MRel.vals 8 w S A n l
 ok:∀ r ∈ l,RelOk w S r
theorem RRow.keep {w w':World} {S:Nat→Prop} {A:Option Addr} {n:Nat} {l:List MRel} (h:RRow w S A n l) (k:KeepS S w w'):RRow w' S A n l:=⟨h.row.keep k,fun d hd=>(h.ok d hd).keep k⟩
theorem RRow.mono {w:World} {S S':Nat→Prop} {A:Option Addr} {n:Nat} {l:List MRel} (h:RRow w S A n l) (hS:∀ b,S b→b<w.heap.size→S' b):RRow w S' A n l:=⟨h.row.mono hS,fun d hd=>(h.ok d hd).mono hS⟩
structure MPack where
 name:List UInt8
 R:Option Addr
 rc:Nat
 rels:List MRel
instance:Inhabited MPack:=⟨⟨[],none,0,[]⟩⟩
def MPack.vals (p:MPack):List Value:=[.string (Ident.mk p.name),.slice p.R p.rels.length p.rc]
def MPack.agg (p:MPack):Value:=.agg #[.string (Ident.mk p.name),.slice p.R p.rels.length p.rc]
def MPack.p (p:MPack):PPack:=⟨p.name,p.rels.map MRel.p⟩
theorem pack_len (p:MPack):p.vals.length=2:=rfl
structure PackOk (w:World) (S:Nat→Prop) (p:MPack):Prop where
 short:p.name.length≤maxLen
 rels:RRow w S p.R p.rels.length p.rels
 rc:p.rels.length≤p.rc∧p.rc≤maxLen
 rn:p.R=none→p.rc=0
theorem PackOk.keep {w w':World} {S:Nat→Prop} {p:MPack} (h:PackOk w S p) (k:KeepS S w w'):PackOk w' S p:=⟨h.short,h.rels.keep k,h.rc,h.rn⟩
theorem PackOk.mono {w:World} {S S':Nat→Prop} {p:MPack} (h:PackOk w S p) (hS:∀ b,S b→b<w.heap.size→S' b):PackOk w S' p:=⟨h.short,h.rels.mono hS,h.rc,h.rn⟩
structure PRow (w:World) (S:Nat→Prop) (A:Option Addr) (n:Nat) (l:List MPack):Prop where
 row:KRow MPack.vals 2 w S A n l
 ok:∀ p ∈ l,PackOk w S p
theorem PRow.keep {w w':World} {S:Nat→Prop} {A:Option Addr} {n:Nat} {l:List MPack} (h:PRow w S A n l) (k:KeepS S w w'):PRow w' S A n l:=⟨h.row.keep k,fun d hd=>(h.ok d hd).keep k⟩
theorem PRow.mono {w:World} {S S':Nat→Prop} {A:Option Addr} {n:Nat} {l:List MPack} (h:PRow w S A n l) (hS:∀ b,S b→b<w.heap.size→S' b):PRow w S' A n l:=⟨h.row.mono hS,fun d hd=>(h.ok d hd).mono hS⟩
structure MPin where
 name:List UInt8
 ver:MVer
instance:Inhabited MPin:=⟨⟨[],default⟩⟩
def MPin.vals (p:MPin):List Value:=.string (Ident.mk p.name) :: p.ver.vals
def MPin.agg (p:MPin):Value:=.agg #[.string (Ident.mk p.name),p.ver.v.a,p.ver.v.b,p.ver.v.c,.slice p.ver.A p.ver.v.pre.length p.ver.c,.slice p.ver.B p.ver.v.build.length p.ver.d]
def MPin.p (p:MPin):PPin:=⟨p.name,p.ver.v⟩
theorem pin_len (p:MPin):p.vals.length=6:=rfl
structure PinOk (w:World) (S:Nat→Prop) (p:MPin):Prop where
 short:p.name.length≤maxLen
 ver:VerOk w S p.ver
theorem PinOk.keep {w w':World} {S:Nat→Prop} {p:MPin} (h:PinOk w S p) (k:KeepS S w w'):PinOk w' S p:=⟨h.short,h.ver.keep k⟩
structure SPRow (w:World) (S:Nat→Prop) (A:Option Addr) (n:Nat) (l:List MPin):Prop where
 row:KRow MPin.vals 6 w S A n l
 ok:∀ p ∈ l,PinOk w S p
theorem SPRow.keep {w w':World} {S:Nat→Prop} {A:Option Addr} {n:Nat} {l:List MPin} (h:SPRow w S A n l) (k:KeepS S w w'):SPRow w' S A n l:=⟨h.row.keep k,fun d hd=>(h.ok d hd).keep k⟩
end Go.Proofs.YtneilnibghhgmaaGreatDoor.Model
namespace Go.Proofs.YtneilnibghhgmaaGreatDoor.Model
open Go.RowKit Num Ident Semver
open Range (Rng noRng goodR sameV_eq)
open Nrm (inV hasR)
open Name (isName)
open Prec (fullV)

structure SortOf {α:Type} (le:α→α→Prop) (l l':List α):Prop where
 perm:l'.Perm l
 up:l'.Pairwise le
 same:l.Pairwise le→l'=l
def relLe (a b:PRel):Prop:=fullV a.v b.v≤0
def packLe (p q:PPack):Prop:=¬ q.name<p.name
def PlainOf (x y:List PPack):Prop :=
 ∃ z:List PPack,z.length=x.length∧(∀ i,i<x.length→(z.getD i default).name=(x.getD i default).name∧SortOf relLe (x.getD i default).rels (z.getD i default).rels)∧SortOf packLe z y
theorem ahead_iff {α:Type} [Inhabited α] (f:α→α→Bool) (l:List α):(∀ k,k<l.length→((l.take k).any fun x=>f x (l.getD k default))=false)↔l.Pairwise fun a b=>f a b=false:=by
 rw [List.pairwise_iff_getElem]
 constructor
 ·intro h i j hi hj hij
  have:=h j hj
  rw [List.any_eq_false] at this
  have g:=this l[i] (by rw [List.mem_take_iff_getElem]; exact ⟨i,by omega,rfl⟩)
  rw [List.getD_eq_getElem?_getD,List.getElem?_eq_getElem hj] at g
  exact Bool.eq_false_iff.2 g
 ·intro h k hk
  rw [List.any_eq_false]
  intro a ha
  obtain ⟨i,hi,rfl⟩:=List.mem_take_iff_getElem.1 ha
  rw [List.getD_eq_getElem?_getD,List.getElem?_eq_getElem hk]
  have:=h i k (by omega) hk (by omega)
  exact Bool.eq_false_iff.1 this
section
variable {x z:List PPack} (hl:z.length=x.length) (hz:∀ i,i<x.length→(z.getD i default).name=(x.getD i default).name∧SortOf relLe (x.getD i default).rels (z.getD i default).rels)
include hl hz
end
end Go.Proofs.YtneilnibghhgmaaGreatDoor.Model
namespace Go.Proofs.YtneilnibghhgmaaGreatDoor.Model
open Go.RowKit Num Ident Semver Fr
open Range (Rng noRng RV KeepS LtB LenOk goodR wt)
open KR (KRow AtV)
theorem keepS_but {T S:Nat→Prop} {w w':World} (h:But T w w') (hn:∀ g,S g→¬ T g):KeepS S w w' :=
 ⟨h.size,fun _ _ _ hg hc=>(h.cell (Range.block_lt hc) (hn _ hg)).trans hc⟩
theorem _root_.Go.Proofs.YtneilnibghhgmaaGreatDoor.KR.AtV.but {T:Nat→Prop} {W W':World} {b:Nat} {L:List Value} (h:AtV W b L) (hb:But T W W') (hn:¬ T b):AtV W' b L :=
 ⟨Nat.lt_of_lt_of_le h.lt hb.size,fun o=>(hb.frozen h.lt hn).trans (h.fr o),fun i u hu=>(hb.cell h.lt hn).trans (h.at_ i u hu)⟩
theorem _root_.Go.Proofs.YtneilnibghhgmaaGreatDoor.KR.AtV.set {W:World} {b:Nat} {L:List Value} (h:AtV W b L) (i:Nat) (v:Value) (hi:i<L.length):AtV (W.setCell ⟨b,i,none⟩ v) b (L.set i v):=by
 refine ⟨by simpa using h.lt,fun o=>by simp [go_sem,h.fr],fun j u hu=>?_⟩
 by_cases e:j=i
 ·subst e
  rw [List.getElem?_set_self hi] at hu
  injection hu with hu
  subst hu
  exact World.cell?_setCell_same _ _ _ (h.at_ j L[j] (List.getElem?_eq_getElem hi))
 ·rw [List.getElem?_set_ne (fun q=>e q.symm)] at hu
  rw [cell_beside _ _ _ _ _ (fun q=>e q.symm)]
  exact h.at_ j u hu
theorem _root_.Go.Proofs.YtneilnibghhgmaaGreatDoor.Fr.But.to_below {mb:Nat} {w w':World} (h:But (fun k=>k=mb) w w') {B:Nat} (hB:B≤w.heap.size) (hm:B≤mb):Below B w w':=h.below (fun k e=>by omega) hB
theorem _root_.Go.Proofs.YtneilnibghhgmaaGreatDoor.Fr.But.then_same {T:Nat→Prop} {a w w':World} (h:But T a w) (k:Below w.heap.size w w'):But T a w':=h.trans (But.of_same k T) fun _ g=>.inl g
theorem _root_.Go.Proofs.YtneilnibghhgmaaGreatDoor.Fr.But.then_ {T:Nat→Prop} {a w w':World} (h:But T a w) (k:But T w w'):But T a w':=h.trans k fun _ g=>.inl g
end Go.Proofs.YtneilnibghhgmaaGreatDoor.Model
namespace Go.Proofs.YtneilnibghhgmaaGreatDoor.Model
open Go.RowKit Num Ident Semver
open Range (Rng noRng RV KeepS LtB LenOk goodR wt)
open KR (KRow AtV)
open Name (isName)

theorem depE_name {d:PDep} (h:isName d.name=false):depE d=12:=by unfold depE; rw [if_pos h]
theorem depE_range {d:PDep} (h:isName d.name=true) (g:goodR d.r 0=false):depE d=3:=by unfold depE; rw [if_neg (by rw [h]; decide),if_pos g]
theorem depE_good {d:PDep} (h:isName d.name=true) (g:goodR d.r 0=true):depE d=0:=by unfold depE; rw [if_neg (by rw [h]; decide),if_neg (by rw [g]; decide)]
theorem toO_none {e:Int}:toO e=none↔e=0:=by unfold toO; split <;> simp_all
theorem toO_some {e:Int} (h:e≠0):toO e=some e:=by unfold toO; rw [if_neg h]
theorem map_at {α β:Type} [Inhabited α] [Inhabited β] (f:α→β) (l:List α) {k:Nat} (h:k<l.length):(l.map f).getD k default=f (l.getD k default):=by
 rw [List.getD_eq_getElem?_getD,List.getD_eq_getElem?_getD,List.getElem?_map,List.getElem?_eq_getElem h]; rfl
theorem getD_mem {α:Type} [Inhabited α] {l:List α} {k:Nat} (h:k<l.length):l.getD k default ∈ l:=by
 rw [List.getD_eq_getElem?_getD,List.getElem?_eq_getElem h]; exact List.getElem_mem _
theorem DRow.cells {w:World} {S:Nat→Prop} {A:Option Addr} {n:Nat} {l:List MDep} (h:DRow w S A n l) {k:Nat} (hk:k<n):∃ b o,A=some ⟨b,o,none⟩∧S b∧b<w.heap.size ∧
  w.cell? ⟨b,o+k * 8,none⟩=some (.string (Ident.mk (l.getD k default).name))∧w.cell? ⟨b,o+k * 8+1,none⟩=some (.int .i64 (l.getD k default).x.kind)∧w.cell? ⟨b,o+k * 8+2,none⟩=some (.int .u64 ((l.getD k default).x.v.a))∧w.cell? ⟨b,o+k * 8+3,none⟩=some (.int .u64 ((l.getD k default).x.v.b))∧w.cell? ⟨b,o+k * 8+4,none⟩=some (.int .u64 ((l.getD k default).x.v.c))∧w.cell? ⟨b,o+k * 8+5,none⟩=some (.slice (l.getD k default).x.A (l.getD k default).x.v.pre.length (l.getD k default).x.c)∧w.cell? ⟨b,o+k * 8+6,none⟩=some (.slice (l.getD k default).x.B (l.getD k default).x.v.build.length (l.getD k default).x.d)∧w.cell? ⟨b,o+k * 8+7,none⟩=some (.slice (l.getD k default).x.L (l.getD k default).x.n (l.getD k default).x.e):=by
 obtain ⟨b,o,e,hb,hlt,hc⟩:=h.row.at_ hk
 exact ⟨b,o,e,hb,hlt,hc 0 _ rfl,hc 1 _ rfl,hc 2 _ rfl,hc 3 _ rfl,hc 4 _ rfl,hc 5 _ rfl,hc 6 _ rfl,hc 7 _ rfl⟩
def out2V (o:Option (Nat × Int)):Value:=.tuple #[.int .i64 (out2 o).1,.int .i64 (out2 o).2]
end Go.Proofs.YtneilnibghhgmaaGreatDoor.Model
namespace Go.Proofs.YtneilnibghhgmaaGreatDoor.Came
open Go.ChangeShapes Go.WideShapes Go.RowKit Go.Deep
open Range (Rng noRng RV LenOk LtB InS)
open KR (KRow)
open Model (MDep MVer MRel MPack MPin DepOk VerOk RelOk PackOk PinOk DRow RRow PRow SPRow)

theorem name_read {H:Type} {enc:TypeId × Value→H} {W:World} {n:Nat} {z:Value} {y:DataW H × List MemPlace} (h:DataW.trod enc Tryz.prog W 0 (fun _=>true) true n 9 [z]=some y):∃ s:List UInt8,z=.string (Ident.mk s)∧s.length≤maxLen:=by
 obtain ⟨s,e,_,hs⟩:=DataW.trod_string Tryz.underlying9 h
 simp at e
 exact ⟨s.data.toList,by rw [e]; rfl,by rw [← Lib.size_eq]; exact hs⟩
theorem bool_read {H:Type} {enc:TypeId × Value→H} {W:World} {n:Nat} {z:Value} {y:DataW H × List MemPlace} (h:DataW.trod enc Tryz.prog W 0 (fun _=>true) true n 4 [z]=some y):∃ b:Bool,z=.bool b:=by
 obtain ⟨b,e,_⟩:=DataW.trod_bool Tryz.underlying4 h
 simp at e
 exact ⟨b,e⟩
theorem mver_at {H:Type} {enc:TypeId × Value→H} {W:World} {fuel:Nat} {l:List Value} {y:DataW H × List MemPlace} (hf:DataW.trod enc Tryz.prog W 0 (fun _=>true) true fuel 47 l=some y):∃ x:MVer,l=x.vals∧VerOk W (LtB W.heap.size) x:=by
 obtain ⟨v,A,c,B,d,e,h1,h2,h3,h4,h5,_⟩:=ver_full hf
 exact ⟨⟨v,A,c,B,d⟩,e,h1,h2,ins_of h1,ins_of h2,h4,h5,h3⟩
theorem dep_at {H:Type} {enc:TypeId × Value→H} {W:World} {fuel:Nat} {l:List Value} {y:DataW H × List MemPlace} (hf:DataW.trod enc Tryz.prog W 0 (fun _=>true) true fuel 61 l=some y) (hs0:Sized 61 y.1):∃ d:MDep,l=d.vals∧DepOk W (LtB W.heap.size) d:=by
 have hC:Tryz.prog.cellsOf 61=8:=by kernel_rfl
 have cs:Tryz.prog.cellsOf 9=1:=by kernel_rfl
 have cr:Tryz.prog.cellsOf 59=7:=by kernel_rfl
 obtain ⟨xs,n,_,hy0,hsz,hlen,hg⟩:=DataW.trod_struct Tryz.underlying61 hf
 have hl:xs.length=2:=hlen
 rw [hC] at hsz
 match l,hsz with
 | [z0,z1,z2,z3,z4,z5,z6,z7],_ =>
  match xs,hl with
  | [y0,y1],_ =>
   have f0:DataW.trod enc Tryz.prog W 0 (fun _=>true) true n 9 (([z0,z1,z2,z3,z4,z5,z6,z7].drop 0).take (Tryz.prog.cellsOf 9))=some y0:=hg 0 _ rfl
   rw [cs] at f0
   have g0:DataW.trod enc Tryz.prog W 0 (fun _=>true) true n 9 [z0]=some y0:=f0
   have f1:DataW.trod enc Tryz.prog W 0 (fun _=>true) true n 59 (([z0,z1,z2,z3,z4,z5,z6,z7].drop 1).take (Tryz.prog.cellsOf 59))=some y1:=hg 1 _ rfl
   rw [cr] at f1
   have g1:DataW.trod enc Tryz.prog W 0 (fun _=>true) true n 59 [z1,z2,z3,z4,z5,z6,z7]=some y1:=f1
   rw [hy0] at hs0
   clear f0 f1 hg
   obtain ⟨s,rfl,hs⟩:=name_read g0
   obtain ⟨r,x,e,h1,h2,h3⟩:=rng_at n n _ _ (Nat.le_refl _) g1
   exact ⟨⟨s,r,x⟩,by rw [e]; rfl,hs,h1,h2,h3 (hs0.part Tryz.underlying61 (i:=1) rfl rfl)⟩
theorem deps_at {H:Type} {enc:TypeId × Value→H} {W:World} {fuel:Nat} {cs:List Value} {y:DataW H × List MemPlace} (hf:DataW.trod enc Tryz.prog W 0 (fun _=>true) true fuel 25 cs=some y) (hs0:Sized 25 y.1) :
  ∃ (A:Option Addr) (c:Nat) (l:List MDep),cs=[.slice A l.length c]∧DRow W (LtB W.heap.size) A l.length l∧l.length≤c∧c≤maxLen∧(A=none→c=0):=by
 obtain ⟨A,n,c,l,e,h1,h2,h3,h4,h5⟩:=KR.KRow.came (P:=DepOk W (LtB W.heap.size)) Tryz.underlying25 (by kernel_rfl) Model.dep_len (by omega) (fun _ _ _ h q=>dep_at h q) hf hs0
 obtain rfl:=h1.1
 exact ⟨A,c,l,e,⟨h1,h2⟩,h3,h4,h5⟩
theorem rel_at {H:Type} {enc:TypeId × Value→H} {W:World} {fuel:Nat} {l:List Value} {y:DataW H × List MemPlace} (hf:DataW.trod enc Tryz.prog W 0 (fun _=>true) true fuel 49 l=some y) (hs0:Sized 49 y.1):∃ r:MRel,l=r.vals∧RelOk W (LtB W.heap.size) r:=by
 have hC:Tryz.prog.cellsOf 49=8:=by kernel_rfl
 have cv:Tryz.prog.cellsOf 47=5:=by kernel_rfl
 have cb:Tryz.prog.cellsOf 4=1:=by kernel_rfl
 have cd:Tryz.prog.cellsOf 25=1:=by kernel_rfl
 obtain ⟨xs,n,_,hy0,hsz,hlen,hg⟩:=DataW.trod_struct Tryz.underlying49 hf
 have hl:xs.length=4:=hlen
 rw [hC] at hsz
 match l,hsz with
 | [z0,z1,z2,z3,z4,z5,z6,z7],_ =>
  match xs,hl with
  | [y0,y1,y2,y3],_ =>
   have f0:DataW.trod enc Tryz.prog W 0 (fun _=>true) true n 47 (([z0,z1,z2,z3,z4,z5,z6,z7].drop 0).take (Tryz.prog.cellsOf 47))=some y0:=hg 0 _ rfl
   rw [cv] at f0
   have g0:DataW.trod enc Tryz.prog W 0 (fun _=>true) true n 47 [z0,z1,z2,z3,z4]=some y0:=f0
   have f1:DataW.trod enc Tryz.prog W 0 (fun _=>true) true n 4 (([z0,z1,z2,z3,z4,z5,z6,z7].drop 5).take (Tryz.prog.cellsOf 4))=some y1:=hg 1 _ rfl
   rw [cb] at f1
   have g1:DataW.trod enc Tryz.prog W 0 (fun _=>true) true n 4 [z5]=some y1:=f1
   have f2:DataW.trod enc Tryz.prog W 0 (fun _=>true) true n 25 (([z0,z1,z2,z3,z4,z5,z6,z7].drop 6).take (Tryz.prog.cellsOf 25))=some y2:=hg 2 _ rfl
   rw [cd] at f2
   have g2:DataW.trod enc Tryz.prog W 0 (fun _=>true) true n 25 [z6]=some y2:=f2
   have f3:DataW.trod enc Tryz.prog W 0 (fun _=>true) true n 25 (([z0,z1,z2,z3,z4,z5,z6,z7].drop 7).take (Tryz.prog.cellsOf 25))=some y3:=hg 3 _ rfl
   rw [cd] at f3
   have g3:DataW.trod enc Tryz.prog W 0 (fun _=>true) true n 25 [z7]=some y3:=f3
   rw [hy0] at hs0
   clear f0 f1 f2 f3 hg
   obtain ⟨v,e,hv⟩:=mver_at g0
   obtain ⟨b,rfl⟩:=bool_read g1
   obtain ⟨N,nc,ln,e1,p1,p2,p3,p4⟩:=deps_at g2 (hs0.part Tryz.underlying49 (i:=2) rfl rfl)
   obtain ⟨B,bc,lb,e2,q1,q2,q3,q4⟩:=deps_at g3 (hs0.part Tryz.underlying49 (i:=3) rfl rfl)
   simp at e1 e2
   subst e1
   subst e2
   exact ⟨⟨v,b,N,nc,ln,B,bc,lb⟩,by show [z0,z1,z2,z3,z4] ++ [.bool b,.slice N ln.length nc,.slice B lb.length bc]=_; rw [e]; rfl,hv,p1,q1,⟨p2,p3⟩,⟨q2,q3⟩,p4,q4⟩
theorem rels_at {H:Type} {enc:TypeId × Value→H} {W:World} {fuel:Nat} {cs:List Value} {y:DataW H × List MemPlace} (hf:DataW.trod enc Tryz.prog W 0 (fun _=>true) true fuel 62 cs=some y) (hs0:Sized 62 y.1) :
  ∃ (A:Option Addr) (c:Nat) (l:List MRel),cs=[.slice A l.length c]∧RRow W (LtB W.heap.size) A l.length l∧l.length≤c∧c≤maxLen∧(A=none→c=0):=by
 obtain ⟨A,n,c,l,e,h1,h2,h3,h4,h5⟩:=KR.KRow.came (P:=RelOk W (LtB W.heap.size)) Tryz.underlying62 (by kernel_rfl) Model.rel_len (by omega) (fun _ _ _ h q=>rel_at h q) hf hs0
 obtain rfl:=h1.1
 exact ⟨A,c,l,e,⟨h1,h2⟩,h3,h4,h5⟩
theorem pack_at {H:Type} {enc:TypeId × Value→H} {W:World} {fuel:Nat} {l:List Value} {y:DataW H × List MemPlace} (hf:DataW.trod enc Tryz.prog W 0 (fun _=>true) true fuel 64 l=some y) (hs0:Sized 64 y.1):∃ p:MPack,l=p.vals∧PackOk W (LtB W.heap.size) p:=by
 have hC:Tryz.prog.cellsOf 64=2:=by kernel_rfl
 have cs:Tryz.prog.cellsOf 9=1:=by kernel_rfl
 have cr:Tryz.prog.cellsOf 62=1:=by kernel_rfl
 obtain ⟨xs,n,_,hy0,hsz,hlen,hg⟩:=DataW.trod_struct Tryz.underlying64 hf
 have hl:xs.length=2:=hlen
 rw [hC] at hsz
 match l,hsz with
 | [z0,z1],_ =>
  match xs,hl with
  | [y0,y1],_ =>
   have f0:DataW.trod enc Tryz.prog W 0 (fun _=>true) true n 9 (([z0,z1].drop 0).take (Tryz.prog.cellsOf 9))=some y0:=hg 0 _ rfl
   rw [cs] at f0
   have g0:DataW.trod enc Tryz.prog W 0 (fun _=>true) true n 9 [z0]=some y0:=f0
   have f1:DataW.trod enc Tryz.prog W 0 (fun _=>true) true n 62 (([z0,z1].drop 1).take (Tryz.prog.cellsOf 62))=some y1:=hg 1 _ rfl
   rw [cr] at f1
   have g1:DataW.trod enc Tryz.prog W 0 (fun _=>true) true n 62 [z1]=some y1:=f1
   rw [hy0] at hs0
   clear f0 f1 hg
   obtain ⟨s,rfl,hs⟩:=name_read g0
   obtain ⟨R,rc,l,e1,p1,p2,p3,p4⟩:=rels_at g1 (hs0.part Tryz.underlying64 (i:=1) rfl rfl)
   simp at e1
   subst e1
   exact ⟨⟨s,R,rc,l⟩,rfl,hs,p1,⟨p2,p3⟩,p4⟩
theorem packs_at {H:Type} {enc:TypeId × Value→H} {W:World} {fuel:Nat} {cs:List Value} {y:DataW H × List MemPlace} (hf:DataW.trod enc Tryz.prog W 0 (fun _=>true) true fuel 22 cs=some y) (hs0:Sized 22 y.1) :
  ∃ (A:Option Addr) (c:Nat) (l:List MPack),cs=[.slice A l.length c]∧PRow W (LtB W.heap.size) A l.length l∧l.length≤c∧c≤maxLen∧(A=none→c=0):=by
 obtain ⟨A,n,c,l,e,h1,h2,h3,h4,h5⟩:=KR.KRow.came (P:=PackOk W (LtB W.heap.size)) Tryz.underlying22 (by kernel_rfl) Model.pack_len (by omega) (fun _ _ _ h q=>pack_at h q) hf hs0
 obtain rfl:=h1.1
 exact ⟨A,c,l,e,⟨h1,h2⟩,h3,h4,h5⟩
theorem pin_at {H:Type} {enc:TypeId × Value→H} {W:World} {fuel:Nat} {l:List Value} {y:DataW H × List MemPlace} (hf:DataW.trod enc Tryz.prog W 0 (fun _=>true) true fuel 66 l=some y):∃ p:MPin,l=p.vals∧PinOk W (LtB W.heap.size) p:=by
 have hC:Tryz.prog.cellsOf 66=6:=by kernel_rfl
 have cs:Tryz.prog.cellsOf 9=1:=by kernel_rfl
 have cv:Tryz.prog.cellsOf 47=5:=by kernel_rfl
 obtain ⟨xs,n,_,_,hsz,hlen,hg⟩:=DataW.trod_struct Tryz.underlying66 hf
 have hl:xs.length=2:=hlen
 rw [hC] at hsz
 match l,hsz with
 | [z0,z1,z2,z3,z4,z5],_ =>
  match xs,hl with
  | [y0,y1],_ =>
   have f0:DataW.trod enc Tryz.prog W 0 (fun _=>true) true n 9 (([z0,z1,z2,z3,z4,z5].drop 0).take (Tryz.prog.cellsOf 9))=some y0:=hg 0 _ rfl
   rw [cs] at f0
   have g0:DataW.trod enc Tryz.prog W 0 (fun _=>true) true n 9 [z0]=some y0:=f0
   have f1:DataW.trod enc Tryz.prog W 0 (fun _=>true) true n 47 (([z0,z1,z2,z3,z4,z5].drop 1).take (Tryz.prog.cellsOf 47))=some y1:=hg 1 _ rfl
   rw [cv] at f1
   have g1:DataW.trod enc Tryz.prog W 0 (fun _=>true) true n 47 [z1,z2,z3,z4,z5]=some y1:=f1
   clear f0 f1 hg
   obtain ⟨s,rfl,hs⟩:=name_read g0
   obtain ⟨v,e,hv⟩:=mver_at g1
   exact ⟨⟨s,v⟩,by rw [e]; rfl,hs,hv⟩
theorem pins_at {H:Type} {enc:TypeId × Value→H} {W:World} {fuel:Nat} {cs:List Value} {y:DataW H × List MemPlace} (hf:DataW.trod enc Tryz.prog W 0 (fun _=>true) true fuel 26 cs=some y) (hs0:Sized 26 y.1) :
  ∃ (A:Option Addr) (c:Nat) (l:List MPin),cs=[.slice A l.length c]∧SPRow W (LtB W.heap.size) A l.length l∧l.length≤c∧c≤maxLen∧(A=none→c=0):=by
 obtain ⟨A,n,c,l,e,h1,h2,h3,h4,h5⟩:=KR.KRow.came (P:=PinOk W (LtB W.heap.size)) Tryz.underlying26 (by kernel_rfl) Model.pin_len (by omega) (fun _ _ _ h _=>pin_at h) hf hs0
 obtain rfl:=h1.1
 exact ⟨A,c,l,e,⟨h1,h2⟩,h3,h4,h5⟩
end Go.Proofs.YtneilnibghhgmaaGreatDoor.Came
namespace Go.Proofs.YtneilnibghhgmaaGreatDoor.Model
open Go.RowKit Num Ident Semver
open Range (Rng noRng RV KeepS LtB LenOk goodR wt)
open KR (KRow AtV)
open Name (isName)

theorem mk_ne {a b:List UInt8} (h:a≠b):((Ident.mk a).toList == (Ident.mk b).toList)=false:=by
 rw [Lib.toList_data,Lib.toList_data,beq_eq_false_iff_ne]; exact h
theorem mk_eq (a:List UInt8):((Ident.mk a).toList == (Ident.mk a).toList)=true:=by simp
theorem SPRow.cells {w:World} {S:Nat→Prop} {A:Option Addr} {n:Nat} {l:List MPin} (h:SPRow w S A n l) {k:Nat} (hk:k<n):∃ b o,A=some ⟨b,o,none⟩∧S b∧b<w.heap.size ∧
  w.cell? ⟨b,o+k * 6,none⟩=some (.string (Ident.mk (l.getD k default).name))∧w.cell? ⟨b,o+k * 6+1,none⟩=some (.int .u64 ((l.getD k default).ver.v.a))∧w.cell? ⟨b,o+k * 6+2,none⟩=some (.int .u64 ((l.getD k default).ver.v.b))∧w.cell? ⟨b,o+k * 6+3,none⟩=some (.int .u64 ((l.getD k default).ver.v.c))∧w.cell? ⟨b,o+k * 6+4,none⟩=some (.slice (l.getD k default).ver.A (l.getD k default).ver.v.pre.length (l.getD k default).ver.c)∧w.cell? ⟨b,o+k * 6+5,none⟩=some (.slice (l.getD k default).ver.B (l.getD k default).ver.v.build.length (l.getD k default).ver.d):=by
 obtain ⟨b,o,e,hb,hlt,hc⟩:=h.row.at_ hk
 exact ⟨b,o,e,hb,hlt,hc 0 _ rfl,hc 1 _ rfl,hc 2 _ rfl,hc 3 _ rfl,hc 4 _ rfl,hc 5 _ rfl⟩
end Go.Proofs.YtneilnibghhgmaaGreatDoor.Model
namespace Go.Proofs.YtneilnibghhgmaaGreatDoor.Model
open Go.RowKit Num Ident Semver
open Range (Rng noRng RV KeepS LtB LenOk goodR wt)
open KR (KRow AtV)
open Name (isName)

def checkV (o:Option (Int × Int × Int × Int)):Value:=.tuple #[.agg #[.int .i64 (out4 o).1,.int .i64 (out4 o).2.1,.int .i64 (out4 o).2.2.1],.int .i64 (out4 o).2.2.2]
structure Modest (x:List MPack):Prop where
 name:∀ p ∈ x,p.name.length≤1000000
 needs:∀ p ∈ x,∀ r ∈ p.rels,r.needs.length≤1000000∧r.bans.length≤1000000
 dep:∀ p ∈ x,∀ r ∈ p.rels,∀ d ∈ r.needs ++ r.bans,d.name.length≤1000000
structure ChkAt (w:World) (ib rb nb:Nat) (A:Option Addr) (n c:Nat) (W:World):Prop where
 ix:AtV W ib [.slice A n c]
 res:AtV W rb [.int .i64 0,.int .i64 0,.int .i64 0]
 non:AtV W nb [.int .i64 (-1),.int .i64 (-1),.int .i64 (-1)]
 hi:w.heap.size≤rb
 bel:Below w.heap.size w W
theorem RRow.cells {w:World} {S:Nat→Prop} {A:Option Addr} {n:Nat} {l:List MRel} (h:RRow w S A n l) {k:Nat} (hk:k<n):∃ b o,A=some ⟨b,o,none⟩∧S b∧b<w.heap.size∧w.cell? ⟨b,o+k * 8,none⟩=some (.int .u64 ((l.getD k default).ver.v.a))∧w.cell? ⟨b,o+k * 8+1,none⟩=some (.int .u64 ((l.getD k default).ver.v.b))∧w.cell? ⟨b,o+k * 8+2,none⟩=some (.int .u64 ((l.getD k default).ver.v.c))∧w.cell? ⟨b,o+k * 8+3,none⟩=some (.slice (l.getD k default).ver.A (l.getD k default).ver.v.pre.length (l.getD k default).ver.c)∧w.cell? ⟨b,o+k * 8+4,none⟩=some (.slice (l.getD k default).ver.B (l.getD k default).ver.v.build.length (l.getD k default).ver.d)∧w.cell? ⟨b,o+k * 8+5,none⟩=some (.bool (l.getD k default).yanked)∧w.cell? ⟨b,o+k * 8+6,none⟩=some (.slice (l.getD k default).N (l.getD k default).needs.length (l.getD k default).nc)∧w.cell? ⟨b,o+k * 8+7,none⟩=some (.slice (l.getD k default).B (l.getD k default).bans.length (l.getD k default).bc):=by
 obtain ⟨b,o,e,hb,hlt,hc⟩:=h.row.at_ hk
 exact ⟨b,o,e,hb,hlt,hc 0 _ rfl,hc 1 _ rfl,hc 2 _ rfl,hc 3 _ rfl,hc 4 _ rfl,hc 5 _ rfl,hc 6 _ rfl,hc 7 _ rfl⟩
theorem PRow.cells {w:World} {S:Nat→Prop} {A:Option Addr} {n:Nat} {l:List MPack} (h:PRow w S A n l) {k:Nat} (hk:k<n):∃ b o,A=some ⟨b,o,none⟩∧S b∧b<w.heap.size∧w.cell? ⟨b,o+k * 2,none⟩=some (.string (Ident.mk (l.getD k default).name))∧w.cell? ⟨b,o+k * 2+1,none⟩=some (.slice (l.getD k default).R (l.getD k default).rels.length (l.getD k default).rc):=by
 obtain ⟨b,o,e,hb,hlt,hc⟩:=h.row.at_ hk
 exact ⟨b,o,e,hb,hlt,hc 0 _ rfl,hc 1 _ rfl⟩
end Go.Proofs.YtneilnibghhgmaaGreatDoor.Model
namespace Go.Proofs.YtneilnibghhgmaaGreatDoor.Model
open Go.RowKit Num Ident Semver
open Range (Rng noRng RV KeepS LtB LenOk goodR wt)
open Nrm (tot Tells Slim)
open KR (KRow AtV)

def FewD (l:List MDep):Prop:=l.length≤6∧∀ d ∈ l,d.name.length≤300∧(Slim d.r→tot d.r≤12)
structure FewX (x:List MPack):Prop where
 len:x.length≤6
 pack:∀ p ∈ x,p.name.length≤300∧p.rels.length≤6
 rel:∀ p ∈ x,∀ r ∈ p.rels,r.ver.v.pre.length≤20∧r.ver.v.build.length≤20∧FewD r.needs∧FewD r.bans
def FewS (s:List MPin):Prop:=s.length≤8∧∀ p ∈ s,p.name.length≤300∧p.ver.v.pre.length≤20∧p.ver.v.build.length≤20
theorem mem_of_at {α:Type} [Inhabited α] {l:List α} {n:Nat} {P:α→Prop} (hl:l.length=n) (h:∀ j,j<n→P (l.getD j default)):∀ d ∈ l,P d:=by
 intro d hd
 obtain ⟨j,hj,rfl⟩:=List.getElem_of_mem hd
 have:=h j (by omega)
 rwa [List.getD_eq_getElem?_getD,List.getElem?_eq_getElem hj] at this
theorem at_step {α:Type} [Inhabited α] {l:List α} {k:Nat} {P:α→Prop} (hD:∀ j,j<k→P (l.getD j default)) (h:P (l.getD k default)):∀ j,j<k+1→P (l.getD j default):=fun j hj=>by
 rcases Nat.lt_or_ge j k with h1 | h1
 ·exact hD j h1
 ·obtain rfl:j=k:=by omega
  exact h
def DepsPost (l:List MDep) (w:World) (e:Ending) (w':World):Prop:=∃ b:Bool,e=.returned (.bool b)∧(b=true→FewD l)∧Below w.heap.size w w'
def FewP (d:MDep):Prop:=d.name.length≤300∧(Slim d.r→tot d.r≤12)
theorem lawDeps_any (A:Option Addr) (n c:Nat) (l:List MDep) (B:Nat) (w:World) (h:DRow w (LtB B) A n l) (hB:B≤w.heap.size) (hn:n≤maxLen) :
  Calls Tryz.prog 24 #[.slice A n c] w (DepsPost l w):=by
 have HO:=Lib.hid h
 have HL:=Lib.hid h.row.1
 unfold maxLen at hn
 clear h
 by_cases h6:6<n
 ·go_enter Tryz.func24,Tryz.ntmps24
  go_wp2
  go_ret
  exact ⟨false,rfl,(fun h=>by cases h),Below.refl _ _⟩
 ·have HL6:Hid (l.length≤6):=by unfold Hid; rw [HL.out]; omega
  go_enter Tryz.func24,Tryz.ntmps24
  go_wp2
  go_loopw [3] (fun i W=>∃ k:Nat,k≤n∧i=.int .i64 k∧Hid (∀ j,j<k→FewP (l.getD j default))∧Hid (Below w.heap.size w W)) (fun i _=>n - (intOf i).toNat)
  case atStart=>exact ⟨0,Nat.zero_le _,rfl,(fun j hj=>by omega),Below.refl _ _⟩
  case round =>
   rename World=>wk
   obtain ⟨k,hk,rfl,HD,HW⟩:=hrel
   by_cases hlt:k<n
   ·have hrow:=HO.out.keep (KeepS.of_below (S:=LtB B) HW.out)
    have HDO:Hid (DepOk wk (LtB B) (l.getD k default)):=hrow.ok _ (getD_mem (by rw [HL.out]; exact hlt))
    obtain ⟨b,o,rfl,_,hb,c0,c1,c2,c3,c4,c5,c6,c7⟩:=hrow.cells hlt
    have HMO:Hid (FewP (l.getD k default)→∀ j,j<k+1→FewP (l.getD j default)):=at_step HD.out
    clear hrow
    generalize l.getD k default=d at c0 c1 c2 c3 c4 c5 c6 c7 HDO HMO
    have hz:(Ident.mk d.name).size=d.name.length:=mk_size _
    have hsh:d.name.length≤9223372036854775807:=HDO.out.short
    by_cases h3:300<d.name.length
    ·go_wp2
     go_ret
     exact ⟨false,rfl,(fun h=>by cases h),HW.out⟩
    ·have HN3:=Lib.hid h3
     go_wp2_with fail
     refine (Nrm.great_full (wt d.r) d.r d.x B 12 _ (Nat.le_refl _) HDO.out.len HDO.out.lies (Nat.le_trans hB HW.out.size)).mono ?_
     rintro e W1 ⟨z,rfl,ht,hb1⟩
     have HW1:=Lib.hid (HW.out.trans (hb1.mono HW.out.size))
     have HT:=Lib.hid ht
     clear hb1 ht c0 c1 c2 c3 c4 c5 c6 c7
     by_cases hz12:12<z
     ·go_wp2
      go_ret
      exact ⟨false,rfl,(fun h=>by cases h),HW1.out⟩
     ·have HP:Hid (∀ j,j<k+1→FewP (l.getD j default)):=HMO.out ⟨by have:=HN3.out; omega,fun hg=>by
       have:=(HT.out hg (by omega) (by omega)).2.2 (by omega)
       omega⟩
      go_wp2
      exact ⟨⟨k+1,by omega,by go_num,HP.out,HW1.out⟩,by simp [intOf]; omega⟩
   ·obtain rfl:k=n:=by omega
    have HF:Hid (FewD l):=⟨HL6.out,mem_of_at HL.out HD.out⟩
    go_wp2
    go_ret
    exact ⟨true,rfl,(fun _=>HF.out),HW.out⟩
end Go.Proofs.YtneilnibghhgmaaGreatDoor.Model
