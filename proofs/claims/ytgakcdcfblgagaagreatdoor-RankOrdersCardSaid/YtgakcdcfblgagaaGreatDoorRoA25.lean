/-
  What the theorem of the last text needs of these: MoMem, MoMore, MoRefDep, MoClone2, MoCame, MoRefPins, MoRefAll. Conditions: as each theorem states.
-/
import Derived.Test.YtgakcdcfblgagaaGreatDoorRoA1
import Derived.Test.YtgakcdcfblgagaaGreatDoorRoA2
import Derived.Test.YtgakcdcfblgagaaGreatDoorRoA3
import Derived.Test.YtgakcdcfblgagaaGreatDoorRoA7
import Derived.Test.YtgakcdcfblgagaaGreatDoorRoA15
import Derived.Test.YtgakcdcfblgagaaGreatDoorRoA16
import Derived.Test.YtgakcdcfblgagaaGreatDoorRoA17
import Derived.Test.YtgakcdcfblgagaaGreatDoorRoA18
import Derived.Test.YtgakcdcfblgagaaGreatDoorRoA19
import Derived.Test.YtgakcdcfblgagaaGreatDoorRoA23
import Derived.Deep.CutBlock
import Derived.Deep.DeepCutAuto
import Derived.Lib.SliceRun
set_option maxRecDepth 100000
set_option maxHeartbeats 25600000
namespace Go.Proofs.YtgakcdcfblgagaaGreatDoor.Model
open Go.RowKit Num Ident Semver
open Range (Rng noRng RV KeepS LtB InS LenOk FitV srow_keepS)
open KR (KRow)

structure MDep where
 name:List UInt8
 r:Rng
 x:RV
instance:Inhabited MDep:=⟨⟨[],noRng,default⟩⟩
def MDep.vals (d:MDep):List Value:=.string (Ident.mk d.name) :: d.x.vals
def MDep.p (d:MDep):PDep:=⟨d.name,d.r⟩
def MDep.agg (d:MDep):Value:=.agg #[.string (Ident.mk d.name),d.x.kind,d.x.v.a,d.x.v.b,d.x.v.c,.slice d.x.A d.x.v.pre.length d.x.c,.slice d.x.B d.x.v.build.length d.x.d,.slice d.x.L d.x.n d.x.e]
theorem dep_one (d:MDep):∀ u ∈ d.vals,u.oneCell'=true:=by
 intro u hu
 rcases List.mem_cons.1 hu with rfl | hu
 ·rfl
 ·exact Range.rv_one d.x u hu
theorem depInfo:(Tryz.prog.info? 67).map (fun i=>(i.zero,i.size,i.bytes))=some (some (.agg #[.string ⟨#[]⟩,.int .i64 0,.int .u64 0,.int .u64 0,.int .u64 0,.slice none 0 0,.slice none 0 0,.slice none 0 0]),8,120):=by kernel_rfl
theorem dep_len (d:MDep):d.vals.length=8:=rfl
structure DepOk (w:World) (S:Nat→Prop) (d:MDep):Prop where
 short:d.name.length≤maxLen
 lies:Range.Lies w S d.r d.x
 len:LenOk d.r
 slim:Nrm.Slim d.r
theorem DepOk.keep {w w':World} {S:Nat→Prop} {d:MDep} (h:DepOk w S d) (k:KeepS S w w'):DepOk w' S d:=⟨h.short,h.lies.keep k,h.len,h.slim⟩
theorem DepOk.mono {w:World} {S S':Nat→Prop} {d:MDep} (h:DepOk w S d) (hS:∀ b,S b→b<w.heap.size→S' b):DepOk w S' d:=⟨h.short,h.lies.mono hS,h.len,h.slim⟩
structure DRow (w:World) (S:Nat→Prop) (A:Option Addr) (n:Nat) (l:List MDep):Prop where
 row:KRow MDep.vals 8 w S A n l
 ok:∀ d ∈ l,DepOk w S d
theorem DRow.keep {w w':World} {S:Nat→Prop} {A:Option Addr} {n:Nat} {l:List MDep} (h:DRow w S A n l) (k:KeepS S w w'):DRow w' S A n l:=⟨h.row.keep k,fun d hd=>(h.ok d hd).keep k⟩
theorem DRow.mono {w:World} {S S':Nat→Prop} {A:Option Addr} {n:Nat} {l:List MDep} (h:DRow w S A n l) (hS:∀ b,S b→b<w.heap.size→S' b):DRow w S' A n l:=⟨h.row.mono hS,fun d hd=>(h.ok d hd).mono hS⟩
structure MVer where
 v:Ver
 A:Option Addr
 c:Nat
 B:Option Addr
 d:Nat
instance:Inhabited MVer:=⟨⟨noVer,none,0,none,0⟩⟩
def MVer.vals (x:MVer):List Value:=[.int .u64 x.v.a,.int .u64 x.v.b,.int .u64 x.v.c,.slice x.A x.v.pre.length x.c,.slice x.B x.v.build.length x.d]
def MVer.agg (x:MVer):Value:=.agg #[x.v.a,x.v.b,x.v.c,.slice x.A x.v.pre.length x.c,.slice x.B x.v.build.length x.d]
structure VerOk (w:World) (S:Nat→Prop) (x:MVer):Prop where
 pre:SRow w x.A x.v.pre.length x.v.pre
 build:SRow w x.B x.v.build.length x.v.build
 ip:InS S x.A x.v.pre.length
 ib:InS S x.B x.v.build.length
 cp:x.v.pre.length≤x.c
 cb:x.v.build.length≤x.d
 fit:FitV x.v
theorem VerOk.keep {w w':World} {S:Nat→Prop} {x:MVer} (h:VerOk w S x) (k:KeepS S w w'):VerOk w' S x:=⟨srow_keepS h.pre k h.ip,srow_keepS h.build k h.ib,h.ip,h.ib,h.cp,h.cb,h.fit⟩
theorem VerOk.mono {w:World} {S S':Nat→Prop} {x:MVer} (h:VerOk w S x) (hS:∀ b,S b→b<w.heap.size→S' b):VerOk w S' x:=⟨h.pre,h.build,h.ip.mono h.pre hS,h.ib.mono h.build hS,h.cp,h.cb,h.fit⟩
structure MRel where
 ver:MVer
 yanked:Bool
 N:Option Addr
 nc:Nat
 needs:List MDep
 B:Option Addr
 bc:Nat
 bans:List MDep
instance:Inhabited MRel:=⟨⟨default,false,none,0,[],none,0,[]⟩⟩
def MRel.vals (r:MRel):List Value:=r.ver.vals ++ [.bool r.yanked,.slice r.N r.needs.length r.nc,.slice r.B r.bans.length r.bc]
def MRel.agg (r:MRel):Value:=.agg #[r.ver.v.a,r.ver.v.b,r.ver.v.c,.slice r.ver.A r.ver.v.pre.length r.ver.c,.slice r.ver.B r.ver.v.build.length r.ver.d,.bool r.yanked,.slice r.N r.needs.length r.nc,.slice r.B r.bans.length r.bc]
def MRel.p (r:MRel):PRel:=⟨r.ver.v,r.yanked,r.needs.map MDep.p,r.bans.map MDep.p⟩
theorem rel_len (r:MRel):r.vals.length=8:=rfl
structure RelOk (w:World) (S:Nat→Prop) (r:MRel):Prop where
 ver:VerOk w S r.ver
 needs:DRow w S r.N r.needs.length r.needs
 bans:DRow w S r.B r.bans.length r.bans
 nc:r.needs.length≤r.nc∧r.nc≤maxLen
 bc:r.bans.length≤r.bc∧r.bc≤maxLen
 nn:r.N=none→r.nc=0
 bn:r.B=none→r.bc=0
theorem RelOk.keep {w w':World} {S:Nat→Prop} {r:MRel} (h:RelOk w S r) (k:KeepS S w w'):RelOk w' S r:=⟨h.ver.keep k,h.needs.keep k,h.bans.keep k,h.nc,h.bc,h.nn,h.bn⟩
theorem RelOk.mono {w:World} {S S':Nat→Prop} {r:MRel} (h:RelOk w S r) (hS:∀ b,S b→b<w.heap.size→S' b):RelOk w S' r:=⟨h.ver.mono hS,h.needs.mono hS,h.bans.mono hS,h.nc,h.bc,h.nn,h.bn⟩
structure RRow (w:World) (S:Nat→Prop) (A:Option Addr) (n:Nat) (l:List MRel):Prop where
 row:KRow MRel.vals 8 w S A n l
 ok:∀ r ∈ l,RelOk w S r
theorem RRow.keep {w w':World} {S:Nat→Prop} {A:Option Addr} {n:Nat} {l:List MRel} (h:RRow w S A n l) (k:KeepS S w w'):RRow w' S A n l:=⟨h.row.keep k,fun d hd=>(h.ok d hd).keep k⟩
theorem RRow.mono {w:World} {S S':Nat→Prop} {A:Option Addr} {n:Nat} {l:List MRel} (h:RRow w S A n l) (hS:∀ b,S b→b<w.heap.size→S' b):RRow w S' A n l:=⟨h.row.mono hS,fun d hd=>(h.ok d hd).mono hS⟩
structure MPack where
 name:List UInt8
 R:Option Addr
 rc:Nat
 rels:List MRel
instance:Inhabited MPack:=⟨⟨[],none,0,[]⟩⟩
def MPack.vals (p:MPack):List Value:=[.string (Ident.mk p.name),.slice p.R p.rels.length p.rc]
def MPack.agg (p:MPack):Value:=.agg #[.string (Ident.mk p.name),.slice p.R p.rels.length p.rc]
def MPack.p (p:MPack):PPack:=⟨p.name,p.rels.map MRel.p⟩
theorem pack_len (p:MPack):p.vals.length=2:=rfl
structure PackOk (w:World) (S:Nat→Prop) (p:MPack):Prop where
 short:p.name.length≤maxLen
 rels:RRow w S p.R p.rels.length p.rels
 rc:p.rels.length≤p.rc∧p.rc≤maxLen
 rn:p.R=none→p.rc=0
theorem PackOk.keep {w w':World} {S:Nat→Prop} {p:MPack} (h:PackOk w S p) (k:KeepS S w w'):PackOk w' S p:=⟨h.short,h.rels.keep k,h.rc,h.rn⟩
theorem PackOk.mono {w:World} {S S':Nat→Prop} {p:MPack} (h:PackOk w S p) (hS:∀ b,S b→b<w.heap.size→S' b):PackOk w S' p:=⟨h.short,h.rels.mono hS,h.rc,h.rn⟩
structure PRow (w:World) (S:Nat→Prop) (A:Option Addr) (n:Nat) (l:List MPack):Prop where
 row:KRow MPack.vals 2 w S A n l
 ok:∀ p ∈ l,PackOk w S p
theorem PRow.keep {w w':World} {S:Nat→Prop} {A:Option Addr} {n:Nat} {l:List MPack} (h:PRow w S A n l) (k:KeepS S w w'):PRow w' S A n l:=⟨h.row.keep k,fun d hd=>(h.ok d hd).keep k⟩
theorem PRow.mono {w:World} {S S':Nat→Prop} {A:Option Addr} {n:Nat} {l:List MPack} (h:PRow w S A n l) (hS:∀ b,S b→b<w.heap.size→S' b):PRow w S' A n l:=⟨h.row.mono hS,fun d hd=>(h.ok d hd).mono hS⟩
structure MPin where
 name:List UInt8
 ver:MVer
instance:Inhabited MPin:=⟨⟨[],default⟩⟩
def MPin.vals (p:MPin):List Value:=.string (Ident.mk p.name) :: p.ver.vals
def MPin.agg (p:MPin):Value:=.agg #[.string (Ident.mk p.name),p.ver.v.a,p.ver.v.b,p.ver.v.c,.slice p.ver.A p.ver.v.pre.length p.ver.c,.slice p.ver.B p.ver.v.build.length p.ver.d]
def MPin.p (p:MPin):PPin:=⟨p.name,p.ver.v⟩
structure PinOk (w:World) (S:Nat→Prop) (p:MPin):Prop where
 short:p.name.length≤maxLen
 ver:VerOk w S p.ver
theorem PinOk.keep {w w':World} {S:Nat→Prop} {p:MPin} (h:PinOk w S p) (k:KeepS S w w'):PinOk w' S p:=⟨h.short,h.ver.keep k⟩
structure SPRow (w:World) (S:Nat→Prop) (A:Option Addr) (n:Nat) (l:List MPin):Prop where
 row:KRow MPin.vals 6 w S A n l
 ok:∀ p ∈ l,PinOk w S p
theorem SPRow.keep {w w':World} {S:Nat→Prop} {A:Option Addr} {n:Nat} {l:List MPin} (h:SPRow w S A n l) (k:KeepS S w w'):SPRow w' S A n l:=⟨h.row.keep k,fun d hd=>(h.ok d hd).keep k⟩
end Go.Proofs.YtgakcdcfblgagaaGreatDoor.Model
namespace Go.Proofs.YtgakcdcfblgagaaGreatDoor.Model
open Go.RowKit Num Ident Semver Fr
open Range (Rng noRng RV KeepS LtB LenOk goodR wt)
open KR (KRow AtV)
theorem keepS_but {T S:Nat→Prop} {w w':World} (h:But T w w') (hn:∀ g,S g→¬ T g):KeepS S w w' :=
 ⟨h.size,fun _ _ _ hg hc=>(h.cell (Range.block_lt hc) (hn _ hg)).trans hc⟩
theorem _root_.Go.Proofs.YtgakcdcfblgagaaGreatDoor.KR.AtV.but {T:Nat→Prop} {W W':World} {b:Nat} {L:List Value} (h:AtV W b L) (hb:But T W W') (hn:¬ T b):AtV W' b L :=
 ⟨Nat.lt_of_lt_of_le h.lt hb.size,fun o=>(hb.frozen h.lt hn).trans (h.fr o),fun i u hu=>(hb.cell h.lt hn).trans (h.at_ i u hu)⟩
theorem _root_.Go.Proofs.YtgakcdcfblgagaaGreatDoor.KR.AtV.set {W:World} {b:Nat} {L:List Value} (h:AtV W b L) (i:Nat) (v:Value) (hi:i<L.length):AtV (W.setCell ⟨b,i,none⟩ v) b (L.set i v):=by
 refine ⟨by simpa using h.lt,fun o=>by simp [go_sem,h.fr],fun j u hu=>?_⟩
 by_cases e:j=i
 ·subst e
  rw [List.getElem?_set_self hi] at hu
  injection hu with hu
  subst hu
  exact World.cell?_setCell_same _ _ _ (h.at_ j L[j] (List.getElem?_eq_getElem hi))
 ·rw [List.getElem?_set_ne (fun q=>e q.symm)] at hu
  rw [cell_beside _ _ _ _ _ (fun q=>e q.symm)]
  exact h.at_ j u hu
theorem _root_.Go.Proofs.YtgakcdcfblgagaaGreatDoor.Fr.But.then_same {T:Nat→Prop} {a w w':World} (h:But T a w) (k:Below w.heap.size w w'):But T a w':=h.trans (But.of_same k T) fun _ g=>.inl g
theorem _root_.Go.Proofs.YtgakcdcfblgagaaGreatDoor.Fr.But.then_ {T:Nat→Prop} {a w w':World} (h:But T a w) (k:But T w w'):But T a w':=h.trans k fun _ g=>.inl g
end Go.Proofs.YtgakcdcfblgagaaGreatDoor.Model
namespace Go.Proofs.YtgakcdcfblgagaaGreatDoor.Model
open Go.RowKit Num Ident Semver
open Range (Rng noRng RV KeepS LtB LenOk goodR wt)
open KR (KRow AtV)
open Name (isName)

theorem depE_name {d:PDep} (h:isName d.name=false):depE d=12:=by unfold depE; rw [if_pos h]
theorem depE_range {d:PDep} (h:isName d.name=true) (g:goodR d.r 0=false):depE d=3:=by unfold depE; rw [if_neg (by rw [h]; decide),if_pos g]
theorem depE_good {d:PDep} (h:isName d.name=true) (g:goodR d.r 0=true):depE d=0:=by unfold depE; rw [if_neg (by rw [h]; decide),if_neg (by rw [g]; decide)]
theorem refDep_any (d:MDep) (B:Nat) (w:World) (h:DepOk w (LtB B) d) (hB:B≤w.heap.size) (hn:d.name.length≤1000000) :
  Calls Tryz.prog 111 #[d.agg] w fun e w'=>e=.returned (.int .i64 (depE d.p))∧Below w.heap.size w w':=by
 have HO:Hid (DepOk w (LtB w.heap.size) d):=h.mono fun _ g _=>Nat.lt_of_lt_of_le g hB
 have HN:=Lib.hid hn
 clear h hB hn
 have HE1:=Lib.hid (fun h=>depE_name (d:=d.p) h)
 have HE2:=Lib.hid (fun h g=>depE_range (d:=d.p) h g)
 have HE3:=Lib.hid (fun h g=>depE_good (d:=d.p) h g)
 obtain ⟨W0,hW,hav,hb0⟩:∃ W,W=w.alloc (.cells #[.string (Ident.mk d.name),d.x.kind,d.x.v.a,d.x.v.b,d.x.v.c,.slice d.x.A d.x.v.pre.length d.x.c,.slice d.x.B d.x.v.build.length d.x.d,.slice d.x.L d.x.n d.x.e] 67)∧AtV W w.heap.size [.string (Ident.mk d.name),.int .i64 d.x.kind,.int .u64 d.x.v.a,.int .u64 d.x.v.b,.int .u64 d.x.v.c,.slice d.x.A d.x.v.pre.length d.x.c,.slice d.x.B d.x.v.build.length d.x.d,.slice d.x.L d.x.n d.x.e]∧Below w.heap.size w W:=⟨_,rfl,AtV.new w _ _,(Below.refl _ _).alloc (Nat.le_refl _) _⟩
 have HAV:=Lib.hid hav
 have HB0:=Lib.hid hb0
 clear hav hb0
 obtain ⟨bd,hbd⟩:∃ bd,w.heap.size=bd:=⟨_,rfl⟩
 have HBD:=Lib.hid hbd
 unfold MDep.agg
 go_enter Tryz.func111,Tryz.ntmps111
 go_upto_region 1 with (fail)
 rw [← hW]
 clear hW
 rw [hbd] at HAV
 clear hbd
 have c0:=HAV.out.at_ 0 _ rfl
 go_wp2_with fail
 refine (Name.ref_good_any (Ident.mk d.name) _ (by rw [mk_size]; exact HN.out)).mono ?_
 rw [mk_list]
 rintro e W1 ⟨rfl,rfl⟩
 cases hnm:isName d.name
 ·have HF:=Lib.hid (HE1.out hnm)
  clear hnm
  go_wp2
  go_ret
  exact ⟨by rw [HF.out]; rfl,HB0.out⟩
 ·have HNM:=Lib.hid hnm
  clear hnm
  have c1:=HAV.out.at_ 1 _ rfl
  have c2:=HAV.out.at_ 2 _ rfl
  have c3:=HAV.out.at_ 3 _ rfl
  have c4:=HAV.out.at_ 4 _ rfl
  have c5:=HAV.out.at_ 5 _ rfl
  have c6:=HAV.out.at_ 6 _ rfl
  have c7:=HAV.out.at_ 7 _ rfl
  go_wp2_with fail
  refine (Range.refGoodR_full (wt d.r) d.r d.x w.heap.size 0 _ (Nat.le_refl _) HO.out.len (HO.out.lies.keep (KeepS.of_below HB0.out)) HB0.out.size (by omega)).mono ?_
  rintro e W1 ⟨rfl,hb⟩
  have HB1:=Lib.hid (HB0.out.trans (hb.mono HB0.out.size))
  clear hb c0 c1 c2 c3 c4 c5 c6 c7
  cases hg:goodR d.r 0
  ·have HF:=Lib.hid (HE2.out HNM.out hg)
   clear hg
   go_wp2
   go_ret
   exact ⟨by rw [HF.out]; rfl,HB1.out⟩
  ·have HF:=Lib.hid (HE3.out HNM.out hg)
   clear hg
   go_wp2
   go_ret
   exact ⟨by rw [HF.out]; rfl,HB1.out⟩
theorem toO_none {e:Int}:toO e=none↔e=0:=by unfold toO; split <;> simp_all
theorem toO_some {e:Int} (h:e≠0):toO e=some e:=by unfold toO; rw [if_neg h]
theorem map_at {α β:Type} [Inhabited α] [Inhabited β] (f:α→β) (l:List α) {k:Nat} (h:k<l.length):(l.map f).getD k default=f (l.getD k default):=by
 rw [List.getD_eq_getElem?_getD,List.getD_eq_getElem?_getD,List.getElem?_map,List.getElem?_eq_getElem h]; rfl
theorem getD_mem {α:Type} [Inhabited α] {l:List α} {k:Nat} (h:k<l.length):l.getD k default ∈ l:=by
 rw [List.getD_eq_getElem?_getD,List.getElem?_eq_getElem h]; exact List.getElem_mem _
theorem DRow.cells {w:World} {S:Nat→Prop} {A:Option Addr} {n:Nat} {l:List MDep} (h:DRow w S A n l) {k:Nat} (hk:k<n):∃ b o,A=some ⟨b,o,none⟩∧S b∧b<w.heap.size ∧
  w.cell? ⟨b,o+k * 8,none⟩=some (.string (Ident.mk (l.getD k default).name))∧w.cell? ⟨b,o+k * 8+1,none⟩=some (.int .i64 (l.getD k default).x.kind)∧w.cell? ⟨b,o+k * 8+2,none⟩=some (.int .u64 ((l.getD k default).x.v.a))∧w.cell? ⟨b,o+k * 8+3,none⟩=some (.int .u64 ((l.getD k default).x.v.b))∧w.cell? ⟨b,o+k * 8+4,none⟩=some (.int .u64 ((l.getD k default).x.v.c))∧w.cell? ⟨b,o+k * 8+5,none⟩=some (.slice (l.getD k default).x.A (l.getD k default).x.v.pre.length (l.getD k default).x.c)∧w.cell? ⟨b,o+k * 8+6,none⟩=some (.slice (l.getD k default).x.B (l.getD k default).x.v.build.length (l.getD k default).x.d)∧w.cell? ⟨b,o+k * 8+7,none⟩=some (.slice (l.getD k default).x.L (l.getD k default).x.n (l.getD k default).x.e):=by
 obtain ⟨b,o,e,hb,hlt,hc⟩:=h.row.at_ hk
 exact ⟨b,o,e,hb,hlt,hc 0 _ rfl,hc 1 _ rfl,hc 2 _ rfl,hc 3 _ rfl,hc 4 _ rfl,hc 5 _ rfl,hc 6 _ rfl,hc 7 _ rfl⟩
def out2V (o:Option (Nat × Int)):Value:=.tuple #[.int .i64 (out2 o).1,.int .i64 (out2 o).2]
end Go.Proofs.YtgakcdcfblgagaaGreatDoor.Model
namespace Go.Proofs.YtgakcdcfblgagaaGreatDoor.Copy
open Go.RowKit Num Ident Semver Fr
open Range (Rng noRng RV Lies RgRow CellsAt KeepS LtB InS FitV wt wtL)
open KR (KRow)
open Model (MDep MRel MPack)
theorem infoDep:(Tryz.prog.info? 67).map (fun i=>(i.zero,i.size,i.bytes))=some (some (.agg #[.string ⟨#[]⟩,.int .i64 0,.int .u64 0,.int .u64 0,.int .u64 0,.slice none 0 0,.slice none 0 0,.slice none 0 0]),8,120):=by kernel_rfl
theorem infoRelease:(Tryz.prog.info? 46).map (fun i=>(i.zero,i.size,i.bytes))=some (some (.agg #[.int .u64 0,.int .u64 0,.int .u64 0,.slice none 0 0,.slice none 0 0,.bool false,.slice none 0 0,.slice none 0 0]),8,128):=by kernel_rfl
theorem infoPack:(Tryz.prog.info? 48).map (fun i=>(i.zero,i.size,i.bytes))=some (some (.agg #[.string ⟨#[]⟩,.slice none 0 0]),2,40):=by kernel_rfl
theorem oneDep:∀ x:MDep,∀ u ∈ x.vals,u.oneCell'=true:=Model.dep_one
theorem oneRelease:∀ x:MRel,∀ u ∈ x.vals,u.oneCell'=true:=fun r u hu=>by
 rcases List.mem_append.1 hu with hu | hu
 all_goals
  simp only [Model.MVer.vals,List.mem_cons,List.not_mem_nil,or_false] at hu
  rcases hu with rfl | rfl | hu <;> first | rfl | (subst hu; rfl) | (rcases hu with rfl | rfl | rfl <;> rfl)
theorem onePack:∀ x:MPack,∀ u ∈ x.vals,u.oneCell'=true:=fun p u hu=>by
 simp only [Model.MPack.vals,List.mem_cons,List.not_mem_nil,or_false] at hu
 rcases hu with rfl | rfl <;> rfl
theorem cloneDep_any (A:Option Addr) (n c:Nat) (l:List MDep) (S:Nat→Prop) (w:World) (h:KRow MDep.vals 8 w S A n l) (hb:n * 120≤140737488355328) (hn:n≤maxLen) :
  Calls Tryz.prog 157 #[.slice A n c] w (OwnPost w 67 8 n (l.flatMap MDep.vals)):=by
 have qN:∀ (w:World) (a:Option Addr) (n c n' c':Nat),(binOp .eql 44 (.slice a n c) (.slice none n' c')).run Tryz.prog w=.ok (.bool a.isNone) w:=fun w a n c n' c'=>Lib.run_eql_slice_nil w _ _ a n c n' c' Tryz.underlying44
 cases A with
 | none =>
  obtain ⟨rfl,rfl⟩:=h.nil
  go_enter Tryz.func157,Tryz.ntmps157
  go_wp2
  go_ret
  exact ⟨_,rfl,World.ownsRow_nil _ _ _ _,Below.refl _ _⟩
 | some ad =>
  have H0:Hid ((w.alloc (.cells #[] 67)).ownsRow w.heap.size 67 8 (.slice (some ⟨w.heap.size,0,none⟩) 0 0) 0 []):=World.ownsRow_made w #[] 0 (Nat.le_refl _) (Nat.zero_le _) rfl
  have HB:Hid (Below w.heap.size w (w.alloc (.cells #[] 67))):=(Below.refl _ _).alloc (Nat.le_refl _) _
  have HR:Hid (KRow MDep.vals 8 (w.alloc (.cells #[] 67)) S (some ad) n l):=h.keep (KeepS.of_below HB.out)
  have hbz:w.heap.size≤(w.alloc (.cells #[] 67)).heap.size:=HB.out.size
  obtain ⟨v',w',hrun,hown,hgr⟩:=KR.run_append_k (vals:=MDep.vals) (k:=8) (bytes:=120) (T:=44) (E:=67) Tryz.underlying44 infoDep rfl (fun _=>rfl) (by omega) oneDep _ 44 w.heap.size _ 0 [] H0.out (some ad) n c l HR.out (fun e=>by cases e) (by omega) (by omega) hbz
  have HO:=Lib.hid hown
  have HG:=Lib.hid hgr
  clear hown hgr h
  go_enter Tryz.func157,Tryz.ntmps157
  go_wp2_with (first
   | (at_builtin; refine wpList_ran rfl rfl rfl rfl hrun ?_)
   | go_in)
  clear hrun hbz
  go_wp2
  go_ret
  exact ⟨_,rfl,by simpa using HO.out,HB.out.trans (by
   have:=HG.out
   exact (Below.refl _ _).grown this HB.out.size (fun g e=>by injection e with e; rw [← e]; exact Nat.le_refl _))⟩
theorem cloneRelease_any (A:Option Addr) (n c:Nat) (l:List MRel) (S:Nat→Prop) (w:World) (h:KRow MRel.vals 8 w S A n l) (hb:n * 128≤140737488355328) (hn:n≤maxLen) :
  Calls Tryz.prog 98 #[.slice A n c] w (OwnPost w 46 8 n (l.flatMap MRel.vals)):=by
 have qN:∀ (w:World) (a:Option Addr) (n c n' c':Nat),(binOp .eql 42 (.slice a n c) (.slice none n' c')).run Tryz.prog w=.ok (.bool a.isNone) w:=fun w a n c n' c'=>Lib.run_eql_slice_nil w _ _ a n c n' c' Tryz.underlying42
 cases A with
 | none =>
  obtain ⟨rfl,rfl⟩:=h.nil
  go_enter Tryz.func98,Tryz.ntmps98
  go_wp2
  go_ret
  exact ⟨_,rfl,World.ownsRow_nil _ _ _ _,Below.refl _ _⟩
 | some ad =>
  have H0:Hid ((w.alloc (.cells #[] 46)).ownsRow w.heap.size 46 8 (.slice (some ⟨w.heap.size,0,none⟩) 0 0) 0 []):=World.ownsRow_made w #[] 0 (Nat.le_refl _) (Nat.zero_le _) rfl
  have HB:Hid (Below w.heap.size w (w.alloc (.cells #[] 46))):=(Below.refl _ _).alloc (Nat.le_refl _) _
  have HR:Hid (KRow MRel.vals 8 (w.alloc (.cells #[] 46)) S (some ad) n l):=h.keep (KeepS.of_below HB.out)
  have hbz:w.heap.size≤(w.alloc (.cells #[] 46)).heap.size:=HB.out.size
  obtain ⟨v',w',hrun,hown,hgr⟩:=KR.run_append_k (vals:=MRel.vals) (k:=8) (bytes:=128) (T:=42) (E:=46) Tryz.underlying42 infoRelease rfl (fun _=>rfl) (by omega) oneRelease _ 42 w.heap.size _ 0 [] H0.out (some ad) n c l HR.out (fun e=>by cases e) (by omega) (by omega) hbz
  have HO:=Lib.hid hown
  have HG:=Lib.hid hgr
  clear hown hgr h
  go_enter Tryz.func98,Tryz.ntmps98
  go_wp2_with (first
   | (at_builtin; refine wpList_ran rfl rfl rfl rfl hrun ?_)
   | go_in)
  clear hrun hbz
  go_wp2
  go_ret
  exact ⟨_,rfl,by simpa using HO.out,HB.out.trans (by
   have:=HG.out
   exact (Below.refl _ _).grown this HB.out.size (fun g e=>by injection e with e; rw [← e]; exact Nat.le_refl _))⟩
theorem clonePack_any (A:Option Addr) (n c:Nat) (l:List MPack) (S:Nat→Prop) (w:World) (h:KRow MPack.vals 2 w S A n l) (hb:n * 40≤140737488355328) (hn:n≤maxLen) :
  Calls Tryz.prog 43 #[.slice A n c] w (OwnPost w 48 2 n (l.flatMap MPack.vals)):=by
 have qN:∀ (w:World) (a:Option Addr) (n c n' c':Nat),(binOp .eql 24 (.slice a n c) (.slice none n' c')).run Tryz.prog w=.ok (.bool a.isNone) w:=fun w a n c n' c'=>Lib.run_eql_slice_nil w _ _ a n c n' c' Tryz.underlying24
 cases A with
 | none =>
  obtain ⟨rfl,rfl⟩:=h.nil
  go_enter Tryz.func43,Tryz.ntmps43
  go_wp2
  go_ret
  exact ⟨_,rfl,World.ownsRow_nil _ _ _ _,Below.refl _ _⟩
 | some ad =>
  have H0:Hid ((w.alloc (.cells #[] 48)).ownsRow w.heap.size 48 2 (.slice (some ⟨w.heap.size,0,none⟩) 0 0) 0 []):=World.ownsRow_made w #[] 0 (Nat.le_refl _) (Nat.zero_le _) rfl
  have HB:Hid (Below w.heap.size w (w.alloc (.cells #[] 48))):=(Below.refl _ _).alloc (Nat.le_refl _) _
  have HR:Hid (KRow MPack.vals 2 (w.alloc (.cells #[] 48)) S (some ad) n l):=h.keep (KeepS.of_below HB.out)
  have hbz:w.heap.size≤(w.alloc (.cells #[] 48)).heap.size:=HB.out.size
  obtain ⟨v',w',hrun,hown,hgr⟩:=KR.run_append_k (vals:=MPack.vals) (k:=2) (bytes:=40) (T:=24) (E:=48) Tryz.underlying24 infoPack rfl (fun _=>rfl) (by omega) onePack _ 24 w.heap.size _ 0 [] H0.out (some ad) n c l HR.out (fun e=>by cases e) (by omega) (by omega) hbz
  have HO:=Lib.hid hown
  have HG:=Lib.hid hgr
  clear hown hgr h
  go_enter Tryz.func43,Tryz.ntmps43
  go_wp2_with (first
   | (at_builtin; refine wpList_ran rfl rfl rfl rfl hrun ?_)
   | go_in)
  clear hrun hbz
  go_wp2
  go_ret
  exact ⟨_,rfl,by simpa using HO.out,HB.out.trans (by
   have:=HG.out
   exact (Below.refl _ _).grown this HB.out.size (fun g e=>by injection e with e; rw [← e]; exact Nat.le_refl _))⟩
end Go.Proofs.YtgakcdcfblgagaaGreatDoor.Copy
namespace Go.Proofs.YtgakcdcfblgagaaGreatDoor.Came
open Go.ChangeShapes Go.WideShapes Go.RowKit Go.Deep
open Range (Rng noRng RV LenOk LtB InS)
open KR (KRow)
open Model (MDep MVer MRel MPack MPin DepOk VerOk RelOk PackOk PinOk DRow RRow PRow SPRow)

theorem name_read {H:Type} {enc:TypeId × Value→H} {W:World} {n:Nat} {z:Value} {y:DataW H × List MemPlace} (h:DataW.trod enc Tryz.prog W 0 (fun _=>true) true n 9 [z]=some y):∃ s:List UInt8,z=.string (Ident.mk s)∧s.length≤maxLen:=by
 obtain ⟨s,e,_,hs⟩:=DataW.trod_string Tryz.underlying9 h
 simp at e
 exact ⟨s.data.toList,by rw [e]; rfl,by rw [← Lib.size_eq]; exact hs⟩
theorem bool_read {H:Type} {enc:TypeId × Value→H} {W:World} {n:Nat} {z:Value} {y:DataW H × List MemPlace} (h:DataW.trod enc Tryz.prog W 0 (fun _=>true) true n 4 [z]=some y):∃ b:Bool,z=.bool b:=by
 obtain ⟨b,e,_⟩:=DataW.trod_bool Tryz.underlying4 h
 simp at e
 exact ⟨b,e⟩
theorem mver_at {H:Type} {enc:TypeId × Value→H} {W:World} {fuel:Nat} {l:List Value} {y:DataW H × List MemPlace} (hf:DataW.trod enc Tryz.prog W 0 (fun _=>true) true fuel 37 l=some y):∃ x:MVer,l=x.vals∧VerOk W (LtB W.heap.size) x:=by
 obtain ⟨v,A,c,B,d,e,h1,h2,h3,h4,h5,_⟩:=ver_full hf
 exact ⟨⟨v,A,c,B,d⟩,e,h1,h2,ins_of h1,ins_of h2,h4,h5,h3⟩
theorem dep_at {H:Type} {enc:TypeId × Value→H} {W:World} {fuel:Nat} {l:List Value} {y:DataW H × List MemPlace} (hf:DataW.trod enc Tryz.prog W 0 (fun _=>true) true fuel 67 l=some y) (hs0:Sized 67 y.1):∃ d:MDep,l=d.vals∧DepOk W (LtB W.heap.size) d:=by
 have hC:Tryz.prog.cellsOf 67=8:=by kernel_rfl
 have cs:Tryz.prog.cellsOf 9=1:=by kernel_rfl
 have cr:Tryz.prog.cellsOf 65=7:=by kernel_rfl
 obtain ⟨xs,n,_,hy0,hsz,hlen,hg⟩:=DataW.trod_struct Tryz.underlying67 hf
 have hl:xs.length=2:=hlen
 rw [hC] at hsz
 match l,hsz with
 | [z0,z1,z2,z3,z4,z5,z6,z7],_ =>
  match xs,hl with
  | [y0,y1],_ =>
   have f0:DataW.trod enc Tryz.prog W 0 (fun _=>true) true n 9 (([z0,z1,z2,z3,z4,z5,z6,z7].drop 0).take (Tryz.prog.cellsOf 9))=some y0:=hg 0 _ rfl
   rw [cs] at f0
   have g0:DataW.trod enc Tryz.prog W 0 (fun _=>true) true n 9 [z0]=some y0:=f0
   have f1:DataW.trod enc Tryz.prog W 0 (fun _=>true) true n 65 (([z0,z1,z2,z3,z4,z5,z6,z7].drop 1).take (Tryz.prog.cellsOf 65))=some y1:=hg 1 _ rfl
   rw [cr] at f1
   have g1:DataW.trod enc Tryz.prog W 0 (fun _=>true) true n 65 [z1,z2,z3,z4,z5,z6,z7]=some y1:=f1
   rw [hy0] at hs0
   clear f0 f1 hg
   obtain ⟨s,rfl,hs⟩:=name_read g0
   obtain ⟨r,x,e,h1,h2,h3⟩:=rng_at n n _ _ (Nat.le_refl _) g1
   exact ⟨⟨s,r,x⟩,by rw [e]; rfl,hs,h1,h2,h3 (hs0.part Tryz.underlying67 (i:=1) rfl rfl)⟩
theorem deps_at {H:Type} {enc:TypeId × Value→H} {W:World} {fuel:Nat} {cs:List Value} {y:DataW H × List MemPlace} (hf:DataW.trod enc Tryz.prog W 0 (fun _=>true) true fuel 44 cs=some y) (hs0:Sized 44 y.1) :
  ∃ (A:Option Addr) (c:Nat) (l:List MDep),cs=[.slice A l.length c]∧DRow W (LtB W.heap.size) A l.length l∧l.length≤c∧c≤maxLen∧(A=none→c=0):=by
 obtain ⟨A,n,c,l,e,h1,h2,h3,h4,h5⟩:=KR.KRow.came (P:=DepOk W (LtB W.heap.size)) Tryz.underlying44 (by kernel_rfl) Model.dep_len (by omega) (fun _ _ _ h q=>dep_at h q) hf hs0
 obtain rfl:=h1.1
 exact ⟨A,c,l,e,⟨h1,h2⟩,h3,h4,h5⟩
theorem rel_at {H:Type} {enc:TypeId × Value→H} {W:World} {fuel:Nat} {l:List Value} {y:DataW H × List MemPlace} (hf:DataW.trod enc Tryz.prog W 0 (fun _=>true) true fuel 46 l=some y) (hs0:Sized 46 y.1):∃ r:MRel,l=r.vals∧RelOk W (LtB W.heap.size) r:=by
 have hC:Tryz.prog.cellsOf 46=8:=by kernel_rfl
 have cv:Tryz.prog.cellsOf 37=5:=by kernel_rfl
 have cb:Tryz.prog.cellsOf 4=1:=by kernel_rfl
 have cd:Tryz.prog.cellsOf 44=1:=by kernel_rfl
 obtain ⟨xs,n,_,hy0,hsz,hlen,hg⟩:=DataW.trod_struct Tryz.underlying46 hf
 have hl:xs.length=4:=hlen
 rw [hC] at hsz
 match l,hsz with
 | [z0,z1,z2,z3,z4,z5,z6,z7],_ =>
  match xs,hl with
  | [y0,y1,y2,y3],_ =>
   have f0:DataW.trod enc Tryz.prog W 0 (fun _=>true) true n 37 (([z0,z1,z2,z3,z4,z5,z6,z7].drop 0).take (Tryz.prog.cellsOf 37))=some y0:=hg 0 _ rfl
   rw [cv] at f0
   have g0:DataW.trod enc Tryz.prog W 0 (fun _=>true) true n 37 [z0,z1,z2,z3,z4]=some y0:=f0
   have f1:DataW.trod enc Tryz.prog W 0 (fun _=>true) true n 4 (([z0,z1,z2,z3,z4,z5,z6,z7].drop 5).take (Tryz.prog.cellsOf 4))=some y1:=hg 1 _ rfl
   rw [cb] at f1
   have g1:DataW.trod enc Tryz.prog W 0 (fun _=>true) true n 4 [z5]=some y1:=f1
   have f2:DataW.trod enc Tryz.prog W 0 (fun _=>true) true n 44 (([z0,z1,z2,z3,z4,z5,z6,z7].drop 6).take (Tryz.prog.cellsOf 44))=some y2:=hg 2 _ rfl
   rw [cd] at f2
   have g2:DataW.trod enc Tryz.prog W 0 (fun _=>true) true n 44 [z6]=some y2:=f2
   have f3:DataW.trod enc Tryz.prog W 0 (fun _=>true) true n 44 (([z0,z1,z2,z3,z4,z5,z6,z7].drop 7).take (Tryz.prog.cellsOf 44))=some y3:=hg 3 _ rfl
   rw [cd] at f3
   have g3:DataW.trod enc Tryz.prog W 0 (fun _=>true) true n 44 [z7]=some y3:=f3
   rw [hy0] at hs0
   clear f0 f1 f2 f3 hg
   obtain ⟨v,e,hv⟩:=mver_at g0
   obtain ⟨b,rfl⟩:=bool_read g1
   obtain ⟨N,nc,ln,e1,p1,p2,p3,p4⟩:=deps_at g2 (hs0.part Tryz.underlying46 (i:=2) rfl rfl)
   obtain ⟨B,bc,lb,e2,q1,q2,q3,q4⟩:=deps_at g3 (hs0.part Tryz.underlying46 (i:=3) rfl rfl)
   simp at e1 e2
   subst e1
   subst e2
   exact ⟨⟨v,b,N,nc,ln,B,bc,lb⟩,by show [z0,z1,z2,z3,z4] ++ [.bool b,.slice N ln.length nc,.slice B lb.length bc]=_; rw [e]; rfl,hv,p1,q1,⟨p2,p3⟩,⟨q2,q3⟩,p4,q4⟩
theorem rels_at {H:Type} {enc:TypeId × Value→H} {W:World} {fuel:Nat} {cs:List Value} {y:DataW H × List MemPlace} (hf:DataW.trod enc Tryz.prog W 0 (fun _=>true) true fuel 42 cs=some y) (hs0:Sized 42 y.1) :
  ∃ (A:Option Addr) (c:Nat) (l:List MRel),cs=[.slice A l.length c]∧RRow W (LtB W.heap.size) A l.length l∧l.length≤c∧c≤maxLen∧(A=none→c=0):=by
 obtain ⟨A,n,c,l,e,h1,h2,h3,h4,h5⟩:=KR.KRow.came (P:=RelOk W (LtB W.heap.size)) Tryz.underlying42 (by kernel_rfl) Model.rel_len (by omega) (fun _ _ _ h q=>rel_at h q) hf hs0
 obtain rfl:=h1.1
 exact ⟨A,c,l,e,⟨h1,h2⟩,h3,h4,h5⟩
theorem pack_at {H:Type} {enc:TypeId × Value→H} {W:World} {fuel:Nat} {l:List Value} {y:DataW H × List MemPlace} (hf:DataW.trod enc Tryz.prog W 0 (fun _=>true) true fuel 48 l=some y) (hs0:Sized 48 y.1):∃ p:MPack,l=p.vals∧PackOk W (LtB W.heap.size) p:=by
 have hC:Tryz.prog.cellsOf 48=2:=by kernel_rfl
 have cs:Tryz.prog.cellsOf 9=1:=by kernel_rfl
 have cr:Tryz.prog.cellsOf 42=1:=by kernel_rfl
 obtain ⟨xs,n,_,hy0,hsz,hlen,hg⟩:=DataW.trod_struct Tryz.underlying48 hf
 have hl:xs.length=2:=hlen
 rw [hC] at hsz
 match l,hsz with
 | [z0,z1],_ =>
  match xs,hl with
  | [y0,y1],_ =>
   have f0:DataW.trod enc Tryz.prog W 0 (fun _=>true) true n 9 (([z0,z1].drop 0).take (Tryz.prog.cellsOf 9))=some y0:=hg 0 _ rfl
   rw [cs] at f0
   have g0:DataW.trod enc Tryz.prog W 0 (fun _=>true) true n 9 [z0]=some y0:=f0
   have f1:DataW.trod enc Tryz.prog W 0 (fun _=>true) true n 42 (([z0,z1].drop 1).take (Tryz.prog.cellsOf 42))=some y1:=hg 1 _ rfl
   rw [cr] at f1
   have g1:DataW.trod enc Tryz.prog W 0 (fun _=>true) true n 42 [z1]=some y1:=f1
   rw [hy0] at hs0
   clear f0 f1 hg
   obtain ⟨s,rfl,hs⟩:=name_read g0
   obtain ⟨R,rc,l,e1,p1,p2,p3,p4⟩:=rels_at g1 (hs0.part Tryz.underlying48 (i:=1) rfl rfl)
   simp at e1
   subst e1
   exact ⟨⟨s,R,rc,l⟩,rfl,hs,p1,⟨p2,p3⟩,p4⟩
theorem packs_at {H:Type} {enc:TypeId × Value→H} {W:World} {fuel:Nat} {cs:List Value} {y:DataW H × List MemPlace} (hf:DataW.trod enc Tryz.prog W 0 (fun _=>true) true fuel 24 cs=some y) (hs0:Sized 24 y.1) :
  ∃ (A:Option Addr) (c:Nat) (l:List MPack),cs=[.slice A l.length c]∧PRow W (LtB W.heap.size) A l.length l∧l.length≤c∧c≤maxLen∧(A=none→c=0):=by
 obtain ⟨A,n,c,l,e,h1,h2,h3,h4,h5⟩:=KR.KRow.came (P:=PackOk W (LtB W.heap.size)) Tryz.underlying24 (by kernel_rfl) Model.pack_len (by omega) (fun _ _ _ h q=>pack_at h q) hf hs0
 obtain rfl:=h1.1
 exact ⟨A,c,l,e,⟨h1,h2⟩,h3,h4,h5⟩
end Go.Proofs.YtgakcdcfblgagaaGreatDoor.Came
namespace Go.Proofs.YtgakcdcfblgagaaGreatDoor.Model
open Go.RowKit Num Ident Semver
open Range (Rng noRng RV KeepS LtB LenOk goodR wt)
open KR (KRow AtV)
open Name (isName)

theorem mk_ne {a b:List UInt8} (h:a≠b):((Ident.mk a).toList == (Ident.mk b).toList)=false:=by
 rw [Lib.toList_data,Lib.toList_data,beq_eq_false_iff_ne]; exact h
theorem mk_eq (a:List UInt8):((Ident.mk a).toList == (Ident.mk a).toList)=true:=by simp
theorem nameB_yes {α:Type} [Inhabited α] {nm:α→List UInt8} {l:List α} {k j:Nat} (hj:j<k) (hk:k<l.length) (h:nm (l.getD j default)=nm (l.getD k default)):nameB nm l k=true:=by
 unfold nameB
 rw [List.any_eq_true]
 refine ⟨l.getD j default,?_,by rw [beq_iff_eq]; exact h⟩
 rw [List.getD_eq_getElem?_getD,List.getElem?_eq_getElem (by omega)]
 exact List.mem_take_iff_getElem.2 ⟨j,by omega,rfl⟩
theorem nameB_no {α:Type} [Inhabited α] {nm:α→List UInt8} {l:List α} {k:Nat} (h:∀ j,j<k→nm (l.getD j default)≠nm (l.getD k default)):nameB nm l k=false:=by
 unfold nameB
 rw [List.any_eq_false]
 intro x hx
 obtain ⟨j,hj,rfl⟩:=List.mem_take_iff_getElem.1 hx
 have:=h j (by omega)
 rw [List.getD_eq_getElem?_getD,List.getElem?_eq_getElem (by omega)] at this
 simpa using this
theorem SPRow.cells {w:World} {S:Nat→Prop} {A:Option Addr} {n:Nat} {l:List MPin} (h:SPRow w S A n l) {k:Nat} (hk:k<n):∃ b o,A=some ⟨b,o,none⟩∧S b∧b<w.heap.size ∧
  w.cell? ⟨b,o+k * 6,none⟩=some (.string (Ident.mk (l.getD k default).name))∧w.cell? ⟨b,o+k * 6+1,none⟩=some (.int .u64 ((l.getD k default).ver.v.a))∧w.cell? ⟨b,o+k * 6+2,none⟩=some (.int .u64 ((l.getD k default).ver.v.b))∧w.cell? ⟨b,o+k * 6+3,none⟩=some (.int .u64 ((l.getD k default).ver.v.c))∧w.cell? ⟨b,o+k * 6+4,none⟩=some (.slice (l.getD k default).ver.A (l.getD k default).ver.v.pre.length (l.getD k default).ver.c)∧w.cell? ⟨b,o+k * 6+5,none⟩=some (.slice (l.getD k default).ver.B (l.getD k default).ver.v.build.length (l.getD k default).ver.d):=by
 obtain ⟨b,o,e,hb,hlt,hc⟩:=h.row.at_ hk
 exact ⟨b,o,e,hb,hlt,hc 0 _ rfl,hc 1 _ rfl,hc 2 _ rfl,hc 3 _ rfl,hc 4 _ rfl,hc 5 _ rfl⟩
end Go.Proofs.YtgakcdcfblgagaaGreatDoor.Model
namespace Go.Proofs.YtgakcdcfblgagaaGreatDoor.Model
open Go.RowKit Num Ident Semver
open Range (Rng noRng RV KeepS LtB LenOk goodR wt)
open KR (KRow AtV run_append_k region_append)

def AllPost (w:World) (B:Nat) (r:MRel) (e:Ending) (W:World):Prop :=
 ∃ (A:Option Addr) (c:Nat),e=.returned (.slice A (r.needs ++ r.bans).length c)∧(r.needs ++ r.bans).length≤c∧(A=none→c=0)∧KRow MDep.vals 8 W (fun g=>w.heap.size≤g) A (r.needs ++ r.bans).length (r.needs ++ r.bans)∧(∀ d ∈ r.needs ++ r.bans,DepOk W (LtB B) d)∧Below w.heap.size w W
theorem refAll_any (r:MRel) (B:Nat) (w:World) (h:RelOk w (LtB B) r) (hB:B≤w.heap.size) (h1:r.needs.length≤1000000) (h2:r.bans.length≤1000000) :
  Calls Tryz.prog 110 #[r.agg] w (AllPost w B r):=by
 have HO:=Lib.hid h
 have HBB:=Lib.hid hB
 have HN1:=Lib.hid h1
 have HN2:=Lib.hid h2
 clear h hB h1 h2
 obtain ⟨W0,hW,hav,hb0⟩:∃ W,W=w.alloc (.cells #[r.ver.v.a,r.ver.v.b,r.ver.v.c,.slice r.ver.A r.ver.v.pre.length r.ver.c,.slice r.ver.B r.ver.v.build.length r.ver.d,.bool r.yanked,.slice r.N r.needs.length r.nc,.slice r.B r.bans.length r.bc] 46)∧AtV W w.heap.size [.int .u64 r.ver.v.a,.int .u64 r.ver.v.b,.int .u64 r.ver.v.c,.slice r.ver.A r.ver.v.pre.length r.ver.c,.slice r.ver.B r.ver.v.build.length r.ver.d,.bool r.yanked,.slice r.N r.needs.length r.nc,.slice r.B r.bans.length r.bc]∧Below w.heap.size w W:=⟨_,rfl,AtV.new w _ _,(Below.refl _ _).alloc (Nat.le_refl _) _⟩
 have HAV:=Lib.hid hav
 have HB0:=Lib.hid hb0
 clear hav hb0
 obtain ⟨bd,hbd⟩:∃ bd,w.heap.size=bd:=⟨_,rfl⟩
 have HBD:=Lib.hid hbd
 unfold MRel.agg
 go_enter Tryz.func110,Tryz.ntmps110
 go_upto_region 1 with (fail)
 rw [← hW]
 clear hW
 rw [hbd] at HAV
 clear hbd
 have a6:=HAV.out.at_ 6 _ rfl
 have a7:=HAV.out.at_ 7 _ rfl
 have hlt:=HAV.out.lt
 have H0:Hid (Below W0.heap.size W0 W0.drew):=(Below.refl _ _).drew
 refine wp_region_held_drew (S:=fun w'=>Below W0.heap.size W0 w') (by kernel_rfl) H0.out (fun hHeld=>?_)
 generalize W0.drew=W1 at H0 hHeld ⊢
 refine tk 1 rfl (.pointer (some ⟨bd,6,none⟩)) ?_
 refine tk 2 rfl (.slice r.N r.needs.length r.nc) ?_ (hv:=fun w' hS'=>by have q:=(hS'.cell (p:=⟨bd,6,none⟩) hlt).trans a6; go_simp)
 refine tk 4 rfl (.pointer (some ⟨bd,7,none⟩)) ?_
 refine tk 5 rfl (.slice r.B r.bans.length r.bc) ?_ (hv:=fun w' hS'=>by have q:=(hS'.cell (p:=⟨bd,7,none⟩) hlt).trans a7; go_simp)
 refine cl 0 rfl fun K hK=>?_
 go_simp
 have H2:Hid (Below W0.heap.size W0 (W1.alloc (.cells #[] 67))):=H0.out.alloc H0.out.size _
 have O2:Hid (World.ownsRow (W1.alloc (.cells #[] 67)) W0.heap.size 67 8 (.slice (some ⟨W1.heap.size,0,none⟩) 0 0) 0 (([]:List MDep).flatMap MDep.vals)):=World.ownsRow_made (base:=W0.heap.size) (e:=67) (size:=8) W1 #[] 0 H0.out.size (by unfold maxLen; omega) rfl
 refine hK.out _ _ H2.out (fun hHeld2=>?_)
 clear hK K hHeld2
 try simp only [Act.put,p1,p2,p3]
 obtain ⟨g,hg⟩:∃ g,W1.heap.size=g:=⟨_,rfl⟩
 rw [hg] at O2 ⊢
 clear hg
 generalize W1.alloc (.cells #[] 67)=W2 at H2 O2 ⊢
 have HK2:Hid (KeepS (LtB B) w W2):=KeepS.of_below (HB0.out.trans (H2.out.mono HB0.out.size))
 refine cl 3 rfl fun K hK=>?_
 obtain ⟨v3,W3,hrun,ho,hgr⟩:=run_append_k Tryz.underlying44 depInfo rfl dep_len (by omega) dep_one W2 44 W0.heap.size (.slice (some ⟨g,0,none⟩) 0 0) 0 [] O2.out r.N r.needs.length r.nc r.needs (HO.out.needs.row.keep HK2.out) HO.out.nn (by have:=HN1.out; unfold maxLen; omega) (by have:=HN1.out; omega) H2.out.size
 have H3:Hid (Below W0.heap.size W0 W3):=H2.out.grown hgr H2.out.size (fun k hk=>(O2.out.lt k hk).1)
 have O3:=Lib.hid ho
 rw [Nat.zero_add,List.nil_append] at O3
 refine region_append (by rfl) _ _ rfl rfl rfl hrun ?_
 clear hrun ho hgr
 refine hK.out _ _ H3.out (fun hHeld3=>?_)
 clear hK K hHeld3
 try simp only [Act.put,p1,p2,p3]
 have HK3:Hid (KeepS (LtB B) w W3):=KeepS.of_below (HB0.out.trans (H3.out.mono HB0.out.size))
 refine cl 6 rfl fun K hK=>?_
 obtain ⟨v4,W4,hrun,ho,hgr⟩:=run_append_k Tryz.underlying44 depInfo rfl dep_len (by omega) dep_one W3 44 W0.heap.size v3 r.needs.length r.needs O3.out r.B r.bans.length r.bc r.bans (HO.out.bans.row.keep HK3.out) HO.out.bn (by have:=HN1.out; have:=HN2.out; unfold maxLen; omega) (by have:=HN1.out; have:=HN2.out; omega) H3.out.size
 have H4:Hid (Below W0.heap.size W0 W4):=H3.out.grown hgr H3.out.size (fun k hk=>(O3.out.lt k hk).1)
 have O4:Hid (World.ownsRow W4 W0.heap.size 67 8 v4 (r.needs ++ r.bans).length ((r.needs ++ r.bans).flatMap MDep.vals)):=by unfold Hid; rw [List.length_append]; exact ho
 refine region_append (by rfl) _ _ rfl rfl rfl hrun ?_
 clear hrun ho hgr
 refine hK.out _ _ H4.out (fun hHeld4=>?_)
 clear hK K hHeld4
 try simp only [Act.put,p1,p2,p3]
 obtain ⟨A5,c5,hv5,k1,k2,k3⟩:=KRow.of_own (S:=fun g=>w.heap.size≤g) dep_len O4.out rfl (fun g h _=>Nat.le_trans HB0.out.size h)
 subst hv5
 have HB4:=Lib.hid (HB0.out.trans (H4.out.mono HB0.out.size))
 refine tk 7 rfl (.slice A5 (r.needs ++ r.bans).length c5) ?_
 refine wpAnyH_done (by kernel_rfl) ?_ _
 have KK:=Lib.hid (And.intro k1 (And.intro k2 k3))
 clear k1 k2 k3 a6 a7 O4 O3 O2
 have HK4:Hid (KeepS (LtB B) w W4):=KeepS.of_below HB4.out
 have HDD:Hid (∀ d ∈ r.needs ++ r.bans,DepOk W4 (LtB B) d):=fun d hd=>by
  rcases List.mem_append.1 hd with h | h
  ·exact (HO.out.needs.ok d h).keep HK4.out
  ·exact (HO.out.bans.ok d h).keep HK4.out
 obtain ⟨L,hL⟩:∃ L,r.needs ++ r.bans=L:=⟨_,rfl⟩
 rw [hL] at KK HDD ⊢
 have HLL:=Lib.hid hL
 clear hL
 go_wp2
 go_ret
 have hL:=HLL.out
 unfold AllPost
 rw [hL]
 refine ⟨A5,c5,rfl,KK.out.1,KK.out.2.1,KK.out.2.2,HDD.out,HB4.out⟩
end Go.Proofs.YtgakcdcfblgagaaGreatDoor.Model
