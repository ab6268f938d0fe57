/-
  What the theorem of the last text needs of these: MoMem, MoPlain, MoMore, MoRefDep, MoClone2. Conditions: as each theorem states.
-/
import Derived.Test.YtnpjklaaokiikaaGreatDoorPlA1
import Derived.Test.YtnpjklaaokiikaaGreatDoorPlA2
import Derived.Test.YtnpjklaaokiikaaGreatDoorPlA5
import Derived.Test.YtnpjklaaokiikaaGreatDoorPlA6
import Derived.Test.YtnpjklaaokiikaaGreatDoorPlA9
import Derived.Test.YtnpjklaaokiikaaGreatDoorPlA11
import Derived.Test.YtnpjklaaokiikaaGreatDoorPlA13
import Derived.Test.YtnpjklaaokiikaaGreatDoorPlA16
import Derived.Test.YtnpjklaaokiikaaGreatDoorPlA20
import Derived.Deep.QuietTactic
import Derived.BigQuiet
import Derived.Deep.CutBlock
import Derived.Deep.DeepCutAuto
import Derived.Lib.SliceRun
set_option maxRecDepth 100000
set_option maxHeartbeats 25600000
namespace Go.Proofs.YtnpjklaaokiikaaGreatDoor.Model
open Go.RowKit Num Ident Semver
open Range (Rng noRng RV KeepS LtB InS LenOk FitV srow_keepS)
open KR (KRow)

structure MDep where
 name:List UInt8
 r:Rng
 x:RV
instance:Inhabited MDep:=⟨⟨[],noRng,default⟩⟩
def MDep.vals (d:MDep):List Value:=.string (Ident.mk d.name) :: d.x.vals
def MDep.p (d:MDep):PDep:=⟨d.name,d.r⟩
def MDep.agg (d:MDep):Value:=.agg #[.string (Ident.mk d.name),d.x.kind,d.x.v.a,d.x.v.b,d.x.v.c,.slice d.x.A d.x.v.pre.length d.x.c,.slice d.x.B d.x.v.build.length d.x.d,.slice d.x.L d.x.n d.x.e]
theorem dep_one (d:MDep):∀ u ∈ d.vals,u.oneCell'=true:=by
 intro u hu
 rcases List.mem_cons.1 hu with rfl | hu
 ·rfl
 ·exact Range.rv_one d.x u hu
theorem dep_len (d:MDep):d.vals.length=8:=rfl
structure DepOk (w:World) (S:Nat→Prop) (d:MDep):Prop where
 short:d.name.length≤maxLen
 lies:Range.Lies w S d.r d.x
 len:LenOk d.r
 slim:Nrm.Slim d.r
theorem DepOk.keep {w w':World} {S:Nat→Prop} {d:MDep} (h:DepOk w S d) (k:KeepS S w w'):DepOk w' S d:=⟨h.short,h.lies.keep k,h.len,h.slim⟩
theorem DepOk.mono {w:World} {S S':Nat→Prop} {d:MDep} (h:DepOk w S d) (hS:∀ b,S b→b<w.heap.size→S' b):DepOk w S' d:=⟨h.short,h.lies.mono hS,h.len,h.slim⟩
structure DRow (w:World) (S:Nat→Prop) (A:Option Addr) (n:Nat) (l:List MDep):Prop where
 row:KRow MDep.vals 8 w S A n l
 ok:∀ d ∈ l,DepOk w S d
theorem DRow.keep {w w':World} {S:Nat→Prop} {A:Option Addr} {n:Nat} {l:List MDep} (h:DRow w S A n l) (k:KeepS S w w'):DRow w' S A n l:=⟨h.row.keep k,fun d hd=>(h.ok d hd).keep k⟩
theorem DRow.mono {w:World} {S S':Nat→Prop} {A:Option Addr} {n:Nat} {l:List MDep} (h:DRow w S A n l) (hS:∀ b,S b→b<w.heap.size→S' b):DRow w S' A n l:=⟨h.row.mono hS,fun d hd=>(h.ok d hd).mono hS⟩
structure MVer where
 v:Ver
 A:Option Addr
 c:Nat
 B:Option Addr
 d:Nat
instance:Inhabited MVer:=⟨⟨noVer,none,0,none,0⟩⟩
def MVer.vals (x:MVer):List Value:=[.int .u64 x.v.a,.int .u64 x.v.b,.int .u64 x.v.c,.slice x.A x.v.pre.length x.c,.slice x.B x.v.build.length x.d]
def MVer.agg (x:MVer):Value:=.agg #[x.v.a,x.v.b,x.v.c,.slice x.A x.v.pre.length x.c,.slice x.B x.v.build.length x.d]
structure VerOk (w:World) (S:Nat→Prop) (x:MVer):Prop where
 pre:SRow w x.A x.v.pre.length x.v.pre
 build:SRow w x.B x.v.build.length x.v.build
 ip:InS S x.A x.v.pre.length
 ib:InS S x.B x.v.build.length
 cp:x.v.pre.length≤x.c
 cb:x.v.build.length≤x.d
 fit:FitV x.v
theorem VerOk.keep {w w':World} {S:Nat→Prop} {x:MVer} (h:VerOk w S x) (k:KeepS S w w'):VerOk w' S x:=⟨srow_keepS h.pre k h.ip,srow_keepS h.build k h.ib,h.ip,h.ib,h.cp,h.cb,h.fit⟩
theorem VerOk.mono {w:World} {S S':Nat→Prop} {x:MVer} (h:VerOk w S x) (hS:∀ b,S b→b<w.heap.size→S' b):VerOk w S' x:=⟨h.pre,h.build,h.ip.mono h.pre hS,h.ib.mono h.build hS,h.cp,h.cb,h.fit⟩
structure MRel where
 ver:MVer
 yanked:Bool
 N:Option Addr
 nc:Nat
 needs:List MDep
 B:Option Addr
 bc:Nat
 bans:List MDep
instance:Inhabited MRel:=⟨⟨default,false,none,0,[],none,0,[]⟩⟩
def MRel.vals (r:MRel):List Value:=r.ver.vals ++ [.bool r.yanked,.slice r.N r.needs.length r.nc,.slice r.B r.bans.length r.bc]
def MRel.agg (r:MRel):Value:=.agg #[r.ver.v.a,r.ver.v.b,r.ver.v.c,.slice r.ver.A r.ver.v.pre.length r.ver.c,.slice r.ver.B r.ver.v.build.length r.ver.d,.bool r.yanked,.slice r.N r.needs.length r.nc,.slice r.B r.bans.length r.bc]
def MRel.p (r:MRel):PRel:=⟨r.ver.v,r.yanked,r.needs.map MDep.p,r.bans.map MDep.p⟩
theorem rel_len (r:MRel):r.vals.length=8:=rfl
structure RelOk (w:World) (S:Nat→Prop) (r:MRel):Prop where
 ver:VerOk w S r.ver
 needs:DRow w S r.N r.needs.length r.needs
 bans:DRow w S r.B r.bans.length r.bans
 nc:r.needs.length≤r.nc∧r.nc≤maxLen
 bc:r.bans.length≤r.bc∧r.bc≤maxLen
 nn:r.N=none→r.nc=0
 bn:r.B=none→r.bc=0
theorem RelOk.keep {w w':World} {S:Nat→Prop} {r:MRel} (h:RelOk w S r) (k:KeepS S w w'):RelOk w' S r:=⟨h.ver.keep k,h.needs.keep k,h.bans.keep k,h.nc,h.bc,h.nn,h.bn⟩
theorem RelOk.mono {w:World} {S S':Nat→Prop} {r:MRel} (h:RelOk w S r) (hS:∀ b,S b→b<w.heap.size→S' b):RelOk w S' r:=⟨h.ver.mono hS,h.needs.mono hS,h.bans.mono hS,h.nc,h.bc,h.nn,h.bn⟩
structure RRow (w:World) (S:Nat→Prop) (A:Option Addr) (n:Nat) (l:List MRel):Prop where
 row:KRow MRel.vals 8 w S A n l
 ok:∀ r ∈ l,RelOk w S r
theorem RRow.keep {w w':World} {S:Nat→Prop} {A:Option Addr} {n:Nat} {l:List MRel} (h:RRow w S A n l) (k:KeepS S w w'):RRow w' S A n l:=⟨h.row.keep k,fun d hd=>(h.ok d hd).keep k⟩
theorem RRow.mono {w:World} {S S':Nat→Prop} {A:Option Addr} {n:Nat} {l:List MRel} (h:RRow w S A n l) (hS:∀ b,S b→b<w.heap.size→S' b):RRow w S' A n l:=⟨h.row.mono hS,fun d hd=>(h.ok d hd).mono hS⟩
structure MPack where
 name:List UInt8
 R:Option Addr
 rc:Nat
 rels:List MRel
instance:Inhabited MPack:=⟨⟨[],none,0,[]⟩⟩
def MPack.vals (p:MPack):List Value:=[.string (Ident.mk p.name),.slice p.R p.rels.length p.rc]
def MPack.agg (p:MPack):Value:=.agg #[.string (Ident.mk p.name),.slice p.R p.rels.length p.rc]
def MPack.p (p:MPack):PPack:=⟨p.name,p.rels.map MRel.p⟩
theorem pack_len (p:MPack):p.vals.length=2:=rfl
structure PackOk (w:World) (S:Nat→Prop) (p:MPack):Prop where
 short:p.name.length≤maxLen
 rels:RRow w S p.R p.rels.length p.rels
 rc:p.rels.length≤p.rc∧p.rc≤maxLen
 rn:p.R=none→p.rc=0
theorem PackOk.keep {w w':World} {S:Nat→Prop} {p:MPack} (h:PackOk w S p) (k:KeepS S w w'):PackOk w' S p:=⟨h.short,h.rels.keep k,h.rc,h.rn⟩
theorem PackOk.mono {w:World} {S S':Nat→Prop} {p:MPack} (h:PackOk w S p) (hS:∀ b,S b→b<w.heap.size→S' b):PackOk w S' p:=⟨h.short,h.rels.mono hS,h.rc,h.rn⟩
structure PRow (w:World) (S:Nat→Prop) (A:Option Addr) (n:Nat) (l:List MPack):Prop where
 row:KRow MPack.vals 2 w S A n l
 ok:∀ p ∈ l,PackOk w S p
theorem PRow.keep {w w':World} {S:Nat→Prop} {A:Option Addr} {n:Nat} {l:List MPack} (h:PRow w S A n l) (k:KeepS S w w'):PRow w' S A n l:=⟨h.row.keep k,fun d hd=>(h.ok d hd).keep k⟩
theorem PRow.mono {w:World} {S S':Nat→Prop} {A:Option Addr} {n:Nat} {l:List MPack} (h:PRow w S A n l) (hS:∀ b,S b→b<w.heap.size→S' b):PRow w S' A n l:=⟨h.row.mono hS,fun d hd=>(h.ok d hd).mono hS⟩
structure MPin where
 name:List UInt8
 ver:MVer
instance:Inhabited MPin:=⟨⟨[],default⟩⟩
def MPin.vals (p:MPin):List Value:=.string (Ident.mk p.name) :: p.ver.vals
def MPin.agg (p:MPin):Value:=.agg #[.string (Ident.mk p.name),p.ver.v.a,p.ver.v.b,p.ver.v.c,.slice p.ver.A p.ver.v.pre.length p.ver.c,.slice p.ver.B p.ver.v.build.length p.ver.d]
def MPin.p (p:MPin):PPin:=⟨p.name,p.ver.v⟩
structure PinOk (w:World) (S:Nat→Prop) (p:MPin):Prop where
 short:p.name.length≤maxLen
 ver:VerOk w S p.ver
theorem PinOk.keep {w w':World} {S:Nat→Prop} {p:MPin} (h:PinOk w S p) (k:KeepS S w w'):PinOk w' S p:=⟨h.short,h.ver.keep k⟩
structure SPRow (w:World) (S:Nat→Prop) (A:Option Addr) (n:Nat) (l:List MPin):Prop where
 row:KRow MPin.vals 6 w S A n l
 ok:∀ p ∈ l,PinOk w S p
theorem SPRow.keep {w w':World} {S:Nat→Prop} {A:Option Addr} {n:Nat} {l:List MPin} (h:SPRow w S A n l) (k:KeepS S w w'):SPRow w' S A n l:=⟨h.row.keep k,fun d hd=>(h.ok d hd).keep k⟩
end Go.Proofs.YtnpjklaaokiikaaGreatDoor.Model
namespace Go.Proofs.YtnpjklaaokiikaaGreatDoor.Model
open Go.RowKit Num Ident Semver
open Range (Rng noRng goodR sameV_eq)
open Nrm (inV hasR)
open Name (isName)
open Prec (fullV fullV_ordr)

structure SortOf {α:Type} (le:α→α→Prop) (l l':List α):Prop where
 perm:l'.Perm l
 up:l'.Pairwise le
 same:l.Pairwise le→l'=l
def relLe (a b:PRel):Prop:=fullV a.v b.v≤0
def packLe (p q:PPack):Prop:=¬ q.name<p.name
theorem relLe_trans {a b c:PRel} (h:relLe a b) (g:relLe b c):relLe a c:=fullV_ordr.trans _ _ _ h g
theorem packLe_trans {a b c:PPack} (h:packLe a b) (g:packLe b c):packLe a c:=by
 unfold packLe at *; rw [Std.not_lt] at *; exact Std.le_trans h g
def PlainOf (x y:List PPack):Prop :=
 ∃ z:List PPack,z.length=x.length∧(∀ i,i<x.length→(z.getD i default).name=(x.getD i default).name∧SortOf relLe (x.getD i default).rels (z.getD i default).rels)∧SortOf packLe z y
theorem toO_no {e:Int}:toO e=none↔e=0:=by unfold toO; split <;> simp_all
theorem firstG_iff {α β:Type} [Inhabited α] {f:Nat→α→Option β} {l:List α}:firstG f 0 l=none↔∀ j,j<l.length→f j (l.getD j default)=none:=by
 constructor
 ·intro h j hj; have:=firstG_no f l 0 h j hj; rwa [Nat.zero_add] at this
 ·intro h; exact firstG_none f l 0 fun j hj=>by rw [Nat.zero_add]; exact h j hj
theorem memD {α:Type} [Inhabited α] (l:List α) {k:Nat} (h:k<l.length):l.getD k default ∈ l:=by
 rw [List.getD_eq_getElem?_getD,List.getElem?_eq_getElem h]; exact List.getElem_mem _
theorem ofMem {α:Type} [Inhabited α] {l:List α} {a:α} (h:a ∈ l):∃ k,k<l.length∧l.getD k default=a:=by
 obtain ⟨k,hk,rfl⟩:=List.getElem_of_mem h
 exact ⟨k,hk,by rw [List.getD_eq_getElem?_getD,List.getElem?_eq_getElem hk]; rfl⟩
theorem ahead_iff {α:Type} [Inhabited α] (f:α→α→Bool) (l:List α):(∀ k,k<l.length→((l.take k).any fun x=>f x (l.getD k default))=false)↔l.Pairwise fun a b=>f a b=false:=by
 rw [List.pairwise_iff_getElem]
 constructor
 ·intro h i j hi hj hij
  have:=h j hj
  rw [List.any_eq_false] at this
  have g:=this l[i] (by rw [List.mem_take_iff_getElem]; exact ⟨i,by omega,rfl⟩)
  rw [List.getD_eq_getElem?_getD,List.getElem?_eq_getElem hj] at g
  exact Bool.eq_false_iff.2 g
 ·intro h k hk
  rw [List.any_eq_false]
  intro a ha
  obtain ⟨i,hi,rfl⟩:=List.mem_take_iff_getElem.1 ha
  rw [List.getD_eq_getElem?_getD,List.getElem?_eq_getElem hk]
  have:=h i k (by omega) hk (by omega)
  exact Bool.eq_false_iff.1 this
def RightRel (pn:List UInt8) (r:PRel):Prop:=goodV r.v=true∧(∀ d ∈ r.needs ++ r.bans,depE d=0)∧∀ d ∈ r.bans,¬ (d.name=pn∧inV d.r r.v=true)
def RightRels (pn:List UInt8) (l:List PRel):Prop:=(∀ r ∈ l,RightRel pn r)∧l.Pairwise fun a b=>sameV a.v b.v=false
def RightX (x:List PPack):Prop:=x.length≤4096∧(∀ p ∈ x,isName p.name=true∧RightRels p.name p.rels)∧x.Pairwise fun p q=>(p.name == q.name)=false
theorem banE_iff (pn:List UInt8) (v:Ver) (nn j:Nat) (d:PDep):banE pn v nn j d=0↔depE d=0∧¬ (nn≤j∧d.name=pn∧inV d.r v=true):=by
 unfold banE
 by_cases h:depE d=0
 ·rw [if_neg (fun g=>g h)]
  by_cases g:nn≤j∧d.name=pn∧inV d.r v=true
  ·rw [if_pos g]; simp [g]
  ·rw [if_neg g]; exact ⟨fun _=>⟨h,g⟩,fun _=>rfl⟩
 ·rw [if_pos h]; exact ⟨fun g=>absurd g h,fun g=>absurd g.1 h⟩
theorem bans_iff (pn:List UInt8) (r:PRel):(firstG (fun j d=>toO (banE pn r.v r.needs.length j d)) 0 (r.needs ++ r.bans)=none)↔(∀ d ∈ r.needs ++ r.bans,depE d=0)∧∀ d ∈ r.bans,¬ (d.name=pn∧inV d.r r.v=true):=by
 rw [firstG_iff]
 simp only [toO_no,banE_iff]
 constructor
 ·intro h
  refine ⟨fun d hd=>?_,fun d hd g=>?_⟩
  ·obtain ⟨k,hk,rfl⟩:=ofMem hd
   exact (h k hk).1
  ·obtain ⟨k,hk,rfl⟩:=ofMem hd
   have h1:=(h (r.needs.length+k) (by rw [List.length_append]; omega)).2
   rw [show (r.needs ++ r.bans).getD (r.needs.length+k) default=r.bans.getD k default by
    rw [List.getD_eq_getElem?_getD,List.getElem?_append_right (by omega),Nat.add_sub_cancel_left,← List.getD_eq_getElem?_getD]] at h1
   exact h1 ⟨by omega,g⟩
 ·rintro ⟨h1,h2⟩ j hj
  refine ⟨h1 _ (memD _ hj),fun ⟨g1,g2⟩=>h2 _ ?_ g2⟩
  rw [List.length_append] at hj
  rw [List.getD_eq_getElem?_getD,List.getElem?_append_right g1,← List.getD_eq_getElem?_getD]
  exact memD _ (by omega)
theorem relF_iff (pn:List UInt8) (l:List PRel) (k:Nat) (r:PRel):relF pn l k r=none↔RightRel pn r∧verB l k=false:=by
 unfold relF RightRel
 cases h1:goodV r.v
 ·simp
 ·cases h2:verB l k
  ·simp only [Bool.false_eq_true,reduceIte,Option.map_eq_none_iff,true_and,and_true,Bool.true_eq_false]
   exact bans_iff pn r
  ·simp
theorem rels_iff (pn:List UInt8) (l:List PRel):firstG (relF pn l) 0 l=none↔RightRels pn l:=by
 rw [firstG_iff]
 simp only [relF_iff]
 unfold RightRels
 rw [← ahead_iff (fun a b:PRel=>sameV a.v b.v) l]
 constructor
 ·intro h
  refine ⟨fun r hr=>?_,fun k hk=>(h k hk).2⟩
  obtain ⟨k,hk,rfl⟩:=ofMem hr
  exact (h k hk).1
 ·rintro ⟨h1,h2⟩ k hk
  exact ⟨h1 _ (memD _ hk),h2 k hk⟩
theorem packF_iff (x:List PPack) (k:Nat) (p:PPack):packF x k p=none↔(isName p.name=true∧RightRels p.name p.rels)∧nameB PPack.name x k=false:=by
 unfold packF
 cases h1:isName p.name
 ·simp
 ·cases h2:nameB PPack.name x k
  ·simp only [Bool.false_eq_true,reduceIte,Option.map_eq_none_iff,true_and,and_true,Bool.true_eq_false]
   exact rels_iff _ _
  ·simp
theorem check_iff (x:List PPack):checkF x=none↔RightX x:=by
 unfold checkF RightX
 by_cases h0:4096<x.length
 ·rw [if_pos h0]; simp; omega
 ·rw [if_neg h0,Option.map_eq_none_iff,firstG_iff]
  simp only [packF_iff]
  rw [← ahead_iff (fun p q:PPack=>p.name == q.name) x]
  constructor
  ·intro h
   refine ⟨by omega,fun p hp=>?_,fun k hk=>(h k hk).2⟩
   obtain ⟨k,hk,rfl⟩:=ofMem hp
   exact (h k hk).1
  ·rintro ⟨_,h1,h2⟩ k hk
   exact ⟨h1 _ (memD _ hk),h2 k hk⟩
theorem sameV_comm (u v:Ver):sameV u v=sameV v u:=by
 rw [Bool.eq_iff_iff]
 constructor <;> intro h <;> (have:=sameV_eq h; subst this; exact sameV_self _)
theorem rightRels_perm {pn:List UInt8} {l l':List PRel} (h:l'.Perm l):RightRels pn l'↔RightRels pn l:=by
 unfold RightRels
 rw [h.pairwise_iff (fun {a b} g=>by rw [sameV_comm]; exact g)]
 exact and_congr_left fun _=>⟨fun g r hr=>g r (h.mem_iff.2 hr),fun g r hr=>g r (h.mem_iff.1 hr)⟩
theorem beq_comm_name (a b:List UInt8):(a == b)=(b == a):=by rw [Bool.eq_iff_iff,beq_iff_eq,beq_iff_eq]; exact eq_comm
theorem rightX_perm {x y:List PPack} (h:y.Perm x):RightX y↔RightX x:=by
 unfold RightX
 rw [h.length_eq,h.pairwise_iff (fun {a b} g=>by rw [beq_comm_name]; exact g)]
 exact and_congr_right fun _=>and_congr_left fun _=>⟨fun g r hr=>g r (h.mem_iff.2 hr),fun g r hr=>g r (h.mem_iff.1 hr)⟩
section
variable {x z:List PPack} (hl:z.length=x.length) (hz:∀ i,i<x.length→(z.getD i default).name=(x.getD i default).name∧SortOf relLe (x.getD i default).rels (z.getD i default).rels)
include hl hz
theorem mid_mem {q:PPack} (h:q ∈ z):∃ p ∈ x,q.name=p.name∧SortOf relLe p.rels q.rels:=by
 obtain ⟨k,hk,rfl⟩:=ofMem h
 exact ⟨_,memD x (by omega),hz k (by omega)⟩
theorem mid_mem2 {p:PPack} (h:p ∈ x):∃ q ∈ z,q.name=p.name∧SortOf relLe p.rels q.rels:=by
 obtain ⟨k,hk,rfl⟩:=ofMem h
 exact ⟨_,memD z (by omega),hz k hk⟩
theorem mid_names:z.map PPack.name=x.map PPack.name:=by
 apply List.ext_getElem (by simp [hl])
 intro i h1 h2
 have h1':i<z.length:=by simpa using h1
 have h2':i<x.length:=by simpa using h2
 have:=(hz i h2').1
 rw [List.getD_eq_getElem?_getD,List.getElem?_eq_getElem h1',List.getD_eq_getElem?_getD,List.getElem?_eq_getElem h2'] at this
 simpa using this
theorem mid_right:RightX z↔RightX x:=by
 unfold RightX
 have e:(z.Pairwise fun p q=>(p.name == q.name)=false)↔x.Pairwise fun p q=>(p.name == q.name)=false:=by
  have a:=List.pairwise_map (f:=PPack.name) (R:=fun p q:List UInt8=>(p == q)=false) (l:=z)
  have b:=List.pairwise_map (f:=PPack.name) (R:=fun p q:List UInt8=>(p == q)=false) (l:=x)
  rw [mid_names hl hz] at a
  exact a.symm.trans b
 rw [hl,e]
 refine and_congr_right fun _=>and_congr_left fun _=>⟨fun g p hp=>?_,fun g q hq=>?_⟩
 ·obtain ⟨q,hq,h1,h2⟩:=mid_mem2 hl hz hp
  have:=g q hq
  rw [h1,rightRels_perm h2.perm] at this
  exact this
 ·obtain ⟨p,hp,h1,h2⟩:=mid_mem hl hz hq
  rw [h1,rightRels_perm h2.perm]
  exact g p hp
end
theorem plain_right {x y:List PPack} (h:PlainOf x y):checkF y=none↔checkF x=none:=by
 obtain ⟨z,hl,hz,hs⟩:=h
 rw [check_iff,check_iff,rightX_perm hs.perm,mid_right hl hz]
theorem plain_len {x y:List PPack} (h:PlainOf x y):y.length=x.length:=by
 obtain ⟨z,hl,hz,hs⟩:=h
 rw [hs.perm.length_eq,hl]
theorem release_iff {x:List PPack} (h:RightX x) (name:List UInt8) (v:Ver) (r:PRel):releaseO x name v=some r↔∃ p ∈ x,p.name=name∧r ∈ p.rels∧r.v=v:=by
 unfold releaseO
 have hun:∀ p ∈ x,∀ q ∈ x,p.name=q.name→p=q:=fun p hp q hq e=>by
  obtain ⟨i,hi,rfl⟩:=List.getElem_of_mem hp
  obtain ⟨j,hj,rfl⟩:=List.getElem_of_mem hq
  have hpw:=List.pairwise_iff_getElem.1 h.2.2
  rcases Nat.lt_trichotomy i j with g | g | g
  ·have:=hpw i j hi hj g; rw [e] at this; simp at this
  ·subst g; rfl
  ·have:=hpw j i hj hi g; rw [e] at this; simp at this
 have hur:∀ p ∈ x,∀ r ∈ p.rels,∀ r' ∈ p.rels,r.v=r'.v→r=r':=fun p hp r hr r' hr' e=>by
  obtain ⟨i,hi,rfl⟩:=List.getElem_of_mem hr
  obtain ⟨j,hj,rfl⟩:=List.getElem_of_mem hr'
  have hpw:=List.pairwise_iff_getElem.1 (h.2.1 p hp).2.2
  rcases Nat.lt_trichotomy i j with g | g | g
  ·have:=hpw i j hi hj g; rw [e,sameV_self] at this; cases this
  ·subst g; rfl
  ·have:=hpw j i hj hi g; rw [e,sameV_self] at this; cases this
 rw [Option.bind_eq_some_iff]
 constructor
 ·rintro ⟨p,hp,hr⟩
  have h1:=List.find?_some hp
  have h2:=List.find?_some hr
  exact ⟨p,List.mem_of_find?_eq_some hp,by simpa using h1,List.mem_of_find?_eq_some hr,sameV_eq h2⟩
 ·rintro ⟨p,hp,rfl,hr,rfl⟩
  refine ⟨p,?_,?_⟩
  ·cases hf:x.find? fun q=>q.name == p.name with
   | none =>
    have:=List.find?_eq_none.1 hf p hp
    simp at this
   | some q =>
    have h1:=List.find?_some hf
    rw [hun q (List.mem_of_find?_eq_some hf) p hp (by simpa using h1)]
  ·cases hf:p.rels.find? fun r'=>sameV r'.v r.v with
   | none =>
    have:=List.find?_eq_none.1 hf r hr
    rw [sameV_self] at this; exact absurd rfl this
   | some r' =>
    have h1:=List.find?_some hf
    rw [hur p hp r' (List.mem_of_find?_eq_some hf) r hr (sameV_eq h1)]
theorem plain_release {x y:List PPack} (h:PlainOf x y) (hr:checkF x=none) (name:List UInt8) (v:Ver):releaseO y name v=releaseO x name v:=by
 have hy:=(check_iff y).1 ((plain_right h).2 hr)
 have hx:=(check_iff x).1 hr
 obtain ⟨z,hl,hz,hs⟩:=h
 refine Option.ext fun r=>?_
 rw [release_iff hy,release_iff hx]
 constructor
 ·rintro ⟨q,hq,rfl,hr,rfl⟩
  obtain ⟨p,hp,h1,h2⟩:=mid_mem hl hz (hs.perm.mem_iff.1 hq)
  exact ⟨p,hp,h1.symm,h2.perm.mem_iff.1 hr,rfl⟩
 ·rintro ⟨p,hp,rfl,hr,rfl⟩
  obtain ⟨q,hq,h1,h2⟩:=mid_mem2 hl hz hp
  exact ⟨q,hs.perm.mem_iff.2 hq,h1,h2.perm.mem_iff.2 hr,rfl⟩
theorem chain_of {α:Type} [Inhabited α] {le:α→α→Prop} {f:α→α→Bool} (hf:∀ a b,f a b=true↔le a b) {l:List α} (h:l.Pairwise le):chainB f l=true:=by
 rw [chainB_iff]
 intro i hi
 rw [hf,List.getD_eq_getElem?_getD,List.getElem?_eq_getElem (by omega),List.getD_eq_getElem?_getD,List.getElem?_eq_getElem hi]
 exact List.pairwise_iff_getElem.1 h i (i+1) (by omega) hi (by omega)
theorem of_chain {α:Type} {le:α→α→Prop} {f:α→α→Bool} (hf:∀ a b,f a b=true↔le a b) (ht:∀ a b c,le a b→le b c→le a c):∀ {l:List α},chainB f l=true→l.Pairwise le
 | [],_=>List.Pairwise.nil
 | [a],_=>List.pairwise_singleton _ _
 | a :: b :: l,h=>by
  rw [chainB,Bool.and_eq_true] at h
  have ih:=of_chain hf ht h.2
  refine List.pairwise_cons.2 ⟨fun c hc=>?_,ih⟩
  rcases List.mem_cons.1 hc with rfl | hc
  ·exact (hf _ _).1 h.1
  ·exact ht _ _ _ ((hf _ _).1 h.1) ((List.pairwise_cons.1 ih).1 c hc)
theorem relf (a b:PRel):decide (fullV a.v b.v≤0)=true↔relLe a b:=decide_eq_true_iff
theorem packf (p q:PPack):decide (¬ q.name<p.name)=true↔packLe p q:=decide_eq_true_iff
theorem plain_plain {x y:List PPack} (h:PlainOf x y):plainB y=true:=by
 obtain ⟨z,hl,hz,hs⟩:=h
 unfold plainB packsB relsB
 rw [Bool.and_eq_true,List.all_eq_true]
 refine ⟨chain_of packf hs.up,fun q hq=>?_⟩
 obtain ⟨p,_,_,h2⟩:=mid_mem hl hz (hs.perm.mem_iff.1 hq)
 exact chain_of relf h2.up
theorem pack_ext:∀ {p q:PPack},p.name=q.name→p.rels=q.rels→p=q
 | ⟨_,_⟩,⟨_,_⟩,rfl,rfl=>rfl
theorem plain_same {x y:List PPack} (h:PlainOf x y) (hp:plainB x=true):y=x:=by
 obtain ⟨z,hl,hz,hs⟩:=h
 unfold plainB packsB relsB at hp
 rw [Bool.and_eq_true,List.all_eq_true] at hp
 have e:z=x:=by
  apply List.ext_getElem hl
  intro i h1 h2
  have g:=hz i h2
  rw [List.getD_eq_getElem?_getD,List.getElem?_eq_getElem h1,List.getD_eq_getElem?_getD,List.getElem?_eq_getElem h2] at g
  have g2:z[i].rels=x[i].rels:=g.2.same (of_chain relf (fun _ _ _=>relLe_trans) (hp.2 x[i] (List.getElem_mem h2)))
  have g1:z[i].name=x[i].name:=g.1
  exact pack_ext g1 g2
 rw [e] at hs
 exact hs.same (of_chain packf (fun _ _ _=>packLe_trans) hp.1)
end Go.Proofs.YtnpjklaaokiikaaGreatDoor.Model
namespace Go.Proofs.YtnpjklaaokiikaaGreatDoor.Model
open Go.RowKit Num Ident Semver Fr
open Range (Rng noRng RV KeepS LtB LenOk goodR wt)
open KR (KRow AtV)
theorem keepS_but {T S:Nat→Prop} {w w':World} (h:But T w w') (hn:∀ g,S g→¬ T g):KeepS S w w' :=
 ⟨h.size,fun _ _ _ hg hc=>(h.cell (Range.block_lt hc) (hn _ hg)).trans hc⟩
theorem _root_.Go.Proofs.YtnpjklaaokiikaaGreatDoor.KR.AtV.but {T:Nat→Prop} {W W':World} {b:Nat} {L:List Value} (h:AtV W b L) (hb:But T W W') (hn:¬ T b):AtV W' b L :=
 ⟨Nat.lt_of_lt_of_le h.lt hb.size,fun o=>(hb.frozen h.lt hn).trans (h.fr o),fun i u hu=>(hb.cell h.lt hn).trans (h.at_ i u hu)⟩
theorem _root_.Go.Proofs.YtnpjklaaokiikaaGreatDoor.KR.AtV.set {W:World} {b:Nat} {L:List Value} (h:AtV W b L) (i:Nat) (v:Value) (hi:i<L.length):AtV (W.setCell ⟨b,i,none⟩ v) b (L.set i v):=by
 refine ⟨by simpa using h.lt,fun o=>by simp [go_sem,h.fr],fun j u hu=>?_⟩
 by_cases e:j=i
 ·subst e
  rw [List.getElem?_set_self hi] at hu
  injection hu with hu
  subst hu
  exact World.cell?_setCell_same _ _ _ (h.at_ j L[j] (List.getElem?_eq_getElem hi))
 ·rw [List.getElem?_set_ne (fun q=>e q.symm)] at hu
  rw [cell_beside _ _ _ _ _ (fun q=>e q.symm)]
  exact h.at_ j u hu
theorem _root_.Go.Proofs.YtnpjklaaokiikaaGreatDoor.Fr.But.to_below {mb:Nat} {w w':World} (h:But (fun k=>k=mb) w w') {B:Nat} (hB:B≤w.heap.size) (hm:B≤mb):Below B w w':=h.below (fun k e=>by omega) hB
theorem _root_.Go.Proofs.YtnpjklaaokiikaaGreatDoor.Fr.But.then_same {T:Nat→Prop} {a w w':World} (h:But T a w) (k:Below w.heap.size w w'):But T a w':=h.trans (But.of_same k T) fun _ g=>.inl g
theorem _root_.Go.Proofs.YtnpjklaaokiikaaGreatDoor.Fr.But.then_ {T:Nat→Prop} {a w w':World} (h:But T a w) (k:But T w w'):But T a w':=h.trans k fun _ g=>.inl g
end Go.Proofs.YtnpjklaaokiikaaGreatDoor.Model
namespace Go.Proofs.YtnpjklaaokiikaaGreatDoor.Model
open Go.RowKit Num Ident Semver
open Range (Rng noRng RV KeepS LtB LenOk goodR wt)
open KR (KRow AtV)
open Name (isName)

theorem depE_name {d:PDep} (h:isName d.name=false):depE d=12:=by unfold depE; rw [if_pos h]
theorem depE_range {d:PDep} (h:isName d.name=true) (g:goodR d.r 0=false):depE d=3:=by unfold depE; rw [if_neg (by rw [h]; decide),if_pos g]
theorem depE_good {d:PDep} (h:isName d.name=true) (g:goodR d.r 0=true):depE d=0:=by unfold depE; rw [if_neg (by rw [h]; decide),if_neg (by rw [g]; decide)]
theorem toO_none {e:Int}:toO e=none↔e=0:=by unfold toO; split <;> simp_all
theorem toO_some {e:Int} (h:e≠0):toO e=some e:=by unfold toO; rw [if_neg h]
theorem map_at {α β:Type} [Inhabited α] [Inhabited β] (f:α→β) (l:List α) {k:Nat} (h:k<l.length):(l.map f).getD k default=f (l.getD k default):=by
 rw [List.getD_eq_getElem?_getD,List.getD_eq_getElem?_getD,List.getElem?_map,List.getElem?_eq_getElem h]; rfl
theorem getD_mem {α:Type} [Inhabited α] {l:List α} {k:Nat} (h:k<l.length):l.getD k default ∈ l:=by
 rw [List.getD_eq_getElem?_getD,List.getElem?_eq_getElem h]; exact List.getElem_mem _
theorem DRow.cells {w:World} {S:Nat→Prop} {A:Option Addr} {n:Nat} {l:List MDep} (h:DRow w S A n l) {k:Nat} (hk:k<n):∃ b o,A=some ⟨b,o,none⟩∧S b∧b<w.heap.size ∧
  w.cell? ⟨b,o+k * 8,none⟩=some (.string (Ident.mk (l.getD k default).name))∧w.cell? ⟨b,o+k * 8+1,none⟩=some (.int .i64 (l.getD k default).x.kind)∧w.cell? ⟨b,o+k * 8+2,none⟩=some (.int .u64 ((l.getD k default).x.v.a))∧w.cell? ⟨b,o+k * 8+3,none⟩=some (.int .u64 ((l.getD k default).x.v.b))∧w.cell? ⟨b,o+k * 8+4,none⟩=some (.int .u64 ((l.getD k default).x.v.c))∧w.cell? ⟨b,o+k * 8+5,none⟩=some (.slice (l.getD k default).x.A (l.getD k default).x.v.pre.length (l.getD k default).x.c)∧w.cell? ⟨b,o+k * 8+6,none⟩=some (.slice (l.getD k default).x.B (l.getD k default).x.v.build.length (l.getD k default).x.d)∧w.cell? ⟨b,o+k * 8+7,none⟩=some (.slice (l.getD k default).x.L (l.getD k default).x.n (l.getD k default).x.e):=by
 obtain ⟨b,o,e,hb,hlt,hc⟩:=h.row.at_ hk
 exact ⟨b,o,e,hb,hlt,hc 0 _ rfl,hc 1 _ rfl,hc 2 _ rfl,hc 3 _ rfl,hc 4 _ rfl,hc 5 _ rfl,hc 6 _ rfl,hc 7 _ rfl⟩
def out2V (o:Option (Nat × Int)):Value:=.tuple #[.int .i64 (out2 o).1,.int .i64 (out2 o).2]
end Go.Proofs.YtnpjklaaokiikaaGreatDoor.Model
namespace Go.Proofs.YtnpjklaaokiikaaGreatDoor.Copy
open Go.RowKit Num Ident Semver Fr
open Range (Rng noRng RV Lies RgRow CellsAt KeepS LtB InS FitV wt wtL)
open KR (KRow)
open Model (MDep MRel MPack)
theorem infoDep:(Tryz.prog.info? 57).map (fun i=>(i.zero,i.size,i.bytes))=some (some (.agg #[.string ⟨#[]⟩,.int .i64 0,.int .u64 0,.int .u64 0,.int .u64 0,.slice none 0 0,.slice none 0 0,.slice none 0 0]),8,120):=by kernel_rfl
theorem infoRelease:(Tryz.prog.info? 36).map (fun i=>(i.zero,i.size,i.bytes))=some (some (.agg #[.int .u64 0,.int .u64 0,.int .u64 0,.slice none 0 0,.slice none 0 0,.bool false,.slice none 0 0,.slice none 0 0]),8,128):=by kernel_rfl
theorem infoPack:(Tryz.prog.info? 60).map (fun i=>(i.zero,i.size,i.bytes))=some (some (.agg #[.string ⟨#[]⟩,.slice none 0 0]),2,40):=by kernel_rfl
theorem oneDep:∀ x:MDep,∀ u ∈ x.vals,u.oneCell'=true:=Model.dep_one
theorem oneRelease:∀ x:MRel,∀ u ∈ x.vals,u.oneCell'=true:=fun r u hu=>by
 rcases List.mem_append.1 hu with hu | hu
 all_goals
  simp only [Model.MVer.vals,List.mem_cons,List.not_mem_nil,or_false] at hu
  rcases hu with rfl | rfl | hu <;> first | rfl | (subst hu; rfl) | (rcases hu with rfl | rfl | rfl <;> rfl)
theorem onePack:∀ x:MPack,∀ u ∈ x.vals,u.oneCell'=true:=fun p u hu=>by
 simp only [Model.MPack.vals,List.mem_cons,List.not_mem_nil,or_false] at hu
 rcases hu with rfl | rfl <;> rfl
theorem cloneDep_any (A:Option Addr) (n c:Nat) (l:List MDep) (S:Nat→Prop) (w:World) (h:KRow MDep.vals 8 w S A n l) (hb:n * 120≤140737488355328) (hn:n≤maxLen) :
  Calls Tryz.prog 141 #[.slice A n c] w (OwnPost w 57 8 n (l.flatMap MDep.vals)):=by
 have qN:∀ (w:World) (a:Option Addr) (n c n' c':Nat),(binOp .eql 25 (.slice a n c) (.slice none n' c')).run Tryz.prog w=.ok (.bool a.isNone) w:=fun w a n c n' c'=>Lib.run_eql_slice_nil w _ _ a n c n' c' Tryz.underlying25
 cases A with
 | none =>
  obtain ⟨rfl,rfl⟩:=h.nil
  go_enter Tryz.func141,Tryz.ntmps141
  go_wp2
  go_ret
  exact ⟨_,rfl,World.ownsRow_nil _ _ _ _,Below.refl _ _⟩
 | some ad =>
  have H0:Hid ((w.alloc (.cells #[] 57)).ownsRow w.heap.size 57 8 (.slice (some ⟨w.heap.size,0,none⟩) 0 0) 0 []):=World.ownsRow_made w #[] 0 (Nat.le_refl _) (Nat.zero_le _) rfl
  have HB:Hid (Below w.heap.size w (w.alloc (.cells #[] 57))):=(Below.refl _ _).alloc (Nat.le_refl _) _
  have HR:Hid (KRow MDep.vals 8 (w.alloc (.cells #[] 57)) S (some ad) n l):=h.keep (KeepS.of_below HB.out)
  have hbz:w.heap.size≤(w.alloc (.cells #[] 57)).heap.size:=HB.out.size
  obtain ⟨v',w',hrun,hown,hgr⟩:=KR.run_append_k (vals:=MDep.vals) (k:=8) (bytes:=120) (T:=25) (E:=57) Tryz.underlying25 infoDep rfl (fun _=>rfl) (by omega) oneDep _ 25 w.heap.size _ 0 [] H0.out (some ad) n c l HR.out (fun e=>by cases e) (by omega) (by omega) hbz
  have HO:=Lib.hid hown
  have HG:=Lib.hid hgr
  clear hown hgr h
  go_enter Tryz.func141,Tryz.ntmps141
  go_wp2_with (first
   | (at_builtin; refine wpList_ran rfl rfl rfl rfl hrun ?_)
   | go_in)
  clear hrun hbz
  go_wp2
  go_ret
  exact ⟨_,rfl,by simpa using HO.out,HB.out.trans (by
   have:=HG.out
   exact (Below.refl _ _).grown this HB.out.size (fun g e=>by injection e with e; rw [← e]; exact Nat.le_refl _))⟩
theorem cloneRelease_any (A:Option Addr) (n c:Nat) (l:List MRel) (S:Nat→Prop) (w:World) (h:KRow MRel.vals 8 w S A n l) (hb:n * 128≤140737488355328) (hn:n≤maxLen) :
  Calls Tryz.prog 82 #[.slice A n c] w (OwnPost w 36 8 n (l.flatMap MRel.vals)):=by
 have qN:∀ (w:World) (a:Option Addr) (n c n' c':Nat),(binOp .eql 58 (.slice a n c) (.slice none n' c')).run Tryz.prog w=.ok (.bool a.isNone) w:=fun w a n c n' c'=>Lib.run_eql_slice_nil w _ _ a n c n' c' Tryz.underlying58
 cases A with
 | none =>
  obtain ⟨rfl,rfl⟩:=h.nil
  go_enter Tryz.func82,Tryz.ntmps82
  go_wp2
  go_ret
  exact ⟨_,rfl,World.ownsRow_nil _ _ _ _,Below.refl _ _⟩
 | some ad =>
  have H0:Hid ((w.alloc (.cells #[] 36)).ownsRow w.heap.size 36 8 (.slice (some ⟨w.heap.size,0,none⟩) 0 0) 0 []):=World.ownsRow_made w #[] 0 (Nat.le_refl _) (Nat.zero_le _) rfl
  have HB:Hid (Below w.heap.size w (w.alloc (.cells #[] 36))):=(Below.refl _ _).alloc (Nat.le_refl _) _
  have HR:Hid (KRow MRel.vals 8 (w.alloc (.cells #[] 36)) S (some ad) n l):=h.keep (KeepS.of_below HB.out)
  have hbz:w.heap.size≤(w.alloc (.cells #[] 36)).heap.size:=HB.out.size
  obtain ⟨v',w',hrun,hown,hgr⟩:=KR.run_append_k (vals:=MRel.vals) (k:=8) (bytes:=128) (T:=58) (E:=36) Tryz.underlying58 infoRelease rfl (fun _=>rfl) (by omega) oneRelease _ 58 w.heap.size _ 0 [] H0.out (some ad) n c l HR.out (fun e=>by cases e) (by omega) (by omega) hbz
  have HO:=Lib.hid hown
  have HG:=Lib.hid hgr
  clear hown hgr h
  go_enter Tryz.func82,Tryz.ntmps82
  go_wp2_with (first
   | (at_builtin; refine wpList_ran rfl rfl rfl rfl hrun ?_)
   | go_in)
  clear hrun hbz
  go_wp2
  go_ret
  exact ⟨_,rfl,by simpa using HO.out,HB.out.trans (by
   have:=HG.out
   exact (Below.refl _ _).grown this HB.out.size (fun g e=>by injection e with e; rw [← e]; exact Nat.le_refl _))⟩
theorem clonePack_any (A:Option Addr) (n c:Nat) (l:List MPack) (S:Nat→Prop) (w:World) (h:KRow MPack.vals 2 w S A n l) (hb:n * 40≤140737488355328) (hn:n≤maxLen) :
  Calls Tryz.prog 35 #[.slice A n c] w (OwnPost w 60 2 n (l.flatMap MPack.vals)):=by
 have qN:∀ (w:World) (a:Option Addr) (n c n' c':Nat),(binOp .eql 22 (.slice a n c) (.slice none n' c')).run Tryz.prog w=.ok (.bool a.isNone) w:=fun w a n c n' c'=>Lib.run_eql_slice_nil w _ _ a n c n' c' Tryz.underlying22
 cases A with
 | none =>
  obtain ⟨rfl,rfl⟩:=h.nil
  go_enter Tryz.func35,Tryz.ntmps35
  go_wp2
  go_ret
  exact ⟨_,rfl,World.ownsRow_nil _ _ _ _,Below.refl _ _⟩
 | some ad =>
  have H0:Hid ((w.alloc (.cells #[] 60)).ownsRow w.heap.size 60 2 (.slice (some ⟨w.heap.size,0,none⟩) 0 0) 0 []):=World.ownsRow_made w #[] 0 (Nat.le_refl _) (Nat.zero_le _) rfl
  have HB:Hid (Below w.heap.size w (w.alloc (.cells #[] 60))):=(Below.refl _ _).alloc (Nat.le_refl _) _
  have HR:Hid (KRow MPack.vals 2 (w.alloc (.cells #[] 60)) S (some ad) n l):=h.keep (KeepS.of_below HB.out)
  have hbz:w.heap.size≤(w.alloc (.cells #[] 60)).heap.size:=HB.out.size
  obtain ⟨v',w',hrun,hown,hgr⟩:=KR.run_append_k (vals:=MPack.vals) (k:=2) (bytes:=40) (T:=22) (E:=60) Tryz.underlying22 infoPack rfl (fun _=>rfl) (by omega) onePack _ 22 w.heap.size _ 0 [] H0.out (some ad) n c l HR.out (fun e=>by cases e) (by omega) (by omega) hbz
  have HO:=Lib.hid hown
  have HG:=Lib.hid hgr
  clear hown hgr h
  go_enter Tryz.func35,Tryz.ntmps35
  go_wp2_with (first
   | (at_builtin; refine wpList_ran rfl rfl rfl rfl hrun ?_)
   | go_in)
  clear hrun hbz
  go_wp2
  go_ret
  exact ⟨_,rfl,by simpa using HO.out,HB.out.trans (by
   have:=HG.out
   exact (Below.refl _ _).grown this HB.out.size (fun g e=>by injection e with e; rw [← e]; exact Nat.le_refl _))⟩
end Go.Proofs.YtnpjklaaokiikaaGreatDoor.Copy
