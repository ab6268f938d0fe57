/-
  What the theorem of the last text needs of these: PrMath, RgMem, SpMath, IdRows, RgTell. Conditions: as each theorem states.
-/
import Derived.Test.YtnpjklaaokiikaaGreatDoorSvA1
import Derived.Test.YtnpjklaaokiikaaGreatDoorSvA2
import Derived.Test.YtnpjklaaokiikaaGreatDoorSvA4
import Derived.Test.YtnpjklaaokiikaaGreatDoorSvA5
import Derived.Deep.Draws
import Derived.StillTailTactics
import Derived.Deep.QuietTactic
import Derived.BigQuiet
import Derived.Deep.CutBlock
import Derived.Deep.DeepCutAuto
set_option maxRecDepth 100000
set_option maxHeartbeats 25600000
namespace Go.Proofs.YtnpjklaaokiikaaGreatDoor.Prec
open Go.RowKit Num Ident Semver

structure Ordr {T:Type} (f:T→T→Int):Prop where
 flip:∀ x y,f y x=0 - f x y
 trans:∀ x y z,f x y≤0→f y z≤0→f x z≤0
theorem Ordr.self {T:Type} {f:T→T→Int} (h:Ordr f) (x:T):f x x=0:=by have:=h.flip x x; omega
def lex {T:Type} (f g:T→T→Int) (x y:T):Int:=if f x y=0 then g x y else f x y
theorem lex_no {T:Type} {f g:T→T→Int} {x y:T} (h:f x y≠0):lex f g x y=f x y:=by unfold lex; rw [if_neg h]
theorem lex_yes {T:Type} {f g:T→T→Int} {x y:T} (h:f x y=0):lex f g x y=g x y:=by unfold lex; rw [if_pos h]
theorem Ordr.lex {T:Type} {f g:T→T→Int} (hf:Ordr f) (hg:Ordr g):Ordr (lex f g):=by
 refine ⟨fun x y=>?_,fun x y z h1 h2=>?_⟩
 ·have e:=hf.flip x y
  by_cases h:f x y=0
  ·rw [lex_yes h,lex_yes (by omega)]; exact hg.flip x y
  ·rw [lex_no h,lex_no (by omega)]; exact e
 ·have a1:f x y≤0:=by
   by_cases h:f x y=0
   ·omega
   ·rw [lex_no h] at h1; exact h1
  have a2:f y z≤0:=by
   by_cases h:f y z=0
   ·omega
   ·rw [lex_no h] at h2; exact h2
  have a3:=hf.trans x y z a1 a2
  by_cases h:f x z=0
  ·have e1:=hf.flip x z
   have e2:=hf.flip x y
   have e3:=hf.flip y z
   have b1:=hf.trans z x y (by omega) a1
   have b2:=hf.trans y z x a2 (by omega)
   rw [lex_yes h]
   rw [lex_yes (show f x y=0 by omega)] at h1
   rw [lex_yes (show f y z=0 by omega)] at h2
   exact hg.trans x y z h1 h2
  ·rw [lex_no h]; exact a3
theorem Ordr.on {T U:Type} {f:T→T→Int} (h:Ordr f) (k:U→T):Ordr fun x y=>f (k x) (k y):=⟨fun _ _=>h.flip _ _,fun _ _ _=>h.trans _ _ _⟩

theorem ordN_ordr:Ordr ordN:=by
 refine ⟨fun x y=>ordN_flip x y,fun x y z h1 h2=>?_⟩
 rcases ordN_cases x y with ⟨a,b⟩ | ⟨a,b⟩ | ⟨a,b⟩ <;> rcases ordN_cases y z with ⟨c,d⟩ | ⟨c,d⟩ | ⟨c,d⟩ <;> rcases ordN_cases x z with ⟨e,f⟩ | ⟨e,f⟩ | ⟨e,f⟩ <;> omega
theorem bytes_flip:∀ a b:List UInt8,Lib.compareBytes b a=0 - Lib.compareBytes a b
 | [],[]=>rfl
 | [],_ :: _=>rfl
 | _ :: _,[]=>rfl
 | x :: a,y :: b=>by
  unfold Lib.compareBytes
  simp only [UInt8.lt_iff_toNat_lt]
  by_cases h1:x.toNat<y.toNat
  ·rw [if_pos h1,if_neg (show ¬ y.toNat<x.toNat by omega),if_pos h1]; rfl
  ·by_cases h2:y.toNat<x.toNat
   ·rw [if_pos h2,if_neg h1,if_pos h2]; rfl
   ·rw [if_neg h2,if_neg h1,if_neg h1,if_neg h2]; exact bytes_flip a b
theorem cmpId_flip (a b:List UInt8):cmpId b a=0 - cmpId a b:=by
 unfold cmpId
 by_cases ha:numeric a=true
 ·by_cases hb:numeric b=true
  ·have e1:=ordN_flip (val a) (val b)
   have e2:=ordN_flip a.length b.length
   simp only [if_pos ha,if_pos hb]
   by_cases h:ordN (val a) (val b)=0
   ·rw [if_pos h,if_pos (by omega)]; exact e2
   ·rw [if_neg h,if_neg (by omega)]; exact e1
  ·simp only [if_pos ha,if_neg hb]; rfl
 ·by_cases hb:numeric b=true
  ·simp only [if_neg ha,if_pos hb]; rfl
  ·simp only [if_neg ha,if_neg hb]; exact bytes_flip a b

theorem rows_flip:∀ r s:List (List UInt8),cmpRows s r=0 - cmpRows r s
 | [],s=>by rw [cmpRows_nil,cmpRows_nil']; exact ordN_flip 0 s.length
 | a :: r,[]=>by rw [cmpRows_nil,cmpRows_nil']; exact ordN_flip _ 0
 | a :: r,b :: s=>by
  have e:=cmpId_flip a b
  by_cases h:cmpId a b=0
  ·rw [cmpRows_same h,cmpRows_same (by omega)]; exact rows_flip r s
  ·rw [cmpRows_diff h,cmpRows_diff (by omega)]; exact e
theorem rows_nil_le (s:List (List UInt8)):cmpRows [] s≤0:=by
 rw [cmpRows_nil]; rcases ordN_cases 0 s.length with h | h | h <;> omega
theorem rows_trans:∀ r s t:List (List UInt8),cmpRows r s≤0→cmpRows s t≤0→cmpRows r t≤0
 | [],_,t,_,_=>rows_nil_le t
 | a :: r,[],_,h,_=>by
  rw [cmpRows_nil'] at h
  rcases ordN_cases (a :: r).length 0 with h2 | h2 | h2
  ·exact absurd h2.1 (by simp)
  ·exact absurd h2.1 (by simp)
  ·omega
 | a :: r,b :: s,[],_,h=>by
  rw [cmpRows_nil'] at h
  rcases ordN_cases (b :: s).length 0 with h2 | h2 | h2
  ·exact absurd h2.1 (by simp)
  ·exact absurd h2.1 (by simp)
  ·omega
 | a :: r,b :: s,c :: t,h1,h2=>by
  have a1:cmpId a b≤0:=by
   by_cases h:cmpId a b=0
   ·omega
   ·rw [cmpRows_diff h] at h1; exact h1
  have a2:cmpId b c≤0:=by
   by_cases h:cmpId b c=0
   ·omega
   ·rw [cmpRows_diff h] at h2; exact h2
  have a3:=cmpId_trans a b c a1 a2
  by_cases h:cmpId a c=0
  ·have e1:=cmpId_flip a c
   have e2:=cmpId_flip a b
   have e3:=cmpId_flip b c
   have b1:=cmpId_trans c a b (by omega) a1
   have b2:=cmpId_trans b c a a2 (by omega)
   rw [cmpRows_same h]
   rw [cmpRows_same (show cmpId a b=0 by omega)] at h1
   rw [cmpRows_same (show cmpId b c=0 by omega)] at h2
   exact rows_trans r s t h1 h2
  ·rw [cmpRows_diff h]; exact a3
theorem rows_ordr:Ordr cmpRows:=⟨rows_flip,rows_trans⟩

def noneN (x:List (List UInt8)):Nat:=if x.length=0 then 1 else 0
def cmpPre:List (List UInt8)→List (List UInt8)→Int:=lex (fun x y=>ordN (noneN x) (noneN y)) cmpRows
theorem cmpPre_one {x y:List (List UInt8)} (h1:x.length=0) (h2:y.length≠0):cmpPre x y=1:=by
 have e:ordN (noneN x) (noneN y)=1:=by unfold noneN; rw [if_pos h1,if_neg h2]; rfl
 unfold cmpPre; rw [lex_no (by rw [e]; omega)]; exact e
theorem cmpPre_two {x y:List (List UInt8)} (h1:x.length≠0) (h2:y.length=0):cmpPre x y=-1:=by
 have e:ordN (noneN x) (noneN y)=-1:=by unfold noneN; rw [if_neg h1,if_pos h2]; rfl
 unfold cmpPre; rw [lex_no (by rw [e]; omega)]; exact e
theorem cmpPre_rows {x y:List (List UInt8)} (h:x.length=0↔y.length=0):cmpPre x y=cmpRows x y:=by
 have e:ordN (noneN x) (noneN y)=0:=by
  unfold noneN
  by_cases h1:x.length=0
  ·rw [if_pos h1,if_pos (h.1 h1)]; rfl
  ·rw [if_neg h1,if_neg (fun h2=>h1 (h.2 h2))]; rfl
 unfold cmpPre; exact lex_yes e
def cmpCore:Ver→Ver→Int:=lex (fun u v=>ordN u.a v.a) (lex (fun u v=>ordN u.b v.b) fun u v=>ordN u.c v.c)
theorem ordN_zero_iff (x y:Nat):ordN x y=0↔x=y:=by rcases ordN_cases x y with h | h | h <;> omega
theorem cmpCore_1 {u v:Ver} (h:u.a≠v.a):cmpCore u v=ordN u.a v.a:=by
 unfold cmpCore; exact lex_no (fun e=>h ((ordN_zero_iff _ _).1 e))
theorem cmpCore_2 {u v:Ver} (h1:u.a=v.a) (h:u.b≠v.b):cmpCore u v=ordN u.b v.b:=by
 unfold cmpCore; refine (lex_yes (f:=fun u v:Ver=>ordN u.a v.a) ((ordN_zero_iff _ _).2 h1)).trans ?_; exact lex_no (fun e=>h ((ordN_zero_iff _ _).1 e))
theorem cmpCore_3 {u v:Ver} (h1:u.a=v.a) (h2:u.b=v.b):cmpCore u v=ordN u.c v.c:=by
 unfold cmpCore; refine (lex_yes (f:=fun u v:Ver=>ordN u.a v.a) ((ordN_zero_iff _ _).2 h1)).trans ?_; exact lex_yes ((ordN_zero_iff _ _).2 h2)
def cmpV:Ver→Ver→Int:=lex cmpCore fun u v=>cmpPre u.pre v.pre
def fullV:Ver→Ver→Int:=lex cmpV fun u v=>cmpRows u.build v.build
theorem core_ordr:Ordr cmpCore:=(ordN_ordr.on Ver.a).lex ((ordN_ordr.on Ver.b).lex (ordN_ordr.on Ver.c))
theorem pre_ordr:Ordr cmpPre:=(ordN_ordr.on noneN).lex rows_ordr
theorem cmpV_ordr:Ordr cmpV:=core_ordr.lex (pre_ordr.on Ver.pre)
theorem fullV_ordr:Ordr fullV:=cmpV_ordr.lex (rows_ordr.on Ver.build)

def bare (v:Ver):Ver:={ v with build:=[] }

def firstV (x y z:Nat):Ver:=⟨x,y,z,[[48]],[]⟩
def endV (x y z i:Nat):Option Ver :=
 if i=0 then (if 9223372036854775807≤x then none else some (firstV (x+1) 0 0))
 else if i=1 then (if 9223372036854775807≤y then none else some (firstV x (y+1) 0))
 else if 9223372036854775807≤z then none else some (firstV x y (z+1))
def placeV (x y:Nat):Nat:=if x≠0 then 0 else if y≠0 then 1 else 2
def caretV (v:Ver):Option Ver:=endV v.a v.b v.c (placeV v.a v.b)
def tildeV (v:Ver):Option Ver:=endV v.a v.b v.c 1
def verOf (o:Option Ver):Ver:=o.getD noVer
theorem end_ahead {v e:Ver} {i:Nat} (h:endV v.a v.b v.c i=some e):cmpV v e=-1:=by
 have k:cmpCore v e=-1:=by
  unfold endV at h
  split at h
  ·split at h
   ·cases h
   ·cases h
    rw [cmpCore_1 (by show v.a≠v.a+1; omega)]; exact ordN_lt (Nat.lt_succ_self v.a)
  ·split at h
   ·split at h
    ·cases h
    ·cases h
     exact (cmpCore_2 (u:=v) (v:=firstV v.a (v.b+1) 0) rfl (by show v.b≠v.b+1; omega)).trans (ordN_lt (Nat.lt_succ_self v.b))
   ·split at h
    ·cases h
    ·cases h
     exact (cmpCore_3 (u:=v) (v:=firstV v.a v.b (v.c+1)) rfl rfl).trans (ordN_lt (Nat.lt_succ_self v.c))
 unfold cmpV
 rw [lex_no (by rw [k]; omega)]; exact k
end Go.Proofs.YtnpjklaaokiikaaGreatDoor.Prec
namespace Go.Proofs.YtnpjklaaokiikaaGreatDoor.Range
open Go.RowKit Num Ident Semver

structure Keep (w w':World):Prop where
 size:w.heap.size≤w'.heap.size
 cell:∀ g o v,w.cell? ⟨g,o,none⟩=some v→((∀ x,v≠.int .i64 x)∨(w.cell? ⟨g,o+1,none⟩).isSome=true)→w'.cell? ⟨g,o,none⟩=some v
theorem block_lt {w:World} {g o:Nat} {v:Value} (h:w.cell? ⟨g,o,none⟩=some v):g<w.heap.size:=World.block_lt_of_cell? w _ h

structure Rd (w:World) (b:Nat) (A:Option Addr) (n c p:Nat):Prop where
 lt:b<w.heap.size
 open_:∀ o,w.frozen? ⟨b,o,none⟩=false
 row:w.cell? ⟨b,0,none⟩=some (.slice A n c)
 at_:w.cell? ⟨b,1,none⟩=some (.int .i64 p)
 end_:w.cell? ⟨b,2,none⟩=none
structure Moved (b:Nat) (w w':World):Prop where
 os:w'.os=w.os
 tape:w'.tape=w.tape
 output:w'.output=w.output
 size:w.heap.size≤w'.heap.size
 block:∀ k,k<w.heap.size→k≠b→w'.heap[k]?=w.heap[k]?
 cell:∀ o,o≠1→w'.cell? ⟨b,o,none⟩=w.cell? ⟨b,o,none⟩
 frozen:∀ o,w'.frozen? ⟨b,o,none⟩=w.frozen? ⟨b,o,none⟩

structure KeepS (S:Nat→Prop) (w w':World):Prop where
 size:w.heap.size≤w'.heap.size
 cell:∀ g o v,S g→w.cell? ⟨g,o,none⟩=some v→w'.cell? ⟨g,o,none⟩=some v
theorem KeepS.of_below {w w':World} {S:Nat→Prop} (h:Below w.heap.size w w'):KeepS S w w':=⟨h.size,fun g o _ _ hc=>(h.cell (p:=⟨g,o,none⟩) (block_lt hc)).trans hc⟩
theorem KeepS.alloc {S:Nat→Prop} (w:World) (o:Obj):KeepS S w (w.alloc o):=KeepS.of_below ((Below.refl _ _).alloc (Nat.le_refl _) o)
def InS (S:Nat→Prop) (A:Option Addr) (n:Nat):Prop:=0<n→∃ b o,A=some ⟨b,o,none⟩∧S b
theorem InS.none_ (S:Nat→Prop) (A:Option Addr):InS S A 0:=fun h=>absurd h (Nat.lt_irrefl _)
theorem srow_keepS {w w':World} {S:Nat→Prop} {A:Option Addr} {n:Nat} {xs:List (List UInt8)} (h:SRow w A n xs) (k:KeepS S w w') (hs:InS S A n):SRow w' A n xs:=by
 refine ⟨h.1,fun h0=>?_⟩
 obtain ⟨b,o,e,hlt,hc⟩:=h.2 h0
 obtain ⟨b',o',e',hb⟩:=hs h0
 rw [e] at e'
 injection e' with e'
 injection e' with e1 e2
 subst e1
 exact ⟨b,o,e,Nat.lt_of_lt_of_le hlt k.size,fun j hj=>k.cell _ _ _ hb (hc j hj)⟩
theorem InS.mono {S S':Nat→Prop} {w:World} {A:Option Addr} {n:Nat} {xs:List (List UInt8)} (h:InS S A n) (hr:SRow w A n xs) (hS:∀ b,S b→b<w.heap.size→S' b):InS S' A n:=fun h0=>by
 obtain ⟨b,o,e,hb⟩:=h h0
 obtain ⟨b',o',e',hlt,_⟩:=hr.2 h0
 rw [e] at e'
 injection e' with e'
 injection e' with e1 e2
 subst e1
 exact ⟨b,o,e,hS b hb hlt⟩
structure FitV (v:Ver):Prop where
 a:v.a<18446744073709551616
 b:v.b<18446744073709551616
 c:v.c<18446744073709551616
 pre:v.pre.length≤maxLen
 build:v.build.length≤maxLen
 pres:∀ x ∈ v.pre,x.length≤maxLen
 builds:∀ x ∈ v.build,x.length≤maxLen
theorem FitV.none:FitV noVer:=⟨by decide,by decide,by decide,Nat.zero_le _,Nat.zero_le _,(fun x h=>by cases h),(fun x h=>by cases h)⟩
structure RV where
 kind:Int
 v:Ver
 A:Option Addr
 c:Nat
 B:Option Addr
 d:Nat
 L:Option Addr
 n:Nat
 e:Nat
instance:Coe RV Value:=⟨fun x=>.agg #[.int .i64 x.kind,.int .u64 x.v.a,.int .u64 x.v.b,.int .u64 x.v.c,.slice x.A x.v.pre.length x.c,.slice x.B x.v.build.length x.d,.slice x.L x.n x.e]⟩
instance:Coe RV Obj:=⟨fun x=>.cells #[.int .i64 x.kind,.int .u64 x.v.a,.int .u64 x.v.b,.int .u64 x.v.c,.slice x.A x.v.pre.length x.c,.slice x.B x.v.build.length x.d,.slice x.L x.n x.e] 55⟩
instance:Inhabited RV:=⟨⟨0,noVer,none,0,none,0,none,0,0⟩⟩
def RV.vals (x:RV):List Value:=[.int .i64 x.kind,.int .u64 x.v.a,.int .u64 x.v.b,.int .u64 x.v.c,.slice x.A x.v.pre.length x.c,.slice x.B x.v.build.length x.d,.slice x.L x.n x.e]
theorem rv_len (x:RV):x.vals.length=7:=rfl
theorem rv_one (x:RV):∀ u ∈ x.vals,u.oneCell'=true:=by
 intro u hu; simp only [RV.vals,List.mem_cons,List.mem_nil_iff,or_false] at hu
 rcases hu with rfl | rfl | rfl | rfl | rfl | rfl | rfl <;> rfl
def CellsAt (w:World) (b o:Nat) (x:RV):Prop:=∀ i u,x.vals[i]?=some u→w.cell? ⟨b,o+i,none⟩=some u
theorem CellsAt.keep {w w':World} {S:Nat→Prop} {b o:Nat} {x:RV} (h:CellsAt w b o x) (k:KeepS S w w') (hb:S b):CellsAt w' b o x:=fun i u hu=>k.cell _ _ _ hb (h i u hu)
theorem CellsAt.lt {w:World} {b o:Nat} {x:RV} (h:CellsAt w b o x):b<w.heap.size:=block_lt (h 0 _ rfl)
inductive Lies (w:World) (S:Nat→Prop):Rng→RV→Prop
 | mk (x:RV) (l:List Rng) (f:Nat→RV) (hn:x.n=l.length) (he:x.n≤x.e) (pre:SRow w x.A x.v.pre.length x.v.pre) (build:SRow w x.B x.v.build.length x.v.build) (ip:InS S x.A x.v.pre.length) (ib:InS S x.B x.v.build.length) (cp:x.v.pre.length≤x.c) (cb:x.v.build.length≤x.d)
   (fit:FitV x.v) (nil:x.L=none→x.e=0)
   (cells:0<x.n→∃ b o,x.L=some ⟨b,o,none⟩∧S b∧∀ j,j<x.n→CellsAt w b (o+j * 7) (f j)) (subs:∀ j,j<x.n→Lies w S (l.getD j noRng) (f j)):Lies w S (.mk x.kind x.v l) x
theorem Lies.keep {w w':World} {S:Nat→Prop} {r:Rng} {x:RV} (h:Lies w S r x) (k:KeepS S w w'):Lies w' S r x:=by
 induction h with
 | mk x l f hn he pre build ip ib cp cb fit nil cells _ ih =>
  refine Lies.mk x l f hn he (srow_keepS pre k ip) (srow_keepS build k ib) ip ib cp cb fit nil (fun h0=>?_) ih
  obtain ⟨b,o,e,hb,hc⟩:=cells h0
  exact ⟨b,o,e,hb,fun j hj=>(hc j hj).keep k hb⟩
theorem Lies.mono {w:World} {S S':Nat→Prop} {r:Rng} {x:RV} (h:Lies w S r x) (hS:∀ b,S b→b<w.heap.size→S' b):Lies w S' r x:=by
 induction h with
 | mk x l f hn he pre build ip ib cp cb fit nil cells _ ih =>
  refine Lies.mk x l f hn he pre build (ip.mono pre hS) (ib.mono build hS) cp cb fit nil (fun h0=>?_) ih
  obtain ⟨b,o,e,hb,hc⟩:=cells h0
  exact ⟨b,o,e,hS b hb (hc 0 h0).lt,hc⟩
def RgRow (w:World) (S:Nat→Prop) (L:Option Addr) (n:Nat) (l:List Rng):Prop :=
 ∃ f:Nat→RV,l.length=n∧(0<n→∃ b o,L=some ⟨b,o,none⟩∧S b∧∀ j,j<n→CellsAt w b (o+j * 7) (f j))∧∀ j,j<n→Lies w S (l.getD j noRng) (f j)
theorem RgRow.keep {w w':World} {S:Nat→Prop} {L:Option Addr} {n:Nat} {l:List Rng} (h:RgRow w S L n l) (k:KeepS S w w'):RgRow w' S L n l:=by
 obtain ⟨f,h1,h2,h3⟩:=h
 refine ⟨f,h1,fun h0=>?_,fun j hj=>(h3 j hj).keep k⟩
 obtain ⟨b,o,e,hb,hc⟩:=h2 h0
 exact ⟨b,o,e,hb,fun j hj=>(hc j hj).keep k hb⟩
structure Says (w:World) (S:Nat→Prop) (r:Rng) (x:RV):Prop where
 kind:r.kind=x.kind
 ver:r.ver=x.v
 pre:SRow w x.A x.v.pre.length x.v.pre
 build:SRow w x.B x.v.build.length x.v.build
 ip:InS S x.A x.v.pre.length
 ib:InS S x.B x.v.build.length
 cp:x.v.pre.length≤x.c
 cb:x.v.build.length≤x.d
 fit:FitV x.v
 nil:x.L=none→x.e=0
 cap:x.n≤x.e
 subs:RgRow w S x.L x.n r.subs
theorem Lies.says {w:World} {S:Nat→Prop} {r:Rng} {x:RV} (h:Lies w S r x):Says w S r x:=by
 cases h with
 | mk x l f hn he pre build ip ib cp cb fit nil cells subs=>exact ⟨rfl,rfl,pre,build,ip,ib,cp,cb,fit,nil,he,⟨f,hn.symm,cells,subs⟩⟩
theorem Lies.version {w:World} {S:Nat→Prop} (kind:Int) (v:Ver) (A:Option Addr) (c:Nat) (B:Option Addr) (d:Nat) (pre:SRow w A v.pre.length v.pre) (build:SRow w B v.build.length v.build) (ip:InS S A v.pre.length) (ib:InS S B v.build.length) (cp:v.pre.length≤c) (cb:v.build.length≤d) (fit:FitV v) :
  Lies w S (.mk kind v []) ⟨kind,v,A,c,B,d,none,0,0⟩ :=
 Lies.mk ⟨kind,v,A,c,B,d,none,0,0⟩ [] (fun _=>default) rfl (Nat.le_refl _) pre build ip ib cp cb fit (fun _=>rfl) (fun h=>absurd h (Nat.lt_irrefl _)) (fun _ hj=>absurd hj (Nat.not_lt_zero _))
def zeroRV (kind:Int):RV:=⟨kind,noVer,none,0,none,0,none,0,0⟩
theorem Lies.zero (w:World) (S:Nat→Prop) (kind:Int):Lies w S (.mk kind noVer []) (zeroRV kind) :=
 Lies.version kind noVer none 0 none 0 (SRow.none_ _ _) (SRow.none_ _ _) (InS.none_ _ _) (InS.none_ _ _) (Nat.le_refl _) (Nat.le_refl _) FitV.none
def RV.agg (x:RV):Value:=.agg #[x.kind,x.v.a,x.v.b,x.v.c,.slice x.A x.v.pre.length x.c,.slice x.B x.v.build.length x.d,.slice x.L x.n x.e]
theorem CellsAt.cells {w:World} {b o:Nat} {x:RV} (h:CellsAt w b o x):w.cell? ⟨b,o,none⟩=some (.int .i64 x.kind)∧w.cell? ⟨b,o+1,none⟩=some (.int .u64 x.v.a)∧w.cell? ⟨b,o+2,none⟩=some (.int .u64 x.v.b)∧w.cell? ⟨b,o+3,none⟩=some (.int .u64 x.v.c)∧w.cell? ⟨b,o+4,none⟩=some (.slice x.A x.v.pre.length x.c)∧w.cell? ⟨b,o+5,none⟩=some (.slice x.B x.v.build.length x.d)∧w.cell? ⟨b,o+6,none⟩=some (.slice x.L x.n x.e) :=
 ⟨h 0 _ rfl,h 1 _ rfl,h 2 _ rfl,h 3 _ rfl,h 4 _ rfl,h 5 _ rfl,h 6 _ rfl⟩
structure Pl (l:List UInt8) (p:Nat) (s:List UInt8):Prop where
 le:p≤l.length
 eq:s=l.drop p
def RAt (W:World) (g:Nat) (x:RV):Prop:=At7 W g x.kind x.v.a x.v.b x.v.c (.slice x.A x.v.pre.length x.c) (.slice x.B x.v.build.length x.d) (.slice x.L x.n x.e)
theorem RAt.new (w:World) (t:TypeId) (x:RV):RAt (w.alloc (.cells #[x.kind,x.v.a,x.v.b,x.v.c,.slice x.A x.v.pre.length x.c,.slice x.B x.v.build.length x.d,.slice x.L x.n x.e] t)) w.heap.size x:=At7.new w t _ _ _ _ _ _ _
theorem RAt.kept {W W':World} {g B:Nat} {x:RV} (h:RAt W g x) (hb:Below B W W') (hB:g<B):RAt W' g x:=At7.kept h hb hB
end Go.Proofs.YtnpjklaaokiikaaGreatDoor.Range
namespace Go.Proofs.YtnpjklaaokiikaaGreatDoor.Span
open Go.RowKit Num Ident Semver Prec

structure Cut where
 kind:Int
 v:Ver
deriving DecidableEq
structure Sp where
 lo:Cut
 hi:Cut
deriving DecidableEq
def low:Cut:=⟨0,noVer⟩
def high:Cut:=⟨3,noVer⟩
def ofVer (c:Cut):Bool:=decide (c.kind=1∨c.kind=2)
theorem ofVer_iff (c:Cut):ofVer c=true↔c.kind=1∨c.kind=2:=by simp [ofVer]
theorem ofVer_no (c:Cut):ofVer c=false↔¬ (c.kind=1∨c.kind=2):=by rw [← ofVer_iff]; cases ofVer c <;> simp
def right (c:Cut):Bool:=if c.kind=0∨c.kind=3 then sameV c.v noVer else if c.kind=1∨c.kind=2 then goodV c.v && decide (c.v.build.length=0) else false
theorem right_ends {c:Cut} (h:c.kind=0∨c.kind=3):right c=sameV c.v noVer:=by unfold right; rw [if_pos h]
theorem right_ver {c:Cut} (h:c.kind=1∨c.kind=2):right c=(goodV c.v && decide (c.v.build.length=0)):=by unfold right; rw [if_neg (by omega),if_pos h]
theorem right_none {c:Cut} (h1:¬ (c.kind=0∨c.kind=3)) (h2:¬ (c.kind=1∨c.kind=2)):right c=false:=by unfold right; rw [if_neg h1,if_neg h2]
def ordI (x y:Int):Int:=if x<y then -1 else if y<x then 1 else 0
theorem ordI_lt {x y:Int} (h:x<y):ordI x y=-1:=by unfold ordI; rw [if_pos h]
theorem ordI_gt {x y:Int} (h:y<x):ordI x y=1:=by unfold ordI; rw [if_neg (by omega),if_pos h]
theorem ordI_eq {x y:Int} (h:x=y):ordI x y=0:=by unfold ordI; rw [if_neg (by omega),if_neg (by omega)]
theorem ordI_cases (x y:Int):(x<y∧ordI x y=-1)∨(x=y∧ordI x y=0)∨(y<x∧ordI x y=1):=by
 rcases Int.lt_trichotomy x y with h | h | h
 ·exact .inl ⟨h,ordI_lt h⟩
 ·exact .inr (.inl ⟨h,ordI_eq h⟩)
 ·exact .inr (.inr ⟨h,ordI_gt h⟩)
theorem ordI_ordr:Ordr ordI:=by
 refine ⟨fun x y=>?_,fun x y z h1 h2=>?_⟩
 ·rcases ordI_cases x y with ⟨a,b⟩ | ⟨a,b⟩ | ⟨a,b⟩ <;> rcases ordI_cases y x with ⟨c,d⟩ | ⟨c,d⟩ | ⟨c,d⟩ <;> omega
 ·rcases ordI_cases x y with ⟨a,b⟩ | ⟨a,b⟩ | ⟨a,b⟩ <;> rcases ordI_cases y z with ⟨c,d⟩ | ⟨c,d⟩ | ⟨c,d⟩ <;> rcases ordI_cases x z with ⟨e,f⟩ | ⟨e,f⟩ | ⟨e,f⟩ <;> omega
def stand (a b:Cut):Int:=if ofVer a=true∧ofVer b=true∧cmpV a.v b.v≠0 then cmpV a.v b.v else ordI a.kind b.kind
def cmpC (a b:Cut):Int:=if right a=true∧right b=true then stand a b else ordI a.kind b.kind
theorem cmpC_right {a b:Cut} (h1:right a=true) (h2:right b=true):cmpC a b=stand a b:=by unfold cmpC; rw [if_pos ⟨h1,h2⟩]
def kc (c:Cut):Int:=if ofVer c=true then 1 else c.kind
def vk (c:Cut):Ver:=if ofVer c=true then c.v else noVer
theorem stand_lex (a b:Cut):stand a b=lex (fun x y=>ordI (kc x) (kc y)) (lex (fun x y=>cmpV (vk x) (vk y)) fun x y=>ordI x.kind y.kind) a b:=by
 unfold stand
 by_cases h1:ofVer a=true
 ·by_cases h2:ofVer b=true
  ·have e1:ordI (kc a) (kc b)=0:=ordI_eq (by unfold kc; rw [if_pos h1,if_pos h2])
   have e2:cmpV (vk a) (vk b)=cmpV a.v b.v:=by unfold vk; rw [if_pos h1,if_pos h2]
   refine Eq.trans ?_ (lex_yes (f:=fun x y=>ordI (kc x) (kc y)) e1).symm
   by_cases h3:cmpV a.v b.v=0
   ·rw [if_neg (fun h=>h.2.2 h3)]
    exact (lex_yes (f:=fun x y=>cmpV (vk x) (vk y)) (g:=fun x y:Cut=>ordI x.kind y.kind) (by show cmpV (vk a) (vk b)=0; rw [e2]; exact h3)).symm
   ·rw [if_pos ⟨h1,h2,h3⟩,← e2]
    exact (lex_no (f:=fun x y=>cmpV (vk x) (vk y)) (g:=fun x y:Cut=>ordI x.kind y.kind) (by show cmpV (vk a) (vk b)≠0; rw [e2]; exact h3)).symm
  ·rw [if_neg (fun h=>h2 h.2.1)]
   have ha:=(ofVer_iff a).1 h1
   have hb:=(ofVer_no b).1 (by simpa using h2)
   have e1:kc a=1:=by unfold kc; rw [if_pos h1]
   have e2:kc b=b.kind:=by unfold kc; rw [if_neg h2]
   have e3:ordI (kc a) (kc b)=ordI a.kind b.kind:=by
    rw [e1,e2]
    rcases ordI_cases 1 b.kind with ⟨c,d⟩ | ⟨c,d⟩ | ⟨c,d⟩ <;> rcases ordI_cases a.kind b.kind with ⟨e,f⟩ | ⟨e,f⟩ | ⟨e,f⟩ <;> omega
   refine Eq.trans e3.symm (lex_no (f:=fun x y=>ordI (kc x) (kc y)) ?_).symm
   show ordI (kc a) (kc b)≠0
   rw [e3]; rcases ordI_cases a.kind b.kind with ⟨e,f⟩ | ⟨e,f⟩ | ⟨e,f⟩ <;> omega
 ·rw [if_neg (fun h=>h1 h.1)]
  have ha:=(ofVer_no a).1 (by simpa using h1)
  have e1:kc a=a.kind:=by unfold kc; rw [if_neg h1]
  have e0:vk a=noVer:=by unfold vk; rw [if_neg h1]
  by_cases h2:ofVer b=true
  ·have hb:=(ofVer_iff b).1 h2
   have e2:kc b=1:=by unfold kc; rw [if_pos h2]
   have e3:ordI (kc a) (kc b)=ordI a.kind b.kind:=by
    rw [e1,e2]
    rcases ordI_cases a.kind 1 with ⟨c,d⟩ | ⟨c,d⟩ | ⟨c,d⟩ <;> rcases ordI_cases a.kind b.kind with ⟨e,f⟩ | ⟨e,f⟩ | ⟨e,f⟩ <;> omega
   refine Eq.trans e3.symm (lex_no (f:=fun x y=>ordI (kc x) (kc y)) ?_).symm
   show ordI (kc a) (kc b)≠0
   rw [e3]; rcases ordI_cases a.kind b.kind with ⟨e,f⟩ | ⟨e,f⟩ | ⟨e,f⟩ <;> omega
  ·have e2:kc b=b.kind:=by unfold kc; rw [if_neg h2]
   have e4:vk b=noVer:=by unfold vk; rw [if_neg h2]
   by_cases h3:ordI (kc a) (kc b)=0
   ·refine Eq.trans ?_ (lex_yes (f:=fun x y=>ordI (kc x) (kc y)) h3).symm
    exact (lex_yes (f:=fun x y=>cmpV (vk x) (vk y)) (g:=fun x y:Cut=>ordI x.kind y.kind) (by show cmpV (vk a) (vk b)=0; rw [e0,e4]; exact cmpV_ordr.self noVer)).symm
   ·refine Eq.trans ?_ (lex_no (f:=fun x y=>ordI (kc x) (kc y)) h3).symm
    show ordI a.kind b.kind=ordI (kc a) (kc b)
    rw [e1,e2]
theorem stand_ordr:Ordr stand:=by
 have h:stand=lex (fun x y=>ordI (kc x) (kc y)) (lex (fun x y=>cmpV (vk x) (vk y)) fun x y=>ordI x.kind y.kind):=by
  funext a b; exact stand_lex a b
 rw [h]
 exact (ordI_ordr.on kc).lex ((cmpV_ordr.on vk).lex (ordI_ordr.on Cut.kind))
theorem stand_flip (a b:Cut):stand b a=0 - stand a b:=stand_ordr.flip a b
theorem stand_self (a:Cut):stand a a=0:=stand_ordr.self a
theorem le_le {a b c:Cut} (h1:stand a b≤0) (h2:stand b c≤0):stand a c≤0:=stand_ordr.trans a b c h1 h2
theorem le_lt {a b c:Cut} (h1:stand a b≤0) (h2:stand b c<0):stand a c<0:=by
 have h3:=le_le h1 (show stand b c≤0 by omega)
 rcases Int.lt_or_eq_of_le h3 with h | h
 ·exact h
 ·have h4:=stand_flip a c
  have h5:=le_le (show stand c a≤0 by omega) h1
  have h6:=stand_flip b c
  omega
theorem lt_le {a b c:Cut} (h1:stand a b<0) (h2:stand b c≤0):stand a c<0:=by
 have h3:=le_le (show stand a b≤0 by omega) h2
 rcases Int.lt_or_eq_of_le h3 with h | h
 ·exact h
 ·have h4:=stand_flip a c
  have h5:=le_le h2 (show stand c a≤0 by omega)
  have h6:=stand_flip a b
  omega
theorem lt_lt {a b c:Cut} (h1:stand a b<0) (h2:stand b c<0):stand a c<0:=le_lt (by omega) h2
theorem not_lt {a b:Cut} (h:¬ stand a b<0):stand b a≤0:=by have:=stand_flip a b; omega
theorem not_le {a b:Cut} (h:¬ stand a b≤0):stand b a<0:=by have:=stand_flip a b; omega
theorem lt_not {a b:Cut} (h:stand a b<0):¬ stand b a≤0:=by have:=stand_flip a b; omega
theorem le_not {a b:Cut} (h:stand a b≤0):¬ stand b a<0:=by have:=stand_flip a b; omega
theorem like_flip {a b:Cut} (h:stand a b=0):stand b a=0:=by have:=stand_flip a b; omega

def inOne (s:Sp) (c:Cut):Prop:=stand s.lo c≤0∧stand c s.hi<0
def inS (l:List Sp) (c:Cut):Prop:=∃ s ∈ l,inOne s c
def cnt (s:Sp):Bool:=right s.lo && (right s.hi && decide (stand s.lo s.hi<0))
theorem cnt_iff (s:Sp):cnt s=true↔right s.lo=true∧right s.hi=true∧stand s.lo s.hi<0:=by simp [cnt]
def inR (l:List Sp) (c:Cut):Prop:=∃ s ∈ l,cnt s=true∧inOne s c
structure Norm (l:List Sp):Prop where
 cnt:∀ s ∈ l,cnt s=true
 gap:l.Pairwise fun s t=>stand s.hi t.lo<0
theorem Norm.nil:Norm []:=⟨(fun s h=>by cases h),List.Pairwise.nil⟩
theorem Norm.tail {s:Sp} {l:List Sp} (h:Norm (s :: l)):Norm l:=⟨fun t ht=>h.cnt t (List.mem_cons_of_mem _ ht),(List.pairwise_cons.1 h.gap).2⟩
theorem Norm.ahead {s:Sp} {l:List Sp} (h:Norm (s :: l)):∀ t ∈ l,stand s.hi t.lo<0:=(List.pairwise_cons.1 h.gap).1
theorem Norm.inR {l:List Sp} (h:Norm l) (c:Cut):inR l c↔inS l c:=⟨fun ⟨s,hs,_,hi⟩=>⟨s,hs,hi⟩,fun ⟨s,hs,hi⟩=>⟨s,hs,h.cnt s hs,hi⟩⟩
inductive Like:List Sp→List Sp→Prop
 | nil:Like [] []
 | cons {s t:Sp} {l m:List Sp}:stand s.lo t.lo=0→stand s.hi t.hi=0→Like l m→Like (s :: l) (t :: m)

theorem sameV_none {v:Ver} (h:sameV v noVer=true):v=noVer:=by
 unfold sameV at h
 rw [Bool.and_eq_true,decide_eq_true_eq,Bool.and_eq_true,sameB_iff,sameB_iff] at h
 obtain ⟨⟨h1,h2,h3⟩,h4,h5⟩:=h
 cases v; simp only [noVer] at *; subst h1; subst h2; subst h3; subst h4; subst h5; rfl
theorem good_len (pre:Bool):∀ (xs:List (List UInt8)) (i:Nat),i≤16→goodFrom pre xs i=true→i+xs.length≤16
 | [],i,hi,_=>by simpa using hi
 | x :: r,i,hi,h=>by
  rw [goodFrom] at h
  simp only [Bool.and_eq_true,beq_iff_eq] at h
  have h1:=(fault_pos h.1.1).2.2
  have:=good_len pre r (i+1) (by omega) h.2
  simp; omega
theorem right_few {c:Cut} (h:right c=true):c.v.pre.length≤16∧c.v.build=[]:=by
 by_cases h1:c.kind=0∨c.kind=3
 ·rw [right_ends h1] at h
  rw [sameV_none h]; exact ⟨by simp [noVer],rfl⟩
 ·by_cases h2:c.kind=1∨c.kind=2
  ·rw [right_ver h2,Bool.and_eq_true,decide_eq_true_eq] at h
   refine ⟨?_,List.eq_nil_of_length_eq_zero h.2⟩
   have hg:=h.1
   unfold goodV at hg
   rw [Bool.and_eq_true,Bool.and_eq_true] at hg
   have:=good_len true c.v.pre 0 (by omega) hg.2.1
   omega
  ·rw [right_none h1 h2] at h; cases h
theorem right_bare {c:Cut} (h:right c=true):bare c.v=c.v:=by
 have:=(right_few h).2
 unfold bare; rw [← this]
theorem low_right:right low=true:=by rw [right_ends (.inl rfl)]; exact sameV_self noVer
theorem high_right:right high=true:=by rw [right_ends (.inr rfl)]; exact sameV_self noVer
theorem low_high:stand low high<0:=by
 unfold stand; rw [if_neg (by rintro ⟨h,_⟩; exact absurd h (by decide))]; exact (show (-1:Int)<0 by omega)
theorem right_kind {c:Cut} (h:right c=true):c.kind=0∨c.kind=1∨c.kind=2∨c.kind=3:=by
 by_cases h1:c.kind=0∨c.kind=3
 ·omega
 ·by_cases h2:c.kind=1∨c.kind=2
  ·omega
  ·rw [right_none h1 h2] at h; cases h
theorem stand_kind {a b:Cut} (h:¬ (ofVer a=true∧ofVer b=true)):stand a b=ordI a.kind b.kind:=by
 unfold stand; rw [if_neg (fun k=>h ⟨k.1,k.2.1⟩)]
theorem low_le {c:Cut} (h:right c=true):stand low c≤0:=by
 rw [stand_kind (by rintro ⟨h,_⟩; exact absurd h (by decide))]
 have:=right_kind h
 have e:low.kind=0:=rfl
 rcases ordI_cases low.kind c.kind with ⟨a,b⟩ | ⟨a,b⟩ | ⟨a,b⟩ <;> omega
theorem le_high {c:Cut} (h:right c=true):stand c high≤0:=by
 rw [stand_kind (by rintro ⟨_,h⟩; exact absurd h (by decide))]
 have:=right_kind h
 have e:high.kind=3:=rfl
 rcases ordI_cases c.kind high.kind with ⟨a,b⟩ | ⟨a,b⟩ | ⟨a,b⟩ <;> omega

def aheadOf (v:Ver):Cut:=⟨1,bare v⟩
def behindOf (v:Ver):Cut:=⟨2,bare v⟩
theorem ahead_behind (v:Ver):stand (aheadOf v) (behindOf v)<0:=by
 have h:cmpV (bare v) (bare v)=0:=cmpV_ordr.self _
 unfold stand
 rw [if_neg (fun k=>k.2.2 h)]; exact (show (-1:Int)<0 by omega)
theorem behind_le (c:Cut) (v:Ver):stand (aheadOf v) c<0↔stand (behindOf v) c≤0:=by
 constructor
 ·intro hc
  by_cases hv:ofVer c=true
  ·have hk:=(ofVer_iff c).1 hv
   by_cases h0:cmpV (bare v) c.v=0
   ·have e1:stand (aheadOf v) c=ordI 1 c.kind:=by unfold stand; rw [if_neg (fun k=>k.2.2 h0)]; rfl
    have e2:stand (behindOf v) c=ordI 2 c.kind:=by unfold stand; rw [if_neg (fun k=>k.2.2 h0)]; rfl
    rw [e1] at hc
    rw [e2]
    rcases ordI_cases 1 c.kind with ⟨a,b⟩ | ⟨a,b⟩ | ⟨a,b⟩ <;> rcases ordI_cases 2 c.kind with ⟨e,f⟩ | ⟨e,f⟩ | ⟨e,f⟩ <;> omega
   ·have e1:stand (aheadOf v) c=cmpV (bare v) c.v:=by unfold stand; rw [if_pos ⟨rfl,hv,h0⟩]; rfl
    have e2:stand (behindOf v) c=cmpV (bare v) c.v:=by unfold stand; rw [if_pos ⟨rfl,hv,h0⟩]; rfl
    omega
  ·have hk:=(ofVer_no c).1 (by simpa using hv)
   rw [stand_kind (fun k=>hv k.2)] at hc ⊢
   have e1:(aheadOf v).kind=1:=rfl
   have e2:(behindOf v).kind=2:=rfl
   rcases ordI_cases (aheadOf v).kind c.kind with ⟨a,b⟩ | ⟨a,b⟩ | ⟨a,b⟩ <;> rcases ordI_cases (behindOf v).kind c.kind with ⟨e,f⟩ | ⟨e,f⟩ | ⟨e,f⟩ <;> omega
 ·intro hc
  exact lt_le (ahead_behind v) hc

end Go.Proofs.YtnpjklaaokiikaaGreatDoor.Span
namespace Go.Proofs.YtnpjklaaokiikaaGreatDoor.Ident
open Go.RowKit Num

theorem drop_texts (xs:List (List UInt8)) (k:Nat) (h:k<xs.length):xs.drop k=xs.getD k [] :: xs.drop (k+1):=by
 rw [List.drop_eq_getElem_cons h]; simp [List.getD,List.getElem?_eq_getElem h]
theorem getD_mem (xs:List (List UInt8)) (k:Nat) (h:k<xs.length):xs.getD k [] ∈ xs:=by
 simp [List.getD,List.getElem?_eq_getElem h]
theorem ordN_zero {a b:Nat} (h:a≤b):ordN 0 (b - a)=ordN a b:=by
 rcases Nat.lt_or_ge a b with h1 | h1
 ·rw [ordN_lt h1,ordN_lt (by omega)]
 ·rw [ordN_eq (by omega),ordN_eq (by omega)]
theorem ordN_zero' {a b:Nat} (h:b≤a):ordN (a - b) 0=ordN a b:=by
 rcases Nat.lt_or_ge b a with h1 | h1
 ·rw [ordN_gt h1,ordN_gt (by omega)]
 ·rw [ordN_eq (by omega),ordN_eq (by omega)]
theorem rows_end {xs ys:List (List UInt8)} {k:Nat} (h1:k≤xs.length) (h2:k≤ys.length) (h:k=xs.length∨k=ys.length):cmpRows (xs.drop k) (ys.drop k)=ordN xs.length ys.length:=by
 rcases h with h | h
 ·subst h
  rw [List.drop_eq_nil_of_le (Nat.le_refl _),cmpRows_nil,List.length_drop]; exact ordN_zero h2
 ·subst h
  rw [List.drop_eq_nil_of_le (Nat.le_refl ys.length),cmpRows_nil',List.length_drop]; exact ordN_zero' h1

def RowsJ (w:World) (A:Option Addr) (a ca:Nat) (B:Option Addr) (b cb:Nat) (g:Value) (xs ys:List (List UInt8)) (a':Act) (w':World):Prop :=
 ∃ (k:Nat) (u8 u9 u10 u11 u12 u13 u14 u15 u16 u17 u18 u19 u20 u21 u22 u23 u24 u25 u26 u27 u28 u29 u30 u31 u32 u33 u34 u35 u36 u37 u38:Value),BelowD w.heap.size w w'∧k≤a∧k≤b∧cmpRows (xs.drop k) (ys.drop k)=cmpRows xs ys ∧
  a'={ tmps:=#[.slice A a ca,.slice B b cb,g,undef,undef,undef,.int .i64 0,.int .i64 k,u8,u9,u10,u11,u12,u13,u14,u15,u16,u17,u18,u19,u20,u21,u22,u23,u24,u25,u26,u27,u28,u29,u30,u31,u32,u33,u34,u35,u36,u37,u38],defers:=[] }
def RowsM (n:Nat) (a':Act) (_:World):Nat:=n - (intOf (a'.tmps.getD 7 undef)).toNat

theorem rowsG_anyD (A:Option Addr) (a ca:Nat) (xs:List (List UInt8)) (B:Option Addr) (b cb:Nat) (ys:List (List UInt8)) (w:World) (hA:SRow w A a xs) (hB:SRow w B b ys)
  (ha:a≤maxLen) (hb:b≤maxLen) (hx:∀ x ∈ xs,x.length≤maxLen) (hy:∀ y ∈ ys,y.length≤maxLen) :
  Calls Tryz.prog 198 #[.slice A a ca,.slice B b cb,.func (.func 199) #[] #[]] w fun e w'=>e=.returned (.int .i64 (cmpRows xs ys))∧BelowD w.heap.size w w':=by
 unfold maxLen at ha hb
 have HA:=Lib.hid hA
 have HB:=Lib.hid hB
 have HX:=Lib.hid hx
 have HY:=Lib.hid hy
 have HLA:=Lib.hid hA.1
 have HLB:=Lib.hid hB.1
 clear hA hB hx hy
 go_enter Tryz.func198,Tryz.ntmps198
 go_wp2
 refine wp_scope_back 0 (RowsJ w A a ca B b cb (.func (.func 199) #[] #[]) xs ys) (RowsM a) rfl ?_ ?_
 ·rintro a' w1 ⟨k,u8,u9,u10,u11,u12,u13,u14,u15,u16,u17,u18,u19,u20,u21,u22,u23,u24,u25,u26,u27,u28,u29,u30,u31,u32,u33,u34,u35,u36,u37,u38,hb1,hk1,hk2,hgo,rfl⟩
  have HB1:=Lib.hid hb1
  have HG:=Lib.hid hgo
  clear hb1 hgo
  have hz1:=HB1.out.size
  have HE:Hid (k=a∨k=b→cmpRows xs ys=ordN a b):=fun h=>by
   rw [← HG.out,rows_end (by rw [HLA.out]; exact hk1) (by rw [HLB.out]; exact hk2) (by rw [HLA.out,HLB.out]; exact h),HLA.out,HLB.out]
  by_cases h1:k=a
  ·have HE2:=Lib.hid (HE.out (.inl h1))
   have hb1:((k:Int) == (a:Int))=true:=by simp [h1]
   clear h1 HE
   go_wp2_with fail
   refine (cmp_any _ _ _).mono ?_
   rintro e w' ⟨rfl,rfl⟩
   go_wp2
   simp only [Exit.jump]
   go_ret
   exact ⟨by rw [HE2.out]; rfl,HB1.out⟩
  by_cases h2:k=b
  ·have HE2:=Lib.hid (HE.out (.inr h2))
   have hb1:((k:Int) == (a:Int))=false:=by simp; omega
   have hb2:((k:Int) == (b:Int))=true:=by simp [h2]
   clear h1 h2 HE
   go_wp2_with fail
   refine (cmp_any _ _ _).mono ?_
   rintro e w' ⟨rfl,rfl⟩
   go_wp2
   simp only [Exit.jump]
   go_ret
   exact ⟨by rw [HE2.out]; rfl,HB1.out⟩
  have hb1:((k:Int) == (a:Int))=false:=by simp; omega
  have hb2:((k:Int) == (b:Int))=false:=by simp; omega
  have hka:k<a:=by omega
  have hkb:k<b:=by omega
  clear h1 h2 HE
  obtain ⟨g1,o1,rfl,hg1,hc1⟩:=(HA.out.kept HB1.out.toBelow).2 (by omega)
  obtain ⟨g2,o2,rfl,hg2,hc2⟩:=(HB.out.kept HB1.out.toBelow).2 (by omega)
  have hx1:=hc1 k hka
  have hx2:=hc2 k hkb
  clear hc1 hc2
  have HZ1:=Lib.hid (HX.out _ (getD_mem xs k (by rw [HLA.out]; exact hka)))
  have HZ2:=Lib.hid (HY.out _ (getD_mem ys k (by rw [HLB.out]; exact hkb)))
  have HD:Hid (cmpRows xs ys=if cmpId (xs.getD k []) (ys.getD k [])=0 then cmpRows (xs.drop (k+1)) (ys.drop (k+1)) else cmpId (xs.getD k []) (ys.getD k [])):=by
   unfold Hid
   rw [← HG.out,drop_texts xs k (by rw [HLA.out]; exact hka),drop_texts ys k (by rw [HLB.out]; exact hkb),cmpRows]
  generalize xs.getD k []=s at hx1 HZ1 HD
  generalize ys.getD k []=t at hx2 HZ2 HD
  go_wp2
  go_still_tail 9,(by kernel_rfl)
  change wpList _ _ _ _ _ w1.drew
  have HW:=Lib.hid HB1.out.drew
  generalize w1.drew=w2 at HW
  have hz2:=HW.out.size
  obtain ⟨c,hc⟩:∃ c,cmpId s t=c:=⟨_,rfl⟩
  rw [hc] at HD
  have HC:=Lib.hid hc; clear hc
  go_wp2_with fail
  refine (idcmp_anyD (mk s) (mk t) _ (by rw [mk_size]; exact HZ1.out) (by rw [mk_size]; exact HZ2.out)).mono ?_
  rw [mk_list,mk_list,HC.out]
  rintro e w3 ⟨rfl,hb3⟩
  have HB3:=Lib.hid (HW.out.trans (hb3.mono hz2))
  clear hb3
  by_cases hc0:c=0
  ·have HD2:Hid (cmpRows (xs.drop (k+1)) (ys.drop (k+1))=cmpRows xs ys):=by have:=HD.out; rw [if_pos hc0] at this; exact this.symm
   subst hc0
   clear HD
   go_wp2
   go_step3
   rw [show ((k:Int)+1)=((k+1:Nat):Int) from rfl]
   refine ⟨rfl,⟨k+1,_,_,_,_,_,_,_,_,_,_,_,_,_,_,_,_,_,_,_,_,_,_,_,_,_,_,_,_,_,_,_,HB3.out,by omega,by omega,HD2.out,rfl⟩,?_⟩
   simp [RowsM,intOf]; omega
  ·have HD2:Hid (cmpRows xs ys=c):=by have:=HD.out; rw [if_neg hc0] at this; exact this
   have hn:(c == 0)=false:=by simp [hc0]
   have hn2:(c != 0)=true:=by simp [hc0]
   clear HD hc0
   go_wp2
   simp only [Exit.jump]
   go_ret
   exact ⟨by rw [HD2.out]; rfl,HB3.out⟩
 ·intro HP
  go_wp2
  go_step3
  rename_i hK
  exact hK _ _ (HP.out _ _ ⟨0,_,_,_,_,_,_,_,_,_,_,_,_,_,_,_,_,_,_,_,_,_,_,_,_,_,_,_,_,_,_,_,BelowD.refl _ _,by omega,by omega,rfl,rfl⟩)
theorem rows_anyD (A:Option Addr) (a ca:Nat) (xs:List (List UInt8)) (B:Option Addr) (b cb:Nat) (ys:List (List UInt8)) (w:World) (hA:SRow w A a xs) (hB:SRow w B b ys)
  (ha:a≤maxLen) (hb:b≤maxLen) (hx:∀ x ∈ xs,x.length≤maxLen) (hy:∀ y ∈ ys,y.length≤maxLen) :
  Calls Tryz.prog 146 #[.slice A a ca,.slice B b cb] w fun e w'=>e=.returned (.int .i64 (cmpRows xs ys))∧BelowD w.heap.size w w':=by
 have HA:=Lib.hid hA
 have HB:=Lib.hid hB
 have HX:=Lib.hid hx
 have HY:=Lib.hid hy
 have HM:=Lib.hid ha
 have HN:=Lib.hid hb
 clear hA hB hx hy ha hb
 go_enter Tryz.func146,Tryz.ntmps146
 go_wp2_with fail
 refine (rowsG_anyD A a ca xs B b cb ys _ HA.out HB.out HM.out HN.out HX.out HY.out).mono ?_
 rintro e w1 ⟨rfl,hb1⟩
 go_wp2
 go_ret
 exact ⟨rfl,hb1⟩
end Go.Proofs.YtnpjklaaokiikaaGreatDoor.Ident
namespace Go.Proofs.YtnpjklaaokiikaaGreatDoor.Range
open Go.RowKit Num Ident Semver

theorem ofVersion_any (k:Int) (w:World):Calls Tryz.prog 211 #[.int .i64 k] w fun e w'=>e=.returned (.bool (ofVersion k))∧w'=w:=by
 unfold ofVersion
 go_enter Tryz.func211,Tryz.ntmps211
 by_cases h1:1≤k
 ·by_cases h2:k≤8
  ·go_wp2; go_ret
   exact ⟨by simp [h1,h2],rfl⟩
  ·go_wp2; go_ret
   exact ⟨by simp [h2],rfl⟩
 ·go_wp2; go_ret
  exact ⟨by simp; omega,rfl⟩
theorem bracketed_any (o k:Int) (w:World):Calls Tryz.prog 173 #[.int .i64 o,.int .i64 k] w fun e w'=>e=.returned (.bool (bracketed o k))∧w'=w:=by
 unfold bracketed
 go_enter Tryz.func173,Tryz.ntmps173
 by_cases h1:k=10
 ·go_wp2; go_ret
  exact ⟨by simp [h1],rfl⟩
 ·by_cases h2:k=9
  ·by_cases h3:o=10
   ·go_wp2; go_ret
    exact ⟨by simp [h2,h3],rfl⟩
   ·go_wp2; go_ret
    exact ⟨by simp [h2,h3],rfl⟩
  ·go_wp2; go_ret
   exact ⟨by simp [h1,h2],rfl⟩
theorem opens_any (o k:Int) (w:World):Calls Tryz.prog 219 #[.int .i64 o,.int .i64 k] w fun e w'=>e=.returned (.int .i64 (opens o k))∧w'=w:=by
 have HO:Hid (opens o k=(if o=11 then 1 else 0)+(if bracketed o k=true then 1 else 0)):=rfl
 go_enter Tryz.func219,Tryz.ntmps219
 by_cases h1:o=11
 ·subst h1
  go_wp2_with fail
  refine (bracketed_any 11 k _).mono ?_
  rintro e w' ⟨rfl,rfl⟩
  cases hb:bracketed 11 k with
  | true=>go_wp2; go_ret; exact ⟨by rw [HO.out,hb]; rfl,rfl⟩
  | false=>go_wp2; go_ret; exact ⟨by rw [HO.out,hb]; rfl,rfl⟩
 ·go_wp2_with fail
  refine (bracketed_any o k _).mono ?_
  rintro e w' ⟨rfl,rfl⟩
  cases hb:bracketed o k with
  | true=>go_wp2; go_ret; exact ⟨by rw [HO.out,hb,if_neg h1]; rfl,rfl⟩
  | false=>go_wp2; go_ret; exact ⟨by rw [HO.out,hb,if_neg h1]; rfl,rfl⟩
end Go.Proofs.YtnpjklaaokiikaaGreatDoor.Range
