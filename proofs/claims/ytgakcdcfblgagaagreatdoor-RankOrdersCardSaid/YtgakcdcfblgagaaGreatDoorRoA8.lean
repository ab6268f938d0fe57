/-
  What the theorem of the last text needs of these: RgMem, PrRefCmp, SvText. Conditions: as each theorem states.
-/
import Derived.Test.YtgakcdcfblgagaaGreatDoorRoA1
import Derived.Test.YtgakcdcfblgagaaGreatDoorRoA2
import Derived.Test.YtgakcdcfblgagaaGreatDoorRoA3
import Derived.Test.YtgakcdcfblgagaaGreatDoorRoA4
import Derived.Test.YtgakcdcfblgagaaGreatDoorRoA5
import Derived.Test.YtgakcdcfblgagaaGreatDoorRoA6
import Derived.Test.YtgakcdcfblgagaaGreatDoorRoA7
import Derived.Deep.Draws
import Derived.Deep.CutBlock
import Derived.Deep.DeepCutAuto
import Derived.Test.YtgakcdcfblgagaaGreatDoorShelfBuild
set_option maxRecDepth 100000
set_option maxHeartbeats 25600000
namespace Go.Proofs.YtgakcdcfblgagaaGreatDoor.Range
open Go.RowKit Num Ident Semver

structure Keep (w w':World):Prop where
 size:w.heap.size≤w'.heap.size
 cell:∀ g o v,w.cell? ⟨g,o,none⟩=some v→((∀ x,v≠.int .i64 x)∨(w.cell? ⟨g,o+1,none⟩).isSome=true)→w'.cell? ⟨g,o,none⟩=some v
theorem block_lt {w:World} {g o:Nat} {v:Value} (h:w.cell? ⟨g,o,none⟩=some v):g<w.heap.size:=World.block_lt_of_cell? w _ h

structure Rd (w:World) (b:Nat) (A:Option Addr) (n c p:Nat):Prop where
 lt:b<w.heap.size
 open_:∀ o,w.frozen? ⟨b,o,none⟩=false
 row:w.cell? ⟨b,0,none⟩=some (.slice A n c)
 at_:w.cell? ⟨b,1,none⟩=some (.int .i64 p)
 end_:w.cell? ⟨b,2,none⟩=none
structure Moved (b:Nat) (w w':World):Prop where
 os:w'.os=w.os
 tape:w'.tape=w.tape
 output:w'.output=w.output
 size:w.heap.size≤w'.heap.size
 block:∀ k,k<w.heap.size→k≠b→w'.heap[k]?=w.heap[k]?
 cell:∀ o,o≠1→w'.cell? ⟨b,o,none⟩=w.cell? ⟨b,o,none⟩
 frozen:∀ o,w'.frozen? ⟨b,o,none⟩=w.frozen? ⟨b,o,none⟩

structure KeepS (S:Nat→Prop) (w w':World):Prop where
 size:w.heap.size≤w'.heap.size
 cell:∀ g o v,S g→w.cell? ⟨g,o,none⟩=some v→w'.cell? ⟨g,o,none⟩=some v
theorem KeepS.of_below {w w':World} {S:Nat→Prop} (h:Below w.heap.size w w'):KeepS S w w':=⟨h.size,fun g o _ _ hc=>(h.cell (p:=⟨g,o,none⟩) (block_lt hc)).trans hc⟩
theorem KeepS.alloc {S:Nat→Prop} (w:World) (o:Obj):KeepS S w (w.alloc o):=KeepS.of_below ((Below.refl _ _).alloc (Nat.le_refl _) o)
def InS (S:Nat→Prop) (A:Option Addr) (n:Nat):Prop:=0<n→∃ b o,A=some ⟨b,o,none⟩∧S b
theorem InS.none_ (S:Nat→Prop) (A:Option Addr):InS S A 0:=fun h=>absurd h (Nat.lt_irrefl _)
theorem srow_keepS {w w':World} {S:Nat→Prop} {A:Option Addr} {n:Nat} {xs:List (List UInt8)} (h:SRow w A n xs) (k:KeepS S w w') (hs:InS S A n):SRow w' A n xs:=by
 refine ⟨h.1,fun h0=>?_⟩
 obtain ⟨b,o,e,hlt,hc⟩:=h.2 h0
 obtain ⟨b',o',e',hb⟩:=hs h0
 rw [e] at e'
 injection e' with e'
 injection e' with e1 e2
 subst e1
 exact ⟨b,o,e,Nat.lt_of_lt_of_le hlt k.size,fun j hj=>k.cell _ _ _ hb (hc j hj)⟩
theorem InS.mono {S S':Nat→Prop} {w:World} {A:Option Addr} {n:Nat} {xs:List (List UInt8)} (h:InS S A n) (hr:SRow w A n xs) (hS:∀ b,S b→b<w.heap.size→S' b):InS S' A n:=fun h0=>by
 obtain ⟨b,o,e,hb⟩:=h h0
 obtain ⟨b',o',e',hlt,_⟩:=hr.2 h0
 rw [e] at e'
 injection e' with e'
 injection e' with e1 e2
 subst e1
 exact ⟨b,o,e,hS b hb hlt⟩
structure FitV (v:Ver):Prop where
 a:v.a<18446744073709551616
 b:v.b<18446744073709551616
 c:v.c<18446744073709551616
 pre:v.pre.length≤maxLen
 build:v.build.length≤maxLen
 pres:∀ x ∈ v.pre,x.length≤maxLen
 builds:∀ x ∈ v.build,x.length≤maxLen
theorem FitV.none:FitV noVer:=⟨by decide,by decide,by decide,Nat.zero_le _,Nat.zero_le _,(fun x h=>by cases h),(fun x h=>by cases h)⟩
structure RV where
 kind:Int
 v:Ver
 A:Option Addr
 c:Nat
 B:Option Addr
 d:Nat
 L:Option Addr
 n:Nat
 e:Nat
instance:Coe RV Value:=⟨fun x=>.agg #[.int .i64 x.kind,.int .u64 x.v.a,.int .u64 x.v.b,.int .u64 x.v.c,.slice x.A x.v.pre.length x.c,.slice x.B x.v.build.length x.d,.slice x.L x.n x.e]⟩
instance:Coe RV Obj:=⟨fun x=>.cells #[.int .i64 x.kind,.int .u64 x.v.a,.int .u64 x.v.b,.int .u64 x.v.c,.slice x.A x.v.pre.length x.c,.slice x.B x.v.build.length x.d,.slice x.L x.n x.e] 65⟩
instance:Inhabited RV:=⟨⟨0,noVer,none,0,none,0,none,0,0⟩⟩
def RV.vals (x:RV):List Value:=[.int .i64 x.kind,.int .u64 x.v.a,.int .u64 x.v.b,.int .u64 x.v.c,.slice x.A x.v.pre.length x.c,.slice x.B x.v.build.length x.d,.slice x.L x.n x.e]
theorem rv_len (x:RV):x.vals.length=7:=rfl
theorem rv_one (x:RV):∀ u ∈ x.vals,u.oneCell'=true:=by
 intro u hu; simp only [RV.vals,List.mem_cons,List.mem_nil_iff,or_false] at hu
 rcases hu with rfl | rfl | rfl | rfl | rfl | rfl | rfl <;> rfl
def CellsAt (w:World) (b o:Nat) (x:RV):Prop:=∀ i u,x.vals[i]?=some u→w.cell? ⟨b,o+i,none⟩=some u
theorem CellsAt.keep {w w':World} {S:Nat→Prop} {b o:Nat} {x:RV} (h:CellsAt w b o x) (k:KeepS S w w') (hb:S b):CellsAt w' b o x:=fun i u hu=>k.cell _ _ _ hb (h i u hu)
theorem CellsAt.lt {w:World} {b o:Nat} {x:RV} (h:CellsAt w b o x):b<w.heap.size:=block_lt (h 0 _ rfl)
inductive Lies (w:World) (S:Nat→Prop):Rng→RV→Prop
 | mk (x:RV) (l:List Rng) (f:Nat→RV) (hn:x.n=l.length) (he:x.n≤x.e) (pre:SRow w x.A x.v.pre.length x.v.pre) (build:SRow w x.B x.v.build.length x.v.build) (ip:InS S x.A x.v.pre.length) (ib:InS S x.B x.v.build.length) (cp:x.v.pre.length≤x.c) (cb:x.v.build.length≤x.d)
   (fit:FitV x.v) (nil:x.L=none→x.e=0)
   (cells:0<x.n→∃ b o,x.L=some ⟨b,o,none⟩∧S b∧∀ j,j<x.n→CellsAt w b (o+j * 7) (f j)) (subs:∀ j,j<x.n→Lies w S (l.getD j noRng) (f j)):Lies w S (.mk x.kind x.v l) x
theorem Lies.keep {w w':World} {S:Nat→Prop} {r:Rng} {x:RV} (h:Lies w S r x) (k:KeepS S w w'):Lies w' S r x:=by
 induction h with
 | mk x l f hn he pre build ip ib cp cb fit nil cells _ ih =>
  refine Lies.mk x l f hn he (srow_keepS pre k ip) (srow_keepS build k ib) ip ib cp cb fit nil (fun h0=>?_) ih
  obtain ⟨b,o,e,hb,hc⟩:=cells h0
  exact ⟨b,o,e,hb,fun j hj=>(hc j hj).keep k hb⟩
theorem Lies.mono {w:World} {S S':Nat→Prop} {r:Rng} {x:RV} (h:Lies w S r x) (hS:∀ b,S b→b<w.heap.size→S' b):Lies w S' r x:=by
 induction h with
 | mk x l f hn he pre build ip ib cp cb fit nil cells _ ih =>
  refine Lies.mk x l f hn he pre build (ip.mono pre hS) (ib.mono build hS) cp cb fit nil (fun h0=>?_) ih
  obtain ⟨b,o,e,hb,hc⟩:=cells h0
  exact ⟨b,o,e,hS b hb (hc 0 h0).lt,hc⟩
def RgRow (w:World) (S:Nat→Prop) (L:Option Addr) (n:Nat) (l:List Rng):Prop :=
 ∃ f:Nat→RV,l.length=n∧(0<n→∃ b o,L=some ⟨b,o,none⟩∧S b∧∀ j,j<n→CellsAt w b (o+j * 7) (f j))∧∀ j,j<n→Lies w S (l.getD j noRng) (f j)
theorem RgRow.keep {w w':World} {S:Nat→Prop} {L:Option Addr} {n:Nat} {l:List Rng} (h:RgRow w S L n l) (k:KeepS S w w'):RgRow w' S L n l:=by
 obtain ⟨f,h1,h2,h3⟩:=h
 refine ⟨f,h1,fun h0=>?_,fun j hj=>(h3 j hj).keep k⟩
 obtain ⟨b,o,e,hb,hc⟩:=h2 h0
 exact ⟨b,o,e,hb,fun j hj=>(hc j hj).keep k hb⟩
structure Says (w:World) (S:Nat→Prop) (r:Rng) (x:RV):Prop where
 kind:r.kind=x.kind
 ver:r.ver=x.v
 pre:SRow w x.A x.v.pre.length x.v.pre
 build:SRow w x.B x.v.build.length x.v.build
 ip:InS S x.A x.v.pre.length
 ib:InS S x.B x.v.build.length
 cp:x.v.pre.length≤x.c
 cb:x.v.build.length≤x.d
 fit:FitV x.v
 nil:x.L=none→x.e=0
 cap:x.n≤x.e
 subs:RgRow w S x.L x.n r.subs
theorem Lies.says {w:World} {S:Nat→Prop} {r:Rng} {x:RV} (h:Lies w S r x):Says w S r x:=by
 cases h with
 | mk x l f hn he pre build ip ib cp cb fit nil cells subs=>exact ⟨rfl,rfl,pre,build,ip,ib,cp,cb,fit,nil,he,⟨f,hn.symm,cells,subs⟩⟩
theorem Lies.version {w:World} {S:Nat→Prop} (kind:Int) (v:Ver) (A:Option Addr) (c:Nat) (B:Option Addr) (d:Nat) (pre:SRow w A v.pre.length v.pre) (build:SRow w B v.build.length v.build) (ip:InS S A v.pre.length) (ib:InS S B v.build.length) (cp:v.pre.length≤c) (cb:v.build.length≤d) (fit:FitV v) :
  Lies w S (.mk kind v []) ⟨kind,v,A,c,B,d,none,0,0⟩ :=
 Lies.mk ⟨kind,v,A,c,B,d,none,0,0⟩ [] (fun _=>default) rfl (Nat.le_refl _) pre build ip ib cp cb fit (fun _=>rfl) (fun h=>absurd h (Nat.lt_irrefl _)) (fun _ hj=>absurd hj (Nat.not_lt_zero _))
def RV.agg (x:RV):Value:=.agg #[x.kind,x.v.a,x.v.b,x.v.c,.slice x.A x.v.pre.length x.c,.slice x.B x.v.build.length x.d,.slice x.L x.n x.e]
theorem CellsAt.cells {w:World} {b o:Nat} {x:RV} (h:CellsAt w b o x):w.cell? ⟨b,o,none⟩=some (.int .i64 x.kind)∧w.cell? ⟨b,o+1,none⟩=some (.int .u64 x.v.a)∧w.cell? ⟨b,o+2,none⟩=some (.int .u64 x.v.b)∧w.cell? ⟨b,o+3,none⟩=some (.int .u64 x.v.c)∧w.cell? ⟨b,o+4,none⟩=some (.slice x.A x.v.pre.length x.c)∧w.cell? ⟨b,o+5,none⟩=some (.slice x.B x.v.build.length x.d)∧w.cell? ⟨b,o+6,none⟩=some (.slice x.L x.n x.e) :=
 ⟨h 0 _ rfl,h 1 _ rfl,h 2 _ rfl,h 3 _ rfl,h 4 _ rfl,h 5 _ rfl,h 6 _ rfl⟩
structure Pl (l:List UInt8) (p:Nat) (s:List UInt8):Prop where
 le:p≤l.length
 eq:s=l.drop p
def RAt (W:World) (g:Nat) (x:RV):Prop:=At7 W g x.kind x.v.a x.v.b x.v.c (.slice x.A x.v.pre.length x.c) (.slice x.B x.v.build.length x.d) (.slice x.L x.n x.e)
theorem RAt.new (w:World) (t:TypeId) (x:RV):RAt (w.alloc (.cells #[x.kind,x.v.a,x.v.b,x.v.c,.slice x.A x.v.pre.length x.c,.slice x.B x.v.build.length x.d,.slice x.L x.n x.e] t)) w.heap.size x:=At7.new w t _ _ _ _ _ _ _
theorem RAt.kept {W W':World} {g B:Nat} {x:RV} (h:RAt W g x) (hb:Below B W W') (hB:g<B):RAt W' g x:=At7.kept h hb hB
end Go.Proofs.YtgakcdcfblgagaaGreatDoor.Range
namespace Go.Proofs.YtgakcdcfblgagaaGreatDoor.Prec
open Go.RowKit Num Ident Semver

theorem refNums_any (x y:Nat) (w:World):Calls Tryz.prog 128 #[.int .u64 x,.int .u64 y] w fun e w'=>e=.returned (.int .i64 (ordN x y))∧w=w':=by
 rcases Nat.lt_trichotomy x y with h | h | h
 ·have HF:=Lib.hid (ordN_lt h)
  go_enter Tryz.func128,Tryz.ntmps128
  go_wp2
  go_ret
  exact ⟨by rw [HF.out]; rfl,rfl⟩
 ·have HF:=Lib.hid (ordN_eq h)
  subst h
  go_enter Tryz.func128,Tryz.ntmps128
  go_wp2
  go_ret
  exact ⟨by rw [HF.out]; rfl,rfl⟩
 ·have HF:=Lib.hid (ordN_gt h)
  go_enter Tryz.func128,Tryz.ntmps128
  go_wp2
  go_ret
  exact ⟨by rw [HF.out]; rfl,rfl⟩
theorem cmpV_core {u v:Ver} (h:cmpCore u v≠0):cmpV u v=cmpCore u v:=lex_no h
theorem cmpV_pre {u v:Ver} (h1:u.a=v.a) (h2:u.b=v.b) (h3:u.c=v.c):cmpV u v=cmpPre u.pre v.pre:=lex_yes (f:=cmpCore) (by
 unfold cmpCore
 refine (lex_yes (f:=fun u v:Ver=>ordN u.a v.a) ((ordN_zero_iff _ _).2 h1)).trans ?_
 refine (lex_yes (f:=fun u v:Ver=>ordN u.b v.b) ((ordN_zero_iff _ _).2 h2)).trans ?_
 exact (ordN_zero_iff _ _).2 h3)
theorem cmpV_1 {u v:Ver} (h:u.a≠v.a):cmpV u v=ordN u.a v.a:=by
 have e:=cmpCore_1 h
 rw [cmpV_core (by rw [e]; exact fun k=>h ((ordN_zero_iff _ _).1 k)),e]
theorem cmpV_2 {u v:Ver} (h1:u.a=v.a) (h:u.b≠v.b):cmpV u v=ordN u.b v.b:=by
 have e:=cmpCore_2 h1 h
 rw [cmpV_core (by rw [e]; exact fun k=>h ((ordN_zero_iff _ _).1 k)),e]
theorem cmpV_3 {u v:Ver} (h1:u.a=v.a) (h2:u.b=v.b) (h:u.c≠v.c):cmpV u v=ordN u.c v.c:=by
 have e:cmpCore u v=ordN u.c v.c:=by
  unfold cmpCore
  refine (lex_yes (f:=fun u v:Ver=>ordN u.a v.a) ((ordN_zero_iff _ _).2 h1)).trans ?_
  exact lex_yes (f:=fun u v:Ver=>ordN u.b v.b) ((ordN_zero_iff _ _).2 h2)
 rw [cmpV_core (by rw [e]; exact fun k=>h ((ordN_zero_iff _ _).1 k)),e]
theorem pre_none {x y:List (List UInt8)} (h1:x.length=0) (h2:y.length=0):cmpPre x y=0:=by
 obtain rfl:=List.eq_nil_of_length_eq_zero h1
 obtain rfl:=List.eq_nil_of_length_eq_zero h2
 exact pre_ordr.self _
theorem pre_rows {x y:List (List UInt8)} (h1:x.length≠0) (h2:y.length≠0):cmpPre x y=cmpRows x y:=by
 unfold cmpPre; exact lex_yes (f:=fun x y=>ordN (noneN x) (noneN y)) (ordN_eq (by unfold noneN; rw [if_neg h1,if_neg h2]))

theorem refCompare_all (u v:Ver) (A1 A2 B1 B2:Option Addr) (c1 c2 d1 d2:Nat) (w:World) (r1:SRow w A1 u.pre.length u.pre) (q1:SRow w B1 v.pre.length v.pre) (n1:u.pre.length≤maxLen) (n2:v.pre.length≤maxLen) (f1:∀ x ∈ u.pre,x.length≤maxLen) (g1:∀ x ∈ v.pre,x.length≤maxLen) :
  Calls Tryz.prog 72 #[.agg #[u.a,u.b,u.c,.slice A1 u.pre.length c1,.slice A2 u.build.length c2],.agg #[v.a,v.b,v.c,.slice B1 v.pre.length d1,.slice B2 v.build.length d2]] w fun e w'=>e=.returned (.int .i64 (cmpV u v))∧Below w.heap.size w w':=by
 have HBa:Hid (Below w.heap.size w ((w.alloc (.cells #[u.a,u.b,u.c,.slice A1 u.pre.length c1,.slice A2 u.build.length c2] 37)).alloc (.cells #[v.a,v.b,v.c,.slice B1 v.pre.length d1,.slice B2 v.build.length d2] 37))):=((Below.refl _ _).alloc (Nat.le_refl _) _).alloc (by simp) _
 have R1:=Lib.hid (r1.kept HBa.out)
 have Q1:=Lib.hid (q1.kept HBa.out)
 have K1:Hid (At5 ((w.alloc (.cells #[u.a,u.b,u.c,.slice A1 u.pre.length c1,.slice A2 u.build.length c2] 37)).alloc (.cells #[v.a,v.b,v.c,.slice B1 v.pre.length d1,.slice B2 v.build.length d2] 37)) w.heap.size u.a u.b u.c (.slice A1 u.pre.length c1) (.slice A2 u.build.length c2)):=(At5.new w 37 _ _ _ _ _).kept ((Below.refl _ _).alloc (Nat.le_refl _) _) (by simp)
 have K2:Hid (At5 ((w.alloc (.cells #[u.a,u.b,u.c,.slice A1 u.pre.length c1,.slice A2 u.build.length c2] 37)).alloc (.cells #[v.a,v.b,v.c,.slice B1 v.pre.length d1,.slice B2 v.build.length d2] 37)) (w.heap.size+1) v.a v.b v.c (.slice B1 v.pre.length d1) (.slice B2 v.build.length d2)):=by
  have:=At5.new (w.alloc (.cells #[u.a,u.b,u.c,.slice A1 u.pre.length c1,.slice A2 u.build.length c2] 37)) 37 v.a v.b v.c (.slice B1 v.pre.length d1) (.slice B2 v.build.length d2)
  rw [size_alloc] at this; exact this
 have N1:=Lib.hid n1
 have N2:=Lib.hid n2
 have F1:=Lib.hid f1
 have G1:=Lib.hid g1
 unfold maxLen at n1 n2
 clear r1 q1 f1 g1
 by_cases h1:u.a=v.a
 ·have e1:((u.a:Int) == (v.a:Int))=true:=by simp [h1]
  have e1':((u.a:Int) != (v.a:Int))=false:=by simp [h1]
  by_cases h2:u.b=v.b
  ·have e2:((u.b:Int) == (v.b:Int))=true:=by simp [h2]
   have e2':((u.b:Int) != (v.b:Int))=false:=by simp [h2]
   by_cases h3:u.c=v.c
   ·have e3:((u.c:Int) == (v.c:Int))=true:=by simp [h3]
    have e3':((u.c:Int) != (v.c:Int))=false:=by simp [h3]
    have HP:=Lib.hid (cmpV_pre h1 h2 h3)
    clear h1 h2 h3
    by_cases hu:u.pre.length=0
    ·have eu:((u.pre.length:Int) == 0)=true:=by rw [beq_iff_eq]; omega
     by_cases hv:v.pre.length=0
     ·have ev:((v.pre.length:Int) == 0)=true:=by rw [beq_iff_eq]; omega
      have HF:=Lib.hid (HP.out.trans (pre_none hu hv))
      clear hu hv
      go_enter Tryz.func72,Tryz.ntmps72
      go_upto_region 1 with (fail)
      generalize ((w.alloc (.cells #[u.a,u.b,u.c,.slice A1 u.pre.length c1,.slice A2 u.build.length c2] 37)).alloc (.cells #[v.a,v.b,v.c,.slice B1 v.pre.length d1,.slice B2 v.build.length d2] 37))=W at HBa R1 Q1 K1 K2 ⊢
      obtain ⟨_,_,x0,x1,x2,x3,x4⟩:=K1.out
      obtain ⟨_,_,y0,y1,y2,y3,y4⟩:=K2.out
      go_wp2
      go_ret
      exact ⟨by rw [HF.out]; rfl,HBa.out⟩
     ·have ev:((v.pre.length:Int) == 0)=false:=by rw [beq_eq_false_iff_ne]; omega
      have HF:=Lib.hid (HP.out.trans (cmpPre_one hu hv))
      clear hu hv
      go_enter Tryz.func72,Tryz.ntmps72
      go_upto_region 1 with (fail)
      generalize ((w.alloc (.cells #[u.a,u.b,u.c,.slice A1 u.pre.length c1,.slice A2 u.build.length c2] 37)).alloc (.cells #[v.a,v.b,v.c,.slice B1 v.pre.length d1,.slice B2 v.build.length d2] 37))=W at HBa R1 Q1 K1 K2 ⊢
      obtain ⟨_,_,x0,x1,x2,x3,x4⟩:=K1.out
      obtain ⟨_,_,y0,y1,y2,y3,y4⟩:=K2.out
      go_wp2
      go_ret
      exact ⟨by rw [HF.out]; rfl,HBa.out⟩
    ·have eu:((u.pre.length:Int) == 0)=false:=by rw [beq_eq_false_iff_ne]; omega
     by_cases hv:v.pre.length=0
     ·have ev:((v.pre.length:Int) == 0)=true:=by rw [beq_iff_eq]; omega
      have HF:=Lib.hid (HP.out.trans (cmpPre_two hu hv))
      clear hu hv
      go_enter Tryz.func72,Tryz.ntmps72
      go_upto_region 1 with (fail)
      generalize ((w.alloc (.cells #[u.a,u.b,u.c,.slice A1 u.pre.length c1,.slice A2 u.build.length c2] 37)).alloc (.cells #[v.a,v.b,v.c,.slice B1 v.pre.length d1,.slice B2 v.build.length d2] 37))=W at HBa R1 Q1 K1 K2 ⊢
      obtain ⟨_,_,x0,x1,x2,x3,x4⟩:=K1.out
      obtain ⟨_,_,y0,y1,y2,y3,y4⟩:=K2.out
      go_wp2
      go_ret
      exact ⟨by rw [HF.out]; rfl,HBa.out⟩
     ·have ev:((v.pre.length:Int) == 0)=false:=by rw [beq_eq_false_iff_ne]; omega
      have HF:=Lib.hid (HP.out.trans (pre_rows hu hv))
      clear hu hv
      go_enter Tryz.func72,Tryz.ntmps72
      go_upto_region 1 with (fail)
      generalize ((w.alloc (.cells #[u.a,u.b,u.c,.slice A1 u.pre.length c1,.slice A2 u.build.length c2] 37)).alloc (.cells #[v.a,v.b,v.c,.slice B1 v.pre.length d1,.slice B2 v.build.length d2] 37))=W at HBa R1 Q1 K1 K2 ⊢
      obtain ⟨_,_,x0,x1,x2,x3,x4⟩:=K1.out
      obtain ⟨_,_,y0,y1,y2,y3,y4⟩:=K2.out
      go_wp2_with fail
      refine (refRows_all _ _ _ u.pre _ _ _ v.pre _ R1.out Q1.out N1.out N2.out F1.out G1.out).mono ?_
      rintro e w3 ⟨rfl,hb3⟩
      have B3:=Lib.hid (HBa.out.trans (hb3.mono HBa.out.size))
      clear hb3 x0 x1 x2 x3 x4 y0 y1 y2 y3 y4
      go_wp2
      go_ret
      exact ⟨by rw [HF.out]; rfl,B3.out⟩
   ·have e3:((u.c:Int) == (v.c:Int))=false:=by simp; omega
    have e3':((u.c:Int) != (v.c:Int))=true:=by simp; omega
    have HF:=Lib.hid (cmpV_3 h1 h2 h3)
    clear h1 h2 h3
    go_enter Tryz.func72,Tryz.ntmps72
    go_upto_region 1 with (fail)
    generalize ((w.alloc (.cells #[u.a,u.b,u.c,.slice A1 u.pre.length c1,.slice A2 u.build.length c2] 37)).alloc (.cells #[v.a,v.b,v.c,.slice B1 v.pre.length d1,.slice B2 v.build.length d2] 37))=W at HBa R1 Q1 K1 K2 ⊢
    obtain ⟨_,_,x0,x1,x2,x3,x4⟩:=K1.out
    obtain ⟨_,_,y0,y1,y2,y3,y4⟩:=K2.out
    go_wp2_with fail
    refine (refNums_any _ _ _).mono ?_
    rintro e w' ⟨rfl,rfl⟩
    go_wp2
    go_ret
    exact ⟨by rw [HF.out]; rfl,HBa.out⟩
  ·have e2:((u.b:Int) == (v.b:Int))=false:=by simp; omega
   have e2':((u.b:Int) != (v.b:Int))=true:=by simp; omega
   have HF:=Lib.hid (cmpV_2 h1 h2)
   clear h1 h2
   go_enter Tryz.func72,Tryz.ntmps72
   go_upto_region 1 with (fail)
   generalize ((w.alloc (.cells #[u.a,u.b,u.c,.slice A1 u.pre.length c1,.slice A2 u.build.length c2] 37)).alloc (.cells #[v.a,v.b,v.c,.slice B1 v.pre.length d1,.slice B2 v.build.length d2] 37))=W at HBa R1 Q1 K1 K2 ⊢
   obtain ⟨_,_,x0,x1,x2,x3,x4⟩:=K1.out
   obtain ⟨_,_,y0,y1,y2,y3,y4⟩:=K2.out
   go_wp2_with fail
   refine (refNums_any _ _ _).mono ?_
   rintro e w' ⟨rfl,rfl⟩
   go_wp2
   go_ret
   exact ⟨by rw [HF.out]; rfl,HBa.out⟩
 ·have e1:((u.a:Int) == (v.a:Int))=false:=by simp; omega
  have e1':((u.a:Int) != (v.a:Int))=true:=by simp; omega
  have HF:=Lib.hid (cmpV_1 h1)
  clear h1
  go_enter Tryz.func72,Tryz.ntmps72
  go_upto_region 1 with (fail)
  generalize ((w.alloc (.cells #[u.a,u.b,u.c,.slice A1 u.pre.length c1,.slice A2 u.build.length c2] 37)).alloc (.cells #[v.a,v.b,v.c,.slice B1 v.pre.length d1,.slice B2 v.build.length d2] 37))=W at HBa R1 Q1 K1 K2 ⊢
  obtain ⟨_,_,x0,x1,x2,x3,x4⟩:=K1.out
  obtain ⟨_,_,y0,y1,y2,y3,y4⟩:=K2.out
  go_wp2_with fail
  refine (refNums_any _ _ _).mono ?_
  rintro e w' ⟨rfl,rfl⟩
  go_wp2
  go_ret
  exact ⟨by rw [HF.out]; rfl,HBa.out⟩
theorem refCompare_any (u v:Ver) (A1 A2 B1 B2:Option Addr) (c1 c2 d1 d2:Nat) (w:World) (r1:SRow w A1 u.pre.length u.pre) (q1:SRow w B1 v.pre.length v.pre) (n1:u.pre.length≤maxLen) (n2:v.pre.length≤maxLen) (f1:∀ x ∈ u.pre,x.length≤1000) (g1:∀ x ∈ v.pre,x.length≤1000) :
  Calls Tryz.prog 72 #[.agg #[u.a,u.b,u.c,.slice A1 u.pre.length c1,.slice A2 u.build.length c2],.agg #[v.a,v.b,v.c,.slice B1 v.pre.length d1,.slice B2 v.build.length d2]] w fun e w'=>e=.returned (.int .i64 (cmpV u v))∧Below w.heap.size w w' :=
 refCompare_all u v A1 A2 B1 B2 c1 c2 d1 d2 w r1 q1 n1 n2 (fun x h=>by have:=f1 x h; unfold maxLen; omega) fun x h=>by have:=g1 x h; unfold maxLen; omega
end Go.Proofs.YtgakcdcfblgagaaGreatDoor.Prec
namespace Go.Proofs.YtgakcdcfblgagaaGreatDoor.Semver
open Go.RowKit Num Ident

def Bld (w:World) (B b:Nat) (l:List UInt8):Prop:=Lib.IsBuilderF 86 5 B b (Lib.byteCells l) w
theorem Bld.new (w:World) (B:Nat) (h:B≤w.heap.size):Bld (w.alloc (.cells #[.pointer none,.slice none 0 0] 86)) B w.heap.size []:=by
 refine .inl ⟨h,.slice none 0 0,?_,World.ownsRowF_nil _ _ _ _,by simp [Value.ownBlock]⟩
 show (w.heap.push _)[w.heap.size]?=_
 simp
theorem atF_kept {w w':World} {B b:Nat} {p:Value} {bs:List Value} (h:Lib.BuilderAtF 86 5 B b p bs w) (hb:Below w.heap.size w w'):Lib.BuilderAtF 86 5 B b p bs w':=by
 obtain ⟨h1,v,h2,h3,h4⟩:=h
 have lt:∀ k o,w.heap[k]?=some o→k<w.heap.size:=fun k o hk=>(Array.getElem?_eq_some_iff.1 hk).1
 refine ⟨h1,v,(hb.block b (lt b _ h2)).trans h2,⟨h3.1,?_⟩,h4⟩
 rcases h3.2 with h5 | ⟨g,cap,cur,fz,e1,e2,e3,e4⟩
 ·exact .inl h5
 ·exact .inr ⟨g,cap,cur,fz,e1,e2,(hb.block g (lt g _ e3)).trans e3,e4⟩
theorem Bld.kept {w w':World} {B b:Nat} {l:List UInt8} (h:Bld w B b l) (hb:Below w.heap.size w w'):Bld w' B b l :=
 h.elim (fun x=>.inl (atF_kept x hb)) (fun x=>.inr (atF_kept x hb))
theorem others_below {w w':World} {b:Option Nat} (hb:Below w.heap.size w w'):Lib.OthersKept 5 b w w' :=
 fun k _ hk _ _=>(hb.block k (Array.getElem?_eq_some_iff.1 hk).1).trans hk
theorem byteCells_length (l:List UInt8):(Lib.byteCells l).length=l.length:=by simp [Lib.byteCells]
theorem byteCells_append (l r:List UInt8):Lib.byteCells (l ++ r)=Lib.byteCells l ++ Lib.byteCells r:=by simp [Lib.byteCells]
def Wrote (w:World) (B b:Nat) (l:List UInt8) (w':World):Prop:=Bld w' B b l∧Below B w w'∧Lib.OthersKept 5 (some b) w w'
theorem writeByte_any (B b:Nat) (l:List UInt8) (c:UInt8) (m:Int) (hm:m=(c.toNat:Int)) (w:World) (h:Bld w B b l) (hl:l.length≤100000000) (hBw:B≤w.heap.size) :
  Calls Tryz.prog 91 #[.pointer (some ⟨b,0,none⟩),.int .u8 m] w fun e w'=>e=.returned .nilIface∧Wrote w B b (l ++ [c]) w':=by
 subst hm
 refine (Tryz.writeByte B b (Lib.byteCells l) (c.toNat:Int) w h (by rw [byteCells_length]; omega) hBw).mono ?_
 rintro e w' ⟨rfl,h1,h2,h3⟩
 exact ⟨rfl,.inr (by rw [byteCells_append]; exact h1),h2,h3⟩
theorem writeString_any (B b:Nat) (l t:List UInt8) (w:World) (h:Bld w B b l) (hl:l.length≤100000000) (ht:t.length≤100000000) (hBw:B≤w.heap.size) :
  Calls Tryz.prog 90 #[.pointer (some ⟨b,0,none⟩),.string (mk t)] w fun e w'=>e=.returned (.tuple #[.int .i64 (mk t).size,.nilIface])∧Wrote w B b (l ++ t) w':=by
 refine (Tryz.writeString B b (Lib.byteCells l) (mk t) w h (by rw [byteCells_length,mk_size]; omega) hBw).mono ?_
 rintro e w' ⟨rfl,h1,h2,h3⟩
 exact ⟨rfl,.inr (by rw [byteCells_append]; exact h1),h2,h3⟩
theorem writeRow_any (B b:Nat) (l:List UInt8) (A:Option Addr) (n c:Nat) (xs:List (List UInt8)) (mb:UInt8) (m:Int) (hm:m=(mb.toNat:Int)) (w0 w:World) (h:Bld w B b l) (hl:l.length≤100000) (hBw:B≤w.heap.size)
  (hr:SRow w0 A n xs) (hb0:Below w0.heap.size w0 w) (hB0:w0.heap.size≤B) (hc:n≤c) (hs:shortB xs=true) :
  Calls Tryz.prog 94 #[.pointer (some ⟨b,0,none⟩),.slice A n c,.int .u8 m] w fun e w'=>e=.returned (.tuple #[])∧Wrote w B b (l ++ rowText mb xs) w':=by
 have hn:=hr.1
 have hn40:n≤40:=by have:=((shortB_iff xs).1 hs).1; omega
 have HN:=Lib.hid hn; clear hn
 by_cases h0:n=0
 ·have HF:=Lib.hid (rowText_none (m:=mb) (xs:=xs) (by rw [HN.out]; exact h0))
  subst h0
  have H:=Lib.hid h
  clear h hr hm
  go_enter Tryz.func94,Tryz.ntmps94
  go_wp2
  go_end0
  exact ⟨rfl,by rw [HF.out,List.append_nil]; exact ⟨H.out,Below.refl _ _,Lib.OthersKept.refl _ _ _⟩⟩
 ·have HF:=Lib.hid (rowText_some (m:=mb) (xs:=xs) (by rw [HN.out]; exact h0))
  have HJ:=Lib.hid (short_joined hs)
  have H:=Lib.hid h
  have HR:=Lib.hid hr
  have HB0:=Lib.hid hb0
  have HS:=Lib.hid hs
  have HM:=Lib.hid hm
  have hpos:0<n:=by omega
  clear h hr hb0 hs h0 hm
  go_enter Tryz.func94,Tryz.ntmps94
  go_wp2_with fail
  refine (writeByte_any B b l mb m HM.out _ H.out (by omega) hBw).mono ?_
  rintro e w1 ⟨rfl,h1,hb1,hk1⟩
  have H1:=Lib.hid h1
  have HB1:=Lib.hid hb1
  have HK1:=Lib.hid hk1
  have HW1:=Lib.hid (HB0.out.trans (hb1.mono hB0))
  have hz1:=hb1.size
  clear h1 hb1 hk1
  go_wp2_with fail
  refine (Ident.text_any _ _ _ xs _ (HR.out.kept HW1.out) hc HS.out).mono ?_
  rintro e w2 ⟨rfl,hb2⟩
  have H2:=Lib.hid (H1.out.kept hb2)
  have HB2:=Lib.hid (HB1.out.trans (hb2.mono (by omega)))
  have HK2:=Lib.hid (HK1.out.trans (others_below (b:=some b) hb2))
  have hz2:=hb2.size
  clear hb2
  go_wp2_with fail
  refine (writeString_any B b (l ++ [mb]) (joined xs) _ H2.out (by rw [List.length_append]; simp; omega) (by have:=HJ.out; omega) (by omega)).mono ?_
  rintro e w3 ⟨rfl,h3,hb3,hk3⟩
  have H3:=Lib.hid h3
  have HB3:=Lib.hid (HB2.out.trans hb3)
  have HK3:=Lib.hid (HK2.out.trans hk3)
  clear h3 hb3 hk3
  go_wp2
  go_end0
  exact ⟨rfl,by rw [HF.out,← List.append_assoc]; exact ⟨H3.out,HB3.out,HK3.out⟩⟩
def TextAt (w:World) (v:Ver) (i:Nat) (w':World):Prop :=
 (i=0∧Bld w' (w.heap.size+1) (w.heap.size+1) [])∨(i=1∧Bld w' (w.heap.size+1) (w.heap.size+1) ([] ++ Lib.decDigits v.a ++ [46]))∨(i=2∧Bld w' (w.heap.size+1) (w.heap.size+1) ([] ++ Lib.decDigits v.a ++ [46] ++ Lib.decDigits v.b ++ [46]))
def TextJ (w:World) (v:Ver) (A:Option Addr) (c:Nat) (B:Option Addr) (d:Nat) (a':Act) (w':World):Prop :=
 ∃ (i bc:Nat) (u6 u7 u8 u9 u10 u11 u12 u13 u14 u15 u16 u17 u18 u19 u20 u21 u22 u23 u24:Value),Below w.heap.size w w'∧At5 w' w.heap.size v.a v.b v.c (.slice A v.pre.length c) (.slice B v.build.length d)∧w'.heap[bc]?=some (.cells #[v.a,v.b,v.c] 163)∧w.heap.size+1<bc∧TextAt w v i w' ∧
  a'={ tmps:=#[.agg #[v.a,v.b,v.c,.slice A v.pre.length c,.slice B v.build.length d],.pointer (some ⟨w.heap.size,0,none⟩),.string ⟨#[]⟩,.pointer (some ⟨w.heap.size+1,0,none⟩),.pointer (some ⟨bc,0,none⟩),.int .i64 i,u6,u7,u8,u9,u10,u11,u12,u13,u14,u15,u16,u17,u18,u19,u20,u21,u22,u23,u24],defers:=[] }
def TextM (a':Act) (_:World):Nat:=3 - (intOf (a'.tmps.getD 5 undef)).toNat
theorem vtext_any (v:Ver) (A:Option Addr) (c:Nat) (B:Option Addr) (d:Nat) (w:World) (ha:v.a<18446744073709551616) (hb:v.b<18446744073709551616) (hc:v.c<18446744073709551616)
  (hr1:SRow w A v.pre.length v.pre) (hr2:SRow w B v.build.length v.build) (hc1:v.pre.length≤c) (hc2:v.build.length≤d) (hs1:shortB v.pre=true) (hs2:shortB v.build=true) (htab:Tab w) :
  Calls Tryz.prog 40 #[.agg #[v.a,v.b,v.c,.slice A v.pre.length c,.slice B v.build.length d]] w fun e w'=>e=.returned (.string (mk (vtext v)))∧Below w.heap.size w w':=by
 have Ha:=Lib.hid ha
 have Hb:=Lib.hid hb
 have Hc:=Lib.hid hc
 have HDa:=Lib.hid (dec_le v.a ha)
 have HDb:=Lib.hid (dec_le v.b hb)
 have HDc:=Lib.hid (dec_le v.c hc)
 have HR1:=Lib.hid hr1
 have HR2:=Lib.hid hr2
 have HS1:=Lib.hid hs1
 have HS2:=Lib.hid hs2
 have HP1:=Lib.hid (rowText_le (m:=45) hs1)
 have HTab:=Lib.hid htab
 clear ha hb hc hr1 hr2 hs1 hs2 htab
 go_enter Tryz.func40,Tryz.ntmps40
 go_wp2
 refine wp_scope_back 0 (TextJ w v A c B d) TextM rfl ?_ ?_
 ·rintro a' w0 ⟨i,bc,u6,u7,u8,u9,u10,u11,u12,u13,u14,u15,u16,u17,u18,u19,u20,u21,u22,u23,u24,hbel,h5,hheap,hbc,hat,rfl⟩
  have HB:=Lib.hid hbel
  have H5:=Lib.hid h5
  have HC:=Lib.hid hheap
  have hz0:=h5.1
  have hzc:bc<w0.heap.size:=(Array.getElem?_eq_some_iff.1 hheap).1
  have hx0:w0.cell? ⟨bc,0,none⟩=some (.int .u64 v.a):=by rw [Lib.cell_of_heap hheap]; rfl
  have hx1:w0.cell? ⟨bc,1,none⟩=some (.int .u64 v.b):=by rw [Lib.cell_of_heap hheap]; rfl
  have hx2:w0.cell? ⟨bc,2,none⟩=some (.int .u64 v.c):=by rw [Lib.cell_of_heap hheap]; rfl
  clear hbel h5 hheap
  rcases hat with ⟨rfl,hl⟩ | ⟨rfl,hl⟩ | ⟨rfl,hl⟩
  ·have HL:=Lib.hid hl; clear hl
   have hlen:([]:List UInt8).length≤1000:=by simp only [List.length_nil]; omega
   have ht:=HTab.out.kept HB.out
   have HT:=Lib.hid ht; clear ht
   go_wp2_with fail
   refine (Num.text_any v.a Ha.out _ HT.out).mono ?_
   rintro e w1 ⟨rfl,hb1⟩
   have hz1:=hb1.size
   have L1:=Lib.hid (HL.out.kept hb1)
   have K1:=Lib.hid ((hb1.block bc (Array.getElem?_eq_some_iff.1 HC.out).1).trans HC.out)
   have Q1:=Lib.hid (H5.out.kept hb1 (by omega))
   have B1:=Lib.hid (HB.out.trans (hb1.mono (by omega)))
   clear hb1 HT HL HC H5 hx0 hx1 hx2
   go_wp2_with fail
   refine (writeString_any _ _ _ (Lib.decDigits v.a) _ L1.out (by have:=hlen; omega) (by have:=HDa.out; omega) (by omega)).mono ?_
   rintro e w2 ⟨rfl,l2,hb2,hk2⟩
   have hz2:=hb2.size
   have L2:=Lib.hid l2
   have K2:=Lib.hid (hk2 _ _ K1.out (by simp; omega) (by intro c fz e; injection e with _ e; exact absurd e (by decide)))
   have Q2:=Lib.hid (Q1.out.kept hb2 (by omega))
   have B2:=Lib.hid (B1.out.trans (hb2.mono (by omega)))
   clear l2 hb2 hk2 L1 K1 Q1 B1
   go_wp2_with fail
   refine (writeByte_any _ _ _ 46 46 rfl _ L2.out (by rw [List.length_append]; have:=hlen; have:=HDa.out; omega) (by omega)).mono ?_
   rintro e w3 ⟨rfl,l3,hb3,hk3⟩
   have hz3:=hb3.size
   have L3:=Lib.hid l3
   have K3:=Lib.hid (hk3 _ _ K2.out (by simp; omega) (by intro c fz e; injection e with _ e; exact absurd e (by decide)))
   have Q3:=Lib.hid (Q2.out.kept hb3 (by omega))
   have B3:=Lib.hid (B2.out.trans (hb3.mono (by omega)))
   clear l3 hb3 hk3 L2 K2 Q2 B2
   go_wp2
   go_step3
   refine ⟨rfl,⟨1,bc,_,_,_,_,_,_,_,_,_,_,_,_,_,_,_,_,_,_,_,B3.out,Q3.out,K3.out,hbc,.inr (.inl ⟨rfl,L3.out⟩),rfl⟩,?_⟩
   simp [TextM,intOf]
  ·have HL:=Lib.hid hl; clear hl
   have hlen:([] ++ Lib.decDigits v.a ++ [46]:List UInt8).length≤1000:=by simp only [List.length_append,List.length_singleton,List.length_nil]; have:=HDa.out; have:=HDb.out; omega
   have ht:=HTab.out.kept HB.out
   have HT:=Lib.hid ht; clear ht
   go_wp2_with fail
   refine (Num.text_any v.b Hb.out _ HT.out).mono ?_
   rintro e w1 ⟨rfl,hb1⟩
   have hz1:=hb1.size
   have L1:=Lib.hid (HL.out.kept hb1)
   have K1:=Lib.hid ((hb1.block bc (Array.getElem?_eq_some_iff.1 HC.out).1).trans HC.out)
   have Q1:=Lib.hid (H5.out.kept hb1 (by omega))
   have B1:=Lib.hid (HB.out.trans (hb1.mono (by omega)))
   clear hb1 HT HL HC H5 hx0 hx1 hx2
   go_wp2_with fail
   refine (writeString_any _ _ _ (Lib.decDigits v.b) _ L1.out (by have:=hlen; omega) (by have:=HDb.out; omega) (by omega)).mono ?_
   rintro e w2 ⟨rfl,l2,hb2,hk2⟩
   have hz2:=hb2.size
   have L2:=Lib.hid l2
   have K2:=Lib.hid (hk2 _ _ K1.out (by simp; omega) (by intro c fz e; injection e with _ e; exact absurd e (by decide)))
   have Q2:=Lib.hid (Q1.out.kept hb2 (by omega))
   have B2:=Lib.hid (B1.out.trans (hb2.mono (by omega)))
   clear l2 hb2 hk2 L1 K1 Q1 B1
   go_wp2_with fail
   refine (writeByte_any _ _ _ 46 46 rfl _ L2.out (by rw [List.length_append]; have:=hlen; have:=HDb.out; omega) (by omega)).mono ?_
   rintro e w3 ⟨rfl,l3,hb3,hk3⟩
   have hz3:=hb3.size
   have L3:=Lib.hid l3
   have K3:=Lib.hid (hk3 _ _ K2.out (by simp; omega) (by intro c fz e; injection e with _ e; exact absurd e (by decide)))
   have Q3:=Lib.hid (Q2.out.kept hb3 (by omega))
   have B3:=Lib.hid (B2.out.trans (hb3.mono (by omega)))
   clear l3 hb3 hk3 L2 K2 Q2 B2
   go_wp2
   go_step3
   refine ⟨rfl,⟨2,bc,_,_,_,_,_,_,_,_,_,_,_,_,_,_,_,_,_,_,_,B3.out,Q3.out,K3.out,hbc,.inr (.inr ⟨rfl,L3.out⟩),rfl⟩,?_⟩
   simp [TextM,intOf]
  ·have HL:=Lib.hid hl; clear hl
   have hlen:([] ++ Lib.decDigits v.a ++ [46] ++ Lib.decDigits v.b ++ [46]:List UInt8).length≤1000:=by simp only [List.length_append,List.length_singleton,List.length_nil]; have:=HDa.out; have:=HDb.out; omega
   have ht:=HTab.out.kept HB.out
   have HT:=Lib.hid ht; clear ht
   go_wp2_with fail
   refine (Num.text_any v.c Hc.out _ HT.out).mono ?_
   rintro e w1 ⟨rfl,hb1⟩
   have hz1:=hb1.size
   have L1:=Lib.hid (HL.out.kept hb1)
   have K1:=Lib.hid ((hb1.block bc (Array.getElem?_eq_some_iff.1 HC.out).1).trans HC.out)
   have Q1:=Lib.hid (H5.out.kept hb1 (by omega))
   have B1:=Lib.hid (HB.out.trans (hb1.mono (by omega)))
   clear hb1 HT HL HC H5 hx0 hx1 hx2
   go_wp2_with fail
   refine (writeString_any _ _ _ (Lib.decDigits v.c) _ L1.out (by have:=hlen; omega) (by have:=HDc.out; omega) (by omega)).mono ?_
   rintro e w2 ⟨rfl,l2,hb2,hk2⟩
   have hz2:=hb2.size
   have L2:=Lib.hid l2
   have K2:=Lib.hid (hk2 _ _ K1.out (by simp; omega) (by intro c fz e; injection e with _ e; exact absurd e (by decide)))
   have Q2:=Lib.hid (Q1.out.kept hb2 (by omega))
   have B2:=Lib.hid (B1.out.trans (hb2.mono (by omega)))
   clear l2 hb2 hk2 L1 K1 Q1 B1
   obtain ⟨_,_,g0,g1,g2,g3,g4⟩:=Q2.out
   have hlen2:([] ++ Lib.decDigits v.a ++ [46] ++ Lib.decDigits v.b ++ [46] ++ Lib.decDigits v.c).length≤1000:=by simp only [List.length_append,List.length_singleton,List.length_nil]; have:=HDa.out; have:=HDb.out; have:=HDc.out; omega
   go_wp2_with fail
   refine (writeRow_any _ _ _ A v.pre.length c v.pre 45 45 rfl w _ L2.out (by omega) (by omega) HR1.out B2.out (by omega) hc1 HS1.out).mono ?_
   rintro e w3 ⟨rfl,l3,hb3,hk3⟩
   have hz3:=hb3.size
   have L3:=Lib.hid l3
   have Q3:=Lib.hid (Q2.out.kept hb3 (by omega))
   have B3:=Lib.hid (B2.out.trans (hb3.mono (by omega)))
   clear l3 hb3 hk3 L2 K2 Q2 B2 g0 g1 g2 g3 g4
   obtain ⟨_,_,g0,g1,g2,g3,g4⟩:=Q3.out
   have hlen3:([] ++ Lib.decDigits v.a ++ [46] ++ Lib.decDigits v.b ++ [46] ++ Lib.decDigits v.c ++ rowText 45 v.pre).length≤20000:=by rw [List.length_append]; have:=HP1.out; omega
   go_wp2_with fail
   refine (writeRow_any _ _ _ B v.build.length d v.build 43 43 rfl w _ L3.out (by omega) (by omega) HR2.out B3.out (by omega) hc2 HS2.out).mono ?_
   rintro e w4 ⟨rfl,l4,hb4,hk4⟩
   have hz4:=hb4.size
   have L4:=Lib.hid l4
   have B4:=Lib.hid (B3.out.trans (hb4.mono (by omega)))
   clear l4 hb4 hk4 L3 Q3 B3 g0 g1 g2 g3 g4 hlen hlen2 hlen3
   have HTX:Hid ([] ++ Lib.decDigits v.a ++ [46] ++ Lib.decDigits v.b ++ [46] ++ Lib.decDigits v.c ++ rowText 45 v.pre ++ rowText 43 v.build=vtext v):=by unfold Hid vtext; rw [List.nil_append]
   generalize [] ++ Lib.decDigits v.a ++ [46] ++ Lib.decDigits v.b ++ [46] ++ Lib.decDigits v.c ++ rowText 45 v.pre ++ rowText 43 v.build=tx at L4 HTX
   go_wp2_with fail
   refine (Tryz.builderString _ _ _ _ L4.out (by omega)).mono ?_
   rintro e w5 ⟨rfl,_,hb5,_⟩
   have B5:=Lib.hid (B4.out.trans (hb5.mono (by omega)))
   clear hb5
   go_wp2
   simp only [Exit.jump]
   go_ret
   exact ⟨by rw [← HTX.out]; rfl,B5.out⟩
 ·intro HP
  have H5:=Lib.hid (At5.new w 37 v.a v.b v.c (.slice A v.pre.length c) (.slice B v.build.length d))
  have HN:=Bld.new (w.alloc (.cells #[v.a,v.b,v.c,.slice A v.pre.length c,.slice B v.build.length d] 37)) (w.heap.size+1) (by simp)
  rw [size_alloc] at HN
  have HBN:=Lib.hid HN; clear HN
  go_wp2_with fail
  refine (coreOf_any _ _ _ _ _ _).mono ?_
  rintro e w1 ⟨rfl,hb1⟩
  have hz1:w.heap.size+2≤w1.heap.size:=by have:=hb1.size; simpa using this
  have HBa:Hid (Below w.heap.size w ((w.alloc (.cells #[v.a,v.b,v.c,.slice A v.pre.length c,.slice B v.build.length d] 37)).alloc (.cells #[.pointer none,.slice none 0 0] 86))):=((Below.refl _ _).alloc (Nat.le_refl _) _).alloc (by simp) _
  have HBb:=Lib.hid (HBa.out.trans (hb1.mono (by simp; omega)))
  have H5b:=Lib.hid ((H5.out.kept ((Below.refl _ _).alloc (Nat.le_refl _) (.cells #[.pointer none,.slice none 0 0] 86)) (by simp)).kept hb1 (by simp; omega))
  have HLb:=Lib.hid (HBN.out.kept hb1)
  have HBc:=Lib.hid ((Below.refl w1.heap.size w1).alloc (Nat.le_refl _) (.cells #[v.a,v.b,v.c] 163))
  have HBd:=Lib.hid (HBb.out.trans (HBc.out.mono (by omega)))
  have H5d:=Lib.hid (H5b.out.kept HBc.out (by omega))
  have HLd:=Lib.hid (HLb.out.kept HBc.out)
  have HCd:Hid ((w1.alloc (.cells #[v.a,v.b,v.c] 163)).heap[w1.heap.size]?=some (.cells #[v.a,v.b,v.c] 163)):=by
   show (w1.heap.push _)[w1.heap.size]?=_
   simp
  clear hb1 H5 HBN HBa HBb H5b HLb HBc
  go_wp2
  go_step3
  rename_i hK
  exact hK _ _ (HP.out _ _ ⟨0,w1.heap.size,_,_,_,_,_,_,_,_,_,_,_,_,_,_,_,_,_,_,_,HBd.out,H5d.out,HCd.out,by omega,.inl ⟨rfl,HLd.out⟩,rfl⟩)
end Go.Proofs.YtgakcdcfblgagaaGreatDoor.Semver
