/-
  What the theorem of the last text needs of these: MoCame, MoRefPins, MoRefCheck, MoRefSame, MoFew, MoFirst. Conditions: as each theorem states.
-/
import Derived.Test.YtnpjklaaokiikaaGreatDoorPlA1
import Derived.Test.YtnpjklaaokiikaaGreatDoorPlA2
import Derived.Test.YtnpjklaaokiikaaGreatDoorPlA6
import Derived.Test.YtnpjklaaokiikaaGreatDoorPlA8
import Derived.Test.YtnpjklaaokiikaaGreatDoorPlA11
import Derived.Test.YtnpjklaaokiikaaGreatDoorPlA14
import Derived.Test.YtnpjklaaokiikaaGreatDoorPlA16
import Derived.Test.YtnpjklaaokiikaaGreatDoorPlA17
import Derived.Test.YtnpjklaaokiikaaGreatDoorPlA20
import Derived.Test.YtnpjklaaokiikaaGreatDoorPlA21
import Derived.Deep.QuietTactic
import Derived.BigQuiet
import Derived.Shelf.GgClosure.Gives
set_option maxRecDepth 100000
set_option maxHeartbeats 25600000
namespace Go.Proofs.YtnpjklaaokiikaaGreatDoor.Came
open Go.ChangeShapes Go.WideShapes Go.RowKit Go.Deep
open Range (Rng noRng RV LenOk LtB InS)
open KR (KRow)
open Model (MDep MVer MRel MPack MPin DepOk VerOk RelOk PackOk PinOk DRow RRow PRow SPRow)

theorem name_read {H:Type} {enc:TypeId × Value→H} {W:World} {n:Nat} {z:Value} {y:DataW H × List MemPlace} (h:DataW.trod enc Tryz.prog W 0 (fun _=>true) true n 9 [z]=some y):∃ s:List UInt8,z=.string (Ident.mk s)∧s.length≤maxLen:=by
 obtain ⟨s,e,_,hs⟩:=DataW.trod_string Tryz.underlying9 h
 simp at e
 exact ⟨s.data.toList,by rw [e]; rfl,by rw [← Lib.size_eq]; exact hs⟩
theorem bool_read {H:Type} {enc:TypeId × Value→H} {W:World} {n:Nat} {z:Value} {y:DataW H × List MemPlace} (h:DataW.trod enc Tryz.prog W 0 (fun _=>true) true n 4 [z]=some y):∃ b:Bool,z=.bool b:=by
 obtain ⟨b,e,_⟩:=DataW.trod_bool Tryz.underlying4 h
 simp at e
 exact ⟨b,e⟩
theorem mver_at {H:Type} {enc:TypeId × Value→H} {W:World} {fuel:Nat} {l:List Value} {y:DataW H × List MemPlace} (hf:DataW.trod enc Tryz.prog W 0 (fun _=>true) true fuel 34 l=some y):∃ x:MVer,l=x.vals∧VerOk W (LtB W.heap.size) x:=by
 obtain ⟨v,A,c,B,d,e,h1,h2,h3,h4,h5,_⟩:=ver_full hf
 exact ⟨⟨v,A,c,B,d⟩,e,h1,h2,ins_of h1,ins_of h2,h4,h5,h3⟩
theorem dep_at {H:Type} {enc:TypeId × Value→H} {W:World} {fuel:Nat} {l:List Value} {y:DataW H × List MemPlace} (hf:DataW.trod enc Tryz.prog W 0 (fun _=>true) true fuel 57 l=some y) (hs0:Sized 57 y.1):∃ d:MDep,l=d.vals∧DepOk W (LtB W.heap.size) d:=by
 have hC:Tryz.prog.cellsOf 57=8:=by kernel_rfl
 have cs:Tryz.prog.cellsOf 9=1:=by kernel_rfl
 have cr:Tryz.prog.cellsOf 55=7:=by kernel_rfl
 obtain ⟨xs,n,_,hy0,hsz,hlen,hg⟩:=DataW.trod_struct Tryz.underlying57 hf
 have hl:xs.length=2:=hlen
 rw [hC] at hsz
 match l,hsz with
 | [z0,z1,z2,z3,z4,z5,z6,z7],_ =>
  match xs,hl with
  | [y0,y1],_ =>
   have f0:DataW.trod enc Tryz.prog W 0 (fun _=>true) true n 9 (([z0,z1,z2,z3,z4,z5,z6,z7].drop 0).take (Tryz.prog.cellsOf 9))=some y0:=hg 0 _ rfl
   rw [cs] at f0
   have g0:DataW.trod enc Tryz.prog W 0 (fun _=>true) true n 9 [z0]=some y0:=f0
   have f1:DataW.trod enc Tryz.prog W 0 (fun _=>true) true n 55 (([z0,z1,z2,z3,z4,z5,z6,z7].drop 1).take (Tryz.prog.cellsOf 55))=some y1:=hg 1 _ rfl
   rw [cr] at f1
   have g1:DataW.trod enc Tryz.prog W 0 (fun _=>true) true n 55 [z1,z2,z3,z4,z5,z6,z7]=some y1:=f1
   rw [hy0] at hs0
   clear f0 f1 hg
   obtain ⟨s,rfl,hs⟩:=name_read g0
   obtain ⟨r,x,e,h1,h2,h3⟩:=rng_at n n _ _ (Nat.le_refl _) g1
   exact ⟨⟨s,r,x⟩,by rw [e]; rfl,hs,h1,h2,h3 (hs0.part Tryz.underlying57 (i:=1) rfl rfl)⟩
theorem deps_at {H:Type} {enc:TypeId × Value→H} {W:World} {fuel:Nat} {cs:List Value} {y:DataW H × List MemPlace} (hf:DataW.trod enc Tryz.prog W 0 (fun _=>true) true fuel 25 cs=some y) (hs0:Sized 25 y.1) :
  ∃ (A:Option Addr) (c:Nat) (l:List MDep),cs=[.slice A l.length c]∧DRow W (LtB W.heap.size) A l.length l∧l.length≤c∧c≤maxLen∧(A=none→c=0):=by
 obtain ⟨A,n,c,l,e,h1,h2,h3,h4,h5⟩:=KR.KRow.came (P:=DepOk W (LtB W.heap.size)) Tryz.underlying25 (by kernel_rfl) Model.dep_len (by omega) (fun _ _ _ h q=>dep_at h q) hf hs0
 obtain rfl:=h1.1
 exact ⟨A,c,l,e,⟨h1,h2⟩,h3,h4,h5⟩
theorem rel_at {H:Type} {enc:TypeId × Value→H} {W:World} {fuel:Nat} {l:List Value} {y:DataW H × List MemPlace} (hf:DataW.trod enc Tryz.prog W 0 (fun _=>true) true fuel 36 l=some y) (hs0:Sized 36 y.1):∃ r:MRel,l=r.vals∧RelOk W (LtB W.heap.size) r:=by
 have hC:Tryz.prog.cellsOf 36=8:=by kernel_rfl
 have cv:Tryz.prog.cellsOf 34=5:=by kernel_rfl
 have cb:Tryz.prog.cellsOf 4=1:=by kernel_rfl
 have cd:Tryz.prog.cellsOf 25=1:=by kernel_rfl
 obtain ⟨xs,n,_,hy0,hsz,hlen,hg⟩:=DataW.trod_struct Tryz.underlying36 hf
 have hl:xs.length=4:=hlen
 rw [hC] at hsz
 match l,hsz with
 | [z0,z1,z2,z3,z4,z5,z6,z7],_ =>
  match xs,hl with
  | [y0,y1,y2,y3],_ =>
   have f0:DataW.trod enc Tryz.prog W 0 (fun _=>true) true n 34 (([z0,z1,z2,z3,z4,z5,z6,z7].drop 0).take (Tryz.prog.cellsOf 34))=some y0:=hg 0 _ rfl
   rw [cv] at f0
   have g0:DataW.trod enc Tryz.prog W 0 (fun _=>true) true n 34 [z0,z1,z2,z3,z4]=some y0:=f0
   have f1:DataW.trod enc Tryz.prog W 0 (fun _=>true) true n 4 (([z0,z1,z2,z3,z4,z5,z6,z7].drop 5).take (Tryz.prog.cellsOf 4))=some y1:=hg 1 _ rfl
   rw [cb] at f1
   have g1:DataW.trod enc Tryz.prog W 0 (fun _=>true) true n 4 [z5]=some y1:=f1
   have f2:DataW.trod enc Tryz.prog W 0 (fun _=>true) true n 25 (([z0,z1,z2,z3,z4,z5,z6,z7].drop 6).take (Tryz.prog.cellsOf 25))=some y2:=hg 2 _ rfl
   rw [cd] at f2
   have g2:DataW.trod enc Tryz.prog W 0 (fun _=>true) true n 25 [z6]=some y2:=f2
   have f3:DataW.trod enc Tryz.prog W 0 (fun _=>true) true n 25 (([z0,z1,z2,z3,z4,z5,z6,z7].drop 7).take (Tryz.prog.cellsOf 25))=some y3:=hg 3 _ rfl
   rw [cd] at f3
   have g3:DataW.trod enc Tryz.prog W 0 (fun _=>true) true n 25 [z7]=some y3:=f3
   rw [hy0] at hs0
   clear f0 f1 f2 f3 hg
   obtain ⟨v,e,hv⟩:=mver_at g0
   obtain ⟨b,rfl⟩:=bool_read g1
   obtain ⟨N,nc,ln,e1,p1,p2,p3,p4⟩:=deps_at g2 (hs0.part Tryz.underlying36 (i:=2) rfl rfl)
   obtain ⟨B,bc,lb,e2,q1,q2,q3,q4⟩:=deps_at g3 (hs0.part Tryz.underlying36 (i:=3) rfl rfl)
   simp at e1 e2
   subst e1
   subst e2
   exact ⟨⟨v,b,N,nc,ln,B,bc,lb⟩,by show [z0,z1,z2,z3,z4] ++ [.bool b,.slice N ln.length nc,.slice B lb.length bc]=_; rw [e]; rfl,hv,p1,q1,⟨p2,p3⟩,⟨q2,q3⟩,p4,q4⟩
theorem rels_at {H:Type} {enc:TypeId × Value→H} {W:World} {fuel:Nat} {cs:List Value} {y:DataW H × List MemPlace} (hf:DataW.trod enc Tryz.prog W 0 (fun _=>true) true fuel 58 cs=some y) (hs0:Sized 58 y.1) :
  ∃ (A:Option Addr) (c:Nat) (l:List MRel),cs=[.slice A l.length c]∧RRow W (LtB W.heap.size) A l.length l∧l.length≤c∧c≤maxLen∧(A=none→c=0):=by
 obtain ⟨A,n,c,l,e,h1,h2,h3,h4,h5⟩:=KR.KRow.came (P:=RelOk W (LtB W.heap.size)) Tryz.underlying58 (by kernel_rfl) Model.rel_len (by omega) (fun _ _ _ h q=>rel_at h q) hf hs0
 obtain rfl:=h1.1
 exact ⟨A,c,l,e,⟨h1,h2⟩,h3,h4,h5⟩
theorem pack_at {H:Type} {enc:TypeId × Value→H} {W:World} {fuel:Nat} {l:List Value} {y:DataW H × List MemPlace} (hf:DataW.trod enc Tryz.prog W 0 (fun _=>true) true fuel 60 l=some y) (hs0:Sized 60 y.1):∃ p:MPack,l=p.vals∧PackOk W (LtB W.heap.size) p:=by
 have hC:Tryz.prog.cellsOf 60=2:=by kernel_rfl
 have cs:Tryz.prog.cellsOf 9=1:=by kernel_rfl
 have cr:Tryz.prog.cellsOf 58=1:=by kernel_rfl
 obtain ⟨xs,n,_,hy0,hsz,hlen,hg⟩:=DataW.trod_struct Tryz.underlying60 hf
 have hl:xs.length=2:=hlen
 rw [hC] at hsz
 match l,hsz with
 | [z0,z1],_ =>
  match xs,hl with
  | [y0,y1],_ =>
   have f0:DataW.trod enc Tryz.prog W 0 (fun _=>true) true n 9 (([z0,z1].drop 0).take (Tryz.prog.cellsOf 9))=some y0:=hg 0 _ rfl
   rw [cs] at f0
   have g0:DataW.trod enc Tryz.prog W 0 (fun _=>true) true n 9 [z0]=some y0:=f0
   have f1:DataW.trod enc Tryz.prog W 0 (fun _=>true) true n 58 (([z0,z1].drop 1).take (Tryz.prog.cellsOf 58))=some y1:=hg 1 _ rfl
   rw [cr] at f1
   have g1:DataW.trod enc Tryz.prog W 0 (fun _=>true) true n 58 [z1]=some y1:=f1
   rw [hy0] at hs0
   clear f0 f1 hg
   obtain ⟨s,rfl,hs⟩:=name_read g0
   obtain ⟨R,rc,l,e1,p1,p2,p3,p4⟩:=rels_at g1 (hs0.part Tryz.underlying60 (i:=1) rfl rfl)
   simp at e1
   subst e1
   exact ⟨⟨s,R,rc,l⟩,rfl,hs,p1,⟨p2,p3⟩,p4⟩
theorem packs_at {H:Type} {enc:TypeId × Value→H} {W:World} {fuel:Nat} {cs:List Value} {y:DataW H × List MemPlace} (hf:DataW.trod enc Tryz.prog W 0 (fun _=>true) true fuel 22 cs=some y) (hs0:Sized 22 y.1) :
  ∃ (A:Option Addr) (c:Nat) (l:List MPack),cs=[.slice A l.length c]∧PRow W (LtB W.heap.size) A l.length l∧l.length≤c∧c≤maxLen∧(A=none→c=0):=by
 obtain ⟨A,n,c,l,e,h1,h2,h3,h4,h5⟩:=KR.KRow.came (P:=PackOk W (LtB W.heap.size)) Tryz.underlying22 (by kernel_rfl) Model.pack_len (by omega) (fun _ _ _ h q=>pack_at h q) hf hs0
 obtain rfl:=h1.1
 exact ⟨A,c,l,e,⟨h1,h2⟩,h3,h4,h5⟩
end Go.Proofs.YtnpjklaaokiikaaGreatDoor.Came
namespace Go.Proofs.YtnpjklaaokiikaaGreatDoor.Model
open Go.RowKit Num Ident Semver
open Range (Rng noRng RV KeepS LtB LenOk goodR wt)
open KR (KRow AtV)
open Name (isName)

theorem mk_ne {a b:List UInt8} (h:a≠b):((Ident.mk a).toList == (Ident.mk b).toList)=false:=by
 rw [Lib.toList_data,Lib.toList_data,beq_eq_false_iff_ne]; exact h
theorem mk_eq (a:List UInt8):((Ident.mk a).toList == (Ident.mk a).toList)=true:=by simp
theorem SPRow.cells {w:World} {S:Nat→Prop} {A:Option Addr} {n:Nat} {l:List MPin} (h:SPRow w S A n l) {k:Nat} (hk:k<n):∃ b o,A=some ⟨b,o,none⟩∧S b∧b<w.heap.size ∧
  w.cell? ⟨b,o+k * 6,none⟩=some (.string (Ident.mk (l.getD k default).name))∧w.cell? ⟨b,o+k * 6+1,none⟩=some (.int .u64 ((l.getD k default).ver.v.a))∧w.cell? ⟨b,o+k * 6+2,none⟩=some (.int .u64 ((l.getD k default).ver.v.b))∧w.cell? ⟨b,o+k * 6+3,none⟩=some (.int .u64 ((l.getD k default).ver.v.c))∧w.cell? ⟨b,o+k * 6+4,none⟩=some (.slice (l.getD k default).ver.A (l.getD k default).ver.v.pre.length (l.getD k default).ver.c)∧w.cell? ⟨b,o+k * 6+5,none⟩=some (.slice (l.getD k default).ver.B (l.getD k default).ver.v.build.length (l.getD k default).ver.d):=by
 obtain ⟨b,o,e,hb,hlt,hc⟩:=h.row.at_ hk
 exact ⟨b,o,e,hb,hlt,hc 0 _ rfl,hc 1 _ rfl,hc 2 _ rfl,hc 3 _ rfl,hc 4 _ rfl,hc 5 _ rfl⟩
end Go.Proofs.YtnpjklaaokiikaaGreatDoor.Model
namespace Go.Proofs.YtnpjklaaokiikaaGreatDoor.Model
open Go.RowKit Num Ident Semver
open Range (Rng noRng RV KeepS LtB LenOk goodR wt)
open KR (KRow AtV)
open Name (isName)

def checkV (o:Option (Int × Int × Int × Int)):Value:=.tuple #[.agg #[.int .i64 (out4 o).1,.int .i64 (out4 o).2.1,.int .i64 (out4 o).2.2.1],.int .i64 (out4 o).2.2.2]
structure Modest (x:List MPack):Prop where
 name:∀ p ∈ x,p.name.length≤1000000
 needs:∀ p ∈ x,∀ r ∈ p.rels,r.needs.length≤1000000∧r.bans.length≤1000000
 dep:∀ p ∈ x,∀ r ∈ p.rels,∀ d ∈ r.needs ++ r.bans,d.name.length≤1000000
structure ChkAt (w:World) (ib rb nb:Nat) (A:Option Addr) (n c:Nat) (W:World):Prop where
 ix:AtV W ib [.slice A n c]
 res:AtV W rb [.int .i64 0,.int .i64 0,.int .i64 0]
 non:AtV W nb [.int .i64 (-1),.int .i64 (-1),.int .i64 (-1)]
 hi:w.heap.size≤rb
 bel:Below w.heap.size w W
theorem RRow.cells {w:World} {S:Nat→Prop} {A:Option Addr} {n:Nat} {l:List MRel} (h:RRow w S A n l) {k:Nat} (hk:k<n):∃ b o,A=some ⟨b,o,none⟩∧S b∧b<w.heap.size∧w.cell? ⟨b,o+k * 8,none⟩=some (.int .u64 ((l.getD k default).ver.v.a))∧w.cell? ⟨b,o+k * 8+1,none⟩=some (.int .u64 ((l.getD k default).ver.v.b))∧w.cell? ⟨b,o+k * 8+2,none⟩=some (.int .u64 ((l.getD k default).ver.v.c))∧w.cell? ⟨b,o+k * 8+3,none⟩=some (.slice (l.getD k default).ver.A (l.getD k default).ver.v.pre.length (l.getD k default).ver.c)∧w.cell? ⟨b,o+k * 8+4,none⟩=some (.slice (l.getD k default).ver.B (l.getD k default).ver.v.build.length (l.getD k default).ver.d)∧w.cell? ⟨b,o+k * 8+5,none⟩=some (.bool (l.getD k default).yanked)∧w.cell? ⟨b,o+k * 8+6,none⟩=some (.slice (l.getD k default).N (l.getD k default).needs.length (l.getD k default).nc)∧w.cell? ⟨b,o+k * 8+7,none⟩=some (.slice (l.getD k default).B (l.getD k default).bans.length (l.getD k default).bc):=by
 obtain ⟨b,o,e,hb,hlt,hc⟩:=h.row.at_ hk
 exact ⟨b,o,e,hb,hlt,hc 0 _ rfl,hc 1 _ rfl,hc 2 _ rfl,hc 3 _ rfl,hc 4 _ rfl,hc 5 _ rfl,hc 6 _ rfl,hc 7 _ rfl⟩
theorem PRow.cells {w:World} {S:Nat→Prop} {A:Option Addr} {n:Nat} {l:List MPack} (h:PRow w S A n l) {k:Nat} (hk:k<n):∃ b o,A=some ⟨b,o,none⟩∧S b∧b<w.heap.size∧w.cell? ⟨b,o+k * 2,none⟩=some (.string (Ident.mk (l.getD k default).name))∧w.cell? ⟨b,o+k * 2+1,none⟩=some (.slice (l.getD k default).R (l.getD k default).rels.length (l.getD k default).rc):=by
 obtain ⟨b,o,e,hb,hlt,hc⟩:=h.row.at_ hk
 exact ⟨b,o,e,hb,hlt,hc 0 _ rfl,hc 1 _ rfl⟩
end Go.Proofs.YtnpjklaaokiikaaGreatDoor.Model
namespace Go.Proofs.YtnpjklaaokiikaaGreatDoor.Model
open Go.RowKit Num Ident Semver
open Range (Rng noRng RV KeepS LtB LenOk goodR wt)
open KR (KRow AtV)

theorem refDeps_yes (A1 A2:Option Addr) (n c1 c2:Nat) (l1 l2:List MDep) (B:Nat) (w:World) (h1:DRow w (LtB B) A1 n l1) (h2:DRow w (LtB B) A2 n l2) (he:l1.map MDep.p=l2.map MDep.p) (hB:B≤w.heap.size) (hn:n≤maxLen) :
  Calls Tryz.prog 43 #[.slice A1 n c1,.slice A2 n c2] w fun e w'=>e=.returned (.bool true)∧Below w.heap.size w w':=by
 have HO1:=Lib.hid h1
 have HO2:=Lib.hid h2
 have HL1:=Lib.hid h1.row.1
 have HL2:=Lib.hid h2.row.1
 have HE:=Lib.hid he
 unfold maxLen at hn
 clear h1 h2 he
 have hq:((n:Int) != (n:Int))=false:=by simp
 go_enter Tryz.func43,Tryz.ntmps43
 go_wp2
 go_loopw [5] (fun v W=>∃ k:Nat,k≤n∧v=.int .i64 k∧Hid (Below w.heap.size w W)) (fun v _=>n - (intOf v).toNat)
 case atStart=>exact ⟨0,Nat.zero_le _,rfl,Below.refl _ _⟩
 case round =>
  rename World=>wk
  obtain ⟨k,hk,rfl,HW⟩:=hrel
  by_cases hlt:k<n
  ·have hr1:=HO1.out.keep (KeepS.of_below (S:=LtB B) HW.out)
   have hr2:=HO2.out.keep (KeepS.of_below (S:=LtB B) HW.out)
   have HD1:Hid (DepOk wk (LtB B) (l1.getD k default)):=hr1.ok _ (getD_mem (by rw [HL1.out]; exact hlt))
   have HD2:Hid (DepOk wk (LtB B) (l2.getD k default)):=hr2.ok _ (getD_mem (by rw [HL2.out]; exact hlt))
   have heq:(l1.getD k default).p=(l2.getD k default).p:=by rw [← map_at MDep.p l1 (by rw [HL1.out]; exact hlt),← map_at MDep.p l2 (by rw [HL2.out]; exact hlt),HE.out]
   obtain ⟨b1,o1,rfl,_,hb1,c0,c1',c2',c3,c4,c5,c6,c7⟩:=hr1.cells hlt
   obtain ⟨b2,o2,rfl,_,hb2,e0,e1,e2,e3,e4,e5,e6,e7⟩:=hr2.cells hlt
   generalize l1.getD k default=d1 at c0 c1' c2' c3 c4 c5 c6 c7 HD1 heq
   generalize l2.getD k default=d2 at e0 e1 e2 e3 e4 e5 e6 e7 HD2 heq
   obtain ⟨nm,r,x⟩:=d1
   obtain ⟨nm2,r2,y⟩:=d2
   injection heq with g1 g2
   have g1:nm=nm2:=g1
   have g2:r=r2:=g2
   subst g1
   subst g2
   have HX:Hid (Range.Weak wk (LtB B) r x):=HD1.out.lies.weak
   have HY:Hid (Range.Weak wk (LtB B) r y):=HD2.out.lies.weak
   have HLN:Hid (LenOk r):=HD1.out.len
   clear hr1 hr2 HD1 HD2
   simp only at c0 c1' c2' c3 c4 c5 c6 c7 e0 e1 e2 e3 e4 e5 e6 e7
   have hbe:((Ident.mk nm).toList == (Ident.mk nm).toList)=true:=mk_eq _
   have hkn:¬ n≤k:=by omega
   have H0:Hid (Below wk.heap.size wk wk.drew):=(Below.refl _ _).drew
   go_wp2
   refine wp_region_held_drew (S:=fun w'=>Below wk.heap.size wk w') (by kernel_rfl) H0.out (fun hHeld=>?_)
   generalize wk.drew=wd at H0 hHeld ⊢
   refine tk 0 rfl (.slice (some ⟨b1,o1,none⟩) n c1) ?_
   refine tk 1 rfl (.int .i64 k) ?_
   refine tk 2 rfl (.pointer (some ⟨b1,o1+k * 8,none⟩)) ?_
   refine tk 3 rfl (.pointer (some ⟨b1,o1+k * 8,none⟩)) ?_
   refine tk 4 rfl (.string (Ident.mk nm)) ?_ (hv:=fun w' hS'=>by (have z0:=(hS'.cell (p:=⟨b1,o1+k * 8,none⟩) hb1).trans c0); go_simp)
   refine tk 5 rfl (.slice (some ⟨b2,o2,none⟩) n c2) ?_
   refine tk 6 rfl (.int .i64 k) ?_
   refine tk 7 rfl (.pointer (some ⟨b2,o2+k * 8,none⟩)) ?_
   refine tk 8 rfl (.pointer (some ⟨b2,o2+k * 8,none⟩)) ?_
   refine tk 9 rfl (.string (Ident.mk nm)) ?_ (hv:=fun w' hS'=>by (have z0:=(hS'.cell (p:=⟨b2,o2+k * 8,none⟩) hb2).trans e0); go_simp)
   refine tk 10 rfl (.bool false) ?_
   refine tk 11 rfl (.bool false) ?_
   refine tk 12 rfl (.slice (some ⟨b1,o1,none⟩) n c1) ?_
   refine tk 13 rfl (.int .i64 k) ?_
   refine tk 14 rfl (.pointer (some ⟨b1,o1+k * 8,none⟩)) ?_
   refine tk 15 rfl (.pointer (some ⟨b1,o1+k * 8+1,none⟩)) ?_
   refine tk 16 rfl x ?_ (hv:=fun w' hS'=>by (have z0:=(hS'.cell (p:=⟨b1,o1+k * 8+1,none⟩) hb1).trans c1'); (have z1:=(hS'.cell (p:=⟨b1,o1+k * 8+2,none⟩) hb1).trans c2'); (have z2:=(hS'.cell (p:=⟨b1,o1+k * 8+3,none⟩) hb1).trans c3); (have z3:=(hS'.cell (p:=⟨b1,o1+k * 8+4,none⟩) hb1).trans c4); (have z4:=(hS'.cell (p:=⟨b1,o1+k * 8+5,none⟩) hb1).trans c5); (have z5:=(hS'.cell (p:=⟨b1,o1+k * 8+6,none⟩) hb1).trans c6); (have z6:=(hS'.cell (p:=⟨b1,o1+k * 8+7,none⟩) hb1).trans c7); go_simp)
   refine tk 17 rfl (.slice (some ⟨b2,o2,none⟩) n c2) ?_
   refine tk 18 rfl (.int .i64 k) ?_
   refine tk 19 rfl (.pointer (some ⟨b2,o2+k * 8,none⟩)) ?_
   refine tk 20 rfl (.pointer (some ⟨b2,o2+k * 8+1,none⟩)) ?_
   refine tk 21 rfl y ?_ (hv:=fun w' hS'=>by (have z0:=(hS'.cell (p:=⟨b2,o2+k * 8+1,none⟩) hb2).trans e1); (have z1:=(hS'.cell (p:=⟨b2,o2+k * 8+2,none⟩) hb2).trans e2); (have z2:=(hS'.cell (p:=⟨b2,o2+k * 8+3,none⟩) hb2).trans e3); (have z3:=(hS'.cell (p:=⟨b2,o2+k * 8+4,none⟩) hb2).trans e4); (have z4:=(hS'.cell (p:=⟨b2,o2+k * 8+5,none⟩) hb2).trans e5); (have z5:=(hS'.cell (p:=⟨b2,o2+k * 8+6,none⟩) hb2).trans e6); (have z6:=(hS'.cell (p:=⟨b2,o2+k * 8+7,none⟩) hb2).trans e7); go_simp)
   refine cl 22 rfl fun K hK=>?_
   go_simp
   refine (Range.refSame_all (wt r) r x y B _ (Nat.le_refl _) HLN.out (HX.out.keep (KeepS.of_below H0.out)) (HY.out.keep (KeepS.of_below H0.out)) (Nat.le_trans hB (Nat.le_trans HW.out.size H0.out.size))).mono ?_
   rintro e W2 ⟨rfl,hb⟩
   have H2:Hid (Below wk.heap.size wk W2):=H0.out.trans (hb.mono H0.out.size)
   refine hK.out _ _ H2.out (fun hHeld2=>?_)
   clear hK K hb
   try simp only [Act.put,p1,p2,p3]
   refine tk 23 rfl (.bool false) ?_
   refine tk 24 rfl (.bool false) ?_
   refine wpAnyH_done (by kernel_rfl) ?_ _
   have HW2:=Lib.hid (HW.out.trans (H2.out.mono HW.out.size))
   clear c0 c1' c2' c3 c4 c5 c6 c7 e0 e1 e2 e3 e4 e5 e6 e7 hHeld hHeld2
   go_wp2
   exact ⟨⟨k+1,by omega,by go_num,HW2.out⟩,by simp [intOf]; omega⟩
  ·obtain rfl:k=n:=by omega
   go_wp2
   go_ret
   exact ⟨rfl,HW.out⟩
end Go.Proofs.YtnpjklaaokiikaaGreatDoor.Model
namespace Go.Proofs.YtnpjklaaokiikaaGreatDoor.Model
open Go.RowKit Num Ident Semver
open Range (Rng noRng RV KeepS LtB LenOk goodR wt)
open Nrm (tot Tells Slim)
open KR (KRow AtV)

def FewD (l:List MDep):Prop:=l.length≤6∧∀ d ∈ l,d.name.length≤300∧(Slim d.r→tot d.r≤12)
structure FewX (x:List MPack):Prop where
 len:x.length≤6
 pack:∀ p ∈ x,p.name.length≤300∧p.rels.length≤6
 rel:∀ p ∈ x,∀ r ∈ p.rels,r.ver.v.pre.length≤20∧r.ver.v.build.length≤20∧FewD r.needs∧FewD r.bans
def FewS (s:List MPin):Prop:=s.length≤8∧∀ p ∈ s,p.name.length≤300∧p.ver.v.pre.length≤20∧p.ver.v.build.length≤20
theorem mem_of_at {α:Type} [Inhabited α] {l:List α} {n:Nat} {P:α→Prop} (hl:l.length=n) (h:∀ j,j<n→P (l.getD j default)):∀ d ∈ l,P d:=by
 intro d hd
 obtain ⟨j,hj,rfl⟩:=List.getElem_of_mem hd
 have:=h j (by omega)
 rwa [List.getD_eq_getElem?_getD,List.getElem?_eq_getElem hj] at this
theorem at_step {α:Type} [Inhabited α] {l:List α} {k:Nat} {P:α→Prop} (hD:∀ j,j<k→P (l.getD j default)) (h:P (l.getD k default)):∀ j,j<k+1→P (l.getD j default):=fun j hj=>by
 rcases Nat.lt_or_ge j k with h1 | h1
 ·exact hD j h1
 ·obtain rfl:j=k:=by omega
  exact h
def DepsPost (l:List MDep) (w:World) (e:Ending) (w':World):Prop:=∃ b:Bool,e=.returned (.bool b)∧(b=true→FewD l)∧Below w.heap.size w w'
def FewP (d:MDep):Prop:=d.name.length≤300∧(Slim d.r→tot d.r≤12)
theorem lawDeps_any (A:Option Addr) (n c:Nat) (l:List MDep) (B:Nat) (w:World) (h:DRow w (LtB B) A n l) (hB:B≤w.heap.size) (hn:n≤maxLen) :
  Calls Tryz.prog 21 #[.slice A n c] w (DepsPost l w):=by
 have HO:=Lib.hid h
 have HL:=Lib.hid h.row.1
 unfold maxLen at hn
 clear h
 by_cases h6:6<n
 ·go_enter Tryz.func21,Tryz.ntmps21
  go_wp2
  go_ret
  exact ⟨false,rfl,(fun h=>by cases h),Below.refl _ _⟩
 ·have HL6:Hid (l.length≤6):=by unfold Hid; rw [HL.out]; omega
  go_enter Tryz.func21,Tryz.ntmps21
  go_wp2
  go_loopw [3] (fun i W=>∃ k:Nat,k≤n∧i=.int .i64 k∧Hid (∀ j,j<k→FewP (l.getD j default))∧Hid (Below w.heap.size w W)) (fun i _=>n - (intOf i).toNat)
  case atStart=>exact ⟨0,Nat.zero_le _,rfl,(fun j hj=>by omega),Below.refl _ _⟩
  case round =>
   rename World=>wk
   obtain ⟨k,hk,rfl,HD,HW⟩:=hrel
   by_cases hlt:k<n
   ·have hrow:=HO.out.keep (KeepS.of_below (S:=LtB B) HW.out)
    have HDO:Hid (DepOk wk (LtB B) (l.getD k default)):=hrow.ok _ (getD_mem (by rw [HL.out]; exact hlt))
    obtain ⟨b,o,rfl,_,hb,c0,c1,c2,c3,c4,c5,c6,c7⟩:=hrow.cells hlt
    have HMO:Hid (FewP (l.getD k default)→∀ j,j<k+1→FewP (l.getD j default)):=at_step HD.out
    clear hrow
    generalize l.getD k default=d at c0 c1 c2 c3 c4 c5 c6 c7 HDO HMO
    have hz:(Ident.mk d.name).size=d.name.length:=mk_size _
    have hsh:d.name.length≤9223372036854775807:=HDO.out.short
    by_cases h3:300<d.name.length
    ·go_wp2
     go_ret
     exact ⟨false,rfl,(fun h=>by cases h),HW.out⟩
    ·have HN3:=Lib.hid h3
     go_wp2_with fail
     refine (Nrm.great_full (wt d.r) d.r d.x B 12 _ (Nat.le_refl _) HDO.out.len HDO.out.lies (Nat.le_trans hB HW.out.size)).mono ?_
     rintro e W1 ⟨z,rfl,ht,hb1⟩
     have HW1:=Lib.hid (HW.out.trans (hb1.mono HW.out.size))
     have HT:=Lib.hid ht
     clear hb1 ht c0 c1 c2 c3 c4 c5 c6 c7
     by_cases hz12:12<z
     ·go_wp2
      go_ret
      exact ⟨false,rfl,(fun h=>by cases h),HW1.out⟩
     ·have HP:Hid (∀ j,j<k+1→FewP (l.getD j default)):=HMO.out ⟨by have:=HN3.out; omega,fun hg=>by
       have:=(HT.out hg (by omega) (by omega)).2.2 (by omega)
       omega⟩
      go_wp2
      exact ⟨⟨k+1,by omega,by go_num,HP.out,HW1.out⟩,by simp [intOf]; omega⟩
   ·obtain rfl:k=n:=by omega
    have HF:Hid (FewD l):=⟨HL6.out,mem_of_at HL.out HD.out⟩
    go_wp2
    go_ret
    exact ⟨true,rfl,(fun _=>HF.out),HW.out⟩
end Go.Proofs.YtnpjklaaokiikaaGreatDoor.Model
namespace Go.Proofs.YtnpjklaaokiikaaGreatDoor.Model
open Go.RowKit Num Ident Semver
open Range (Rng noRng RV KeepS LtB LenOk goodR wt)
open KR (KRow AtV)

def FirstPost (n:Nat) (f:Nat→Int) (I J:Nat→World→Prop) (e:Ending) (w':World):Prop :=
 (∃ k,k<n∧(∀ j,j<k→f j=0)∧f k≠0∧e=.returned (.tuple #[.int .i64 k,.int .i64 (f k)])∧J k w')∨((∀ j,j<n→f j=0)∧e=.returned (.tuple #[.int .i64 (-1),.int .i64 0])∧I n w')
def FirstJ0 (A:Option Addr) (n c g:Nat) (cb:Array Value) (f:Nat→Int) (I:Nat→World→Prop) (a':Act) (W:World):Prop :=
 ∃ (k:Nat) (u2 u3:Value) (u6 u7 u8 u9 u10 u11 u12 u13 u14 u15 u16 u17 u18 u19 u20 u21:Value),k≤n∧Hid (∀ j,j<k→f j=0)∧Hid (I k W)∧a'={ tmps:=#[.slice A n c,.func (.func g) #[] cb,u2,u3,.int .i64 k,.int .i64 0,u6,u7,u8,u9,u10,u11,u12,u13,u14,u15,u16,u17,u18,u19,u20,u21],defers:=[] }
def FirstJ1 (A:Option Addr) (n c g:Nat) (cb:Array Value) (f:Nat→Int) (I J:Nat→World→Prop) (a':Act) (W:World):Prop :=
 ∃ (p q:Int) (u2 u3:Value) (u6 u7 u8 u9 u10 u11 u12 u13 u14 u15 u16 u17 u18 u19 u20 u21:Value),Hid (FirstPost n f I J (.returned (.tuple #[.int .i64 p,.int .i64 q])) W)∧a'={ tmps:=#[.slice A n c,.func (.func g) #[] cb,u2,u3,.int .i64 p,.int .i64 q,u6,u7,u8,u9,u10,u11,u12,u13,u14,u15,u16,u17,u18,u19,u20,u21],defers:=[] }
def FirstM (n:Nat) (a':Act) (_:World):Nat:=n - (intOf (a'.tmps.getD 4 undef)).toNat
theorem firstDep_any (g:Nat) (cb:Array Value) (eg:∀ args w,(callFunc g args).run Tryz.prog w=.ok (.enter g args) w) (A:Option Addr) (n c:Nat) (l:List MDep) (f:Nat→Int) (I J:Nat→World→Prop) (S:Nat→Prop) (w:World) (hn:n≤maxLen)
  (hrow:∀ k W,k≤n→I k W→DRow W S A n l)
  (hcall:∀ k W,k<n→I k W→Calls Tryz.prog g (#[(l.getD k default).agg] ++ cb) W fun e w'=>e=.returned (.int .i64 (f k))∧(f k=0→I (k+1) w')∧(f k≠0→J k w')) (h0:I 0 w) :
  Calls Tryz.prog 119 #[.slice A n c,.func (.func g) #[] cb] w (FirstPost n f I J):=by
 unfold maxLen at hn
 have HR:=Lib.hid hrow
 have HC:=Lib.hid hcall
 have H0:=Lib.hid h0
 clear hrow hcall h0
 go_enter Tryz.func119,Tryz.ntmps119
 go_wp2
 refine wp_two 1 0 (FirstJ0 A n c g cb f I) (FirstJ1 A n c g cb f I J) (FirstM n) (fun _ _=>0) rfl rfl ?_ ?_ ?_
 ·rintro mm a' W ⟨p,q,u2,u3,u6,u7,u8,u9,u10,u11,u12,u13,u14,u15,u16,u17,u18,u19,u20,u21,HP,rfl⟩ hmm
  clear hmm
  go_wp2
  simp only [jumps]
  go_ret2
  exact HP.out
 ·rintro HP mm a' W ⟨k,u2,u3,u6,u7,u8,u9,u10,u11,u12,u13,u14,u15,u16,u17,u18,u19,u20,u21,hk,HA,HI,rfl⟩ hmm
  have hmm2:mm=n - k:=by rw [← hmm]; simp [FirstM,intOf]
  clear hmm
  by_cases hlt:k<n
  ·have hrw:=HR.out k W hk HI.out
   have hcl:=HC.out k W hlt HI.out
   obtain ⟨b,o,rfl,_,hb,c0,c1,c2,c3,c4,c5,c6,c7⟩:=hrw.cells hlt
   clear hrw
   generalize l.getD k default=d at c0 c1 c2 c3 c4 c5 c6 c7 hcl
   unfold MDep.agg at hcl
   obtain ⟨q,hq⟩:∃ q,f k=q:=⟨_,rfl⟩
   rw [hq] at hcl
   have HQ:=Lib.hid hq
   clear hq
   by_cases h0:q=0
   ·have HZ:=Lib.hid (HQ.out.trans h0)
    subst h0
    clear HQ
    go_wp2_with (go_at_fn g; refine hcl.mono ?_; rintro e w' ⟨rfl,hq1,hq2⟩)
    have HI2:Hid (I (k+1) w'):=hq1 (by trivial)
    clear hq1 hq2 c0 c1 c2 c3 c4 c5 c6 c7
    go_step3
    exact .inl ⟨rfl,⟨k+1,u2,u3,_,_,_,_,_,_,_,_,_,_,_,_,_,_,_,_,by omega,(fun j hj=>by
     rcases Nat.lt_or_ge j k with h | h
     ·exact HA.out j h
     ·obtain rfl:j=k:=by omega
      exact HZ.out),HI2,rfl⟩,by (try rw [hmm2]); simp [FirstM,intOf]; omega⟩
   ·have hne:(q == 0)=false:=by simpa using h0
    go_wp2_with (go_at_fn g; refine hcl.mono ?_; rintro e w' ⟨rfl,hq1,hq2⟩)
    have HJ:Hid (J k w'):=hq2 h0
    clear hq1 hq2 c0 c1 c2 c3 c4 c5 c6 c7
    go_step3
    exact .inr ⟨rfl,⟨k,q,u2,u3,_,_,_,_,_,_,_,_,_,_,_,_,_,_,_,_,.inl ⟨k,hlt,HA.out,(by rw [HQ.out]; exact h0),by rw [HQ.out],HJ.out⟩,rfl⟩,by (show 0<mm); omega⟩
  ·obtain rfl:k=n:=by omega
   go_wp2
   go_step3
   rename_i hK
   exact hK _ _ (HP.out _ _ _ ⟨-1,0,u2,u3,_,_,_,_,_,_,_,_,_,_,_,_,_,_,_,_,.inr ⟨HA.out,rfl,HI.out⟩,rfl⟩ (Nat.zero_le _))
 ·intro HP
  go_wp2
  go_step3
  rename_i hK
  exact hK _ _ (HP.out _ _ ⟨0,_,_,_,_,_,_,_,_,_,_,_,_,_,_,_,_,_,_,Nat.zero_le _,(fun j hj=>absurd hj (Nat.not_lt_zero _)),H0.out,rfl⟩)
theorem firstPin_any (g:Nat) (cb:Array Value) (eg:∀ args w,(callFunc g args).run Tryz.prog w=.ok (.enter g args) w) (A:Option Addr) (n c:Nat) (l:List MPin) (f:Nat→Int) (I J:Nat→World→Prop) (S:Nat→Prop) (w:World) (hn:n≤maxLen)
  (hrow:∀ k W,k≤n→I k W→SPRow W S A n l)
  (hcall:∀ k W,k<n→I k W→Calls Tryz.prog g (#[(l.getD k default).agg] ++ cb) W fun e w'=>e=.returned (.int .i64 (f k))∧(f k=0→I (k+1) w')∧(f k≠0→J k w')) (h0:I 0 w) :
  Calls Tryz.prog 121 #[.slice A n c,.func (.func g) #[] cb] w (FirstPost n f I J):=by
 unfold maxLen at hn
 have HR:=Lib.hid hrow
 have HC:=Lib.hid hcall
 have H0:=Lib.hid h0
 clear hrow hcall h0
 go_enter Tryz.func121,Tryz.ntmps121
 go_wp2
 refine wp_two 1 0 (FirstJ0 A n c g cb f I) (FirstJ1 A n c g cb f I J) (FirstM n) (fun _ _=>0) rfl rfl ?_ ?_ ?_
 ·rintro mm a' W ⟨p,q,u2,u3,u6,u7,u8,u9,u10,u11,u12,u13,u14,u15,u16,u17,u18,u19,u20,u21,HP,rfl⟩ hmm
  clear hmm
  go_wp2
  simp only [jumps]
  go_ret2
  exact HP.out
 ·rintro HP mm a' W ⟨k,u2,u3,u6,u7,u8,u9,u10,u11,u12,u13,u14,u15,u16,u17,u18,u19,u20,u21,hk,HA,HI,rfl⟩ hmm
  have hmm2:mm=n - k:=by rw [← hmm]; simp [FirstM,intOf]
  clear hmm
  by_cases hlt:k<n
  ·have hrw:=HR.out k W hk HI.out
   have hcl:=HC.out k W hlt HI.out
   obtain ⟨b,o,rfl,_,hb,c0,c1,c2,c3,c4,c5⟩:=hrw.cells hlt
   clear hrw
   generalize l.getD k default=d at c0 c1 c2 c3 c4 c5 hcl
   unfold MPin.agg at hcl
   obtain ⟨q,hq⟩:∃ q,f k=q:=⟨_,rfl⟩
   rw [hq] at hcl
   have HQ:=Lib.hid hq
   clear hq
   by_cases h0:q=0
   ·have HZ:=Lib.hid (HQ.out.trans h0)
    subst h0
    clear HQ
    go_wp2_with (go_at_fn g; refine hcl.mono ?_; rintro e w' ⟨rfl,hq1,hq2⟩)
    have HI2:Hid (I (k+1) w'):=hq1 (by trivial)
    clear hq1 hq2 c0 c1 c2 c3 c4 c5
    go_step3
    exact .inl ⟨rfl,⟨k+1,u2,u3,_,_,_,_,_,_,_,_,_,_,_,_,_,_,_,_,by omega,(fun j hj=>by
     rcases Nat.lt_or_ge j k with h | h
     ·exact HA.out j h
     ·obtain rfl:j=k:=by omega
      exact HZ.out),HI2,rfl⟩,by (try rw [hmm2]); simp [FirstM,intOf]; omega⟩
   ·have hne:(q == 0)=false:=by simpa using h0
    go_wp2_with (go_at_fn g; refine hcl.mono ?_; rintro e w' ⟨rfl,hq1,hq2⟩)
    have HJ:Hid (J k w'):=hq2 h0
    clear hq1 hq2 c0 c1 c2 c3 c4 c5
    go_step3
    exact .inr ⟨rfl,⟨k,q,u2,u3,_,_,_,_,_,_,_,_,_,_,_,_,_,_,_,_,.inl ⟨k,hlt,HA.out,(by rw [HQ.out]; exact h0),by rw [HQ.out],HJ.out⟩,rfl⟩,by (show 0<mm); omega⟩
  ·obtain rfl:k=n:=by omega
   go_wp2
   go_step3
   rename_i hK
   exact hK _ _ (HP.out _ _ _ ⟨-1,0,u2,u3,_,_,_,_,_,_,_,_,_,_,_,_,_,_,_,_,.inr ⟨HA.out,rfl,HI.out⟩,rfl⟩ (Nat.zero_le _))
 ·intro HP
  go_wp2
  go_step3
  rename_i hK
  exact hK _ _ (HP.out _ _ ⟨0,_,_,_,_,_,_,_,_,_,_,_,_,_,_,_,_,_,_,Nat.zero_le _,(fun j hj=>absurd hj (Nat.not_lt_zero _)),H0.out,rfl⟩)
theorem firstPack_any (g:Nat) (cb:Array Value) (eg:∀ args w,(callFunc g args).run Tryz.prog w=.ok (.enter g args) w) (A:Option Addr) (n c:Nat) (l:List MPack) (f:Nat→Int) (I J:Nat→World→Prop) (S:Nat→Prop) (w:World) (hn:n≤maxLen)
  (hrow:∀ k W,k≤n→I k W→PRow W S A n l)
  (hcall:∀ k W,k<n→I k W→Calls Tryz.prog g (#[(l.getD k default).agg] ++ cb) W fun e w'=>e=.returned (.int .i64 (f k))∧(f k=0→I (k+1) w')∧(f k≠0→J k w')) (h0:I 0 w) :
  Calls Tryz.prog 49 #[.slice A n c,.func (.func g) #[] cb] w (FirstPost n f I J):=by
 unfold maxLen at hn
 have HR:=Lib.hid hrow
 have HC:=Lib.hid hcall
 have H0:=Lib.hid h0
 clear hrow hcall h0
 go_enter Tryz.func49,Tryz.ntmps49
 go_wp2
 refine wp_two 1 0 (FirstJ0 A n c g cb f I) (FirstJ1 A n c g cb f I J) (FirstM n) (fun _ _=>0) rfl rfl ?_ ?_ ?_
 ·rintro mm a' W ⟨p,q,u2,u3,u6,u7,u8,u9,u10,u11,u12,u13,u14,u15,u16,u17,u18,u19,u20,u21,HP,rfl⟩ hmm
  clear hmm
  go_wp2
  simp only [jumps]
  go_ret2
  exact HP.out
 ·rintro HP mm a' W ⟨k,u2,u3,u6,u7,u8,u9,u10,u11,u12,u13,u14,u15,u16,u17,u18,u19,u20,u21,hk,HA,HI,rfl⟩ hmm
  have hmm2:mm=n - k:=by rw [← hmm]; simp [FirstM,intOf]
  clear hmm
  by_cases hlt:k<n
  ·have hrw:=HR.out k W hk HI.out
   have hcl:=HC.out k W hlt HI.out
   obtain ⟨b,o,rfl,_,hb,c0,c1⟩:=hrw.cells hlt
   clear hrw
   generalize l.getD k default=d at c0 c1 hcl
   unfold MPack.agg at hcl
   obtain ⟨q,hq⟩:∃ q,f k=q:=⟨_,rfl⟩
   rw [hq] at hcl
   have HQ:=Lib.hid hq
   clear hq
   by_cases h0:q=0
   ·have HZ:=Lib.hid (HQ.out.trans h0)
    subst h0
    clear HQ
    go_wp2_with (go_at_fn g; refine hcl.mono ?_; rintro e w' ⟨rfl,hq1,hq2⟩)
    have HI2:Hid (I (k+1) w'):=hq1 (by trivial)
    clear hq1 hq2 c0 c1
    go_step3
    exact .inl ⟨rfl,⟨k+1,u2,u3,_,_,_,_,_,_,_,_,_,_,_,_,_,_,_,_,by omega,(fun j hj=>by
     rcases Nat.lt_or_ge j k with h | h
     ·exact HA.out j h
     ·obtain rfl:j=k:=by omega
      exact HZ.out),HI2,rfl⟩,by (try rw [hmm2]); simp [FirstM,intOf]; omega⟩
   ·have hne:(q == 0)=false:=by simpa using h0
    go_wp2_with (go_at_fn g; refine hcl.mono ?_; rintro e w' ⟨rfl,hq1,hq2⟩)
    have HJ:Hid (J k w'):=hq2 h0
    clear hq1 hq2 c0 c1
    go_step3
    exact .inr ⟨rfl,⟨k,q,u2,u3,_,_,_,_,_,_,_,_,_,_,_,_,_,_,_,_,.inl ⟨k,hlt,HA.out,(by rw [HQ.out]; exact h0),by rw [HQ.out],HJ.out⟩,rfl⟩,by (show 0<mm); omega⟩
  ·obtain rfl:k=n:=by omega
   go_wp2
   go_step3
   rename_i hK
   exact hK _ _ (HP.out _ _ _ ⟨-1,0,u2,u3,_,_,_,_,_,_,_,_,_,_,_,_,_,_,_,_,.inr ⟨HA.out,rfl,HI.out⟩,rfl⟩ (Nat.zero_le _))
 ·intro HP
  go_wp2
  go_step3
  rename_i hK
  exact hK _ _ (HP.out _ _ ⟨0,_,_,_,_,_,_,_,_,_,_,_,_,_,_,_,_,_,_,Nat.zero_le _,(fun j hj=>absurd hj (Nat.not_lt_zero _)),H0.out,rfl⟩)
theorem firstRelease_any (g:Nat) (cb:Array Value) (eg:∀ args w,(callFunc g args).run Tryz.prog w=.ok (.enter g args) w) (A:Option Addr) (n c:Nat) (l:List MRel) (f:Nat→Int) (I J:Nat→World→Prop) (S:Nat→Prop) (w:World) (hn:n≤maxLen)
  (hrow:∀ k W,k≤n→I k W→RRow W S A n l)
  (hcall:∀ k W,k<n→I k W→Calls Tryz.prog g (#[(l.getD k default).agg] ++ cb) W fun e w'=>e=.returned (.int .i64 (f k))∧(f k=0→I (k+1) w')∧(f k≠0→J k w')) (h0:I 0 w) :
  Calls Tryz.prog 94 #[.slice A n c,.func (.func g) #[] cb] w (FirstPost n f I J):=by
 unfold maxLen at hn
 have HR:=Lib.hid hrow
 have HC:=Lib.hid hcall
 have H0:=Lib.hid h0
 clear hrow hcall h0
 go_enter Tryz.func94,Tryz.ntmps94
 go_wp2
 refine wp_two 1 0 (FirstJ0 A n c g cb f I) (FirstJ1 A n c g cb f I J) (FirstM n) (fun _ _=>0) rfl rfl ?_ ?_ ?_
 ·rintro mm a' W ⟨p,q,u2,u3,u6,u7,u8,u9,u10,u11,u12,u13,u14,u15,u16,u17,u18,u19,u20,u21,HP,rfl⟩ hmm
  clear hmm
  go_wp2
  simp only [jumps]
  go_ret2
  exact HP.out
 ·rintro HP mm a' W ⟨k,u2,u3,u6,u7,u8,u9,u10,u11,u12,u13,u14,u15,u16,u17,u18,u19,u20,u21,hk,HA,HI,rfl⟩ hmm
  have hmm2:mm=n - k:=by rw [← hmm]; simp [FirstM,intOf]
  clear hmm
  by_cases hlt:k<n
  ·have hrw:=HR.out k W hk HI.out
   have hcl:=HC.out k W hlt HI.out
   obtain ⟨b,o,rfl,_,hb,c0,c1,c2,c3,c4,c5,c6,c7⟩:=hrw.cells hlt
   clear hrw
   generalize l.getD k default=d at c0 c1 c2 c3 c4 c5 c6 c7 hcl
   unfold MRel.agg at hcl
   obtain ⟨q,hq⟩:∃ q,f k=q:=⟨_,rfl⟩
   rw [hq] at hcl
   have HQ:=Lib.hid hq
   clear hq
   by_cases h0:q=0
   ·have HZ:=Lib.hid (HQ.out.trans h0)
    subst h0
    clear HQ
    go_wp2_with (go_at_fn g; refine hcl.mono ?_; rintro e w' ⟨rfl,hq1,hq2⟩)
    have HI2:Hid (I (k+1) w'):=hq1 (by trivial)
    clear hq1 hq2 c0 c1 c2 c3 c4 c5 c6 c7
    go_step3
    exact .inl ⟨rfl,⟨k+1,u2,u3,_,_,_,_,_,_,_,_,_,_,_,_,_,_,_,_,by omega,(fun j hj=>by
     rcases Nat.lt_or_ge j k with h | h
     ·exact HA.out j h
     ·obtain rfl:j=k:=by omega
      exact HZ.out),HI2,rfl⟩,by (try rw [hmm2]); simp [FirstM,intOf]; omega⟩
   ·have hne:(q == 0)=false:=by simpa using h0
    go_wp2_with (go_at_fn g; refine hcl.mono ?_; rintro e w' ⟨rfl,hq1,hq2⟩)
    have HJ:Hid (J k w'):=hq2 h0
    clear hq1 hq2 c0 c1 c2 c3 c4 c5 c6 c7
    go_step3
    exact .inr ⟨rfl,⟨k,q,u2,u3,_,_,_,_,_,_,_,_,_,_,_,_,_,_,_,_,.inl ⟨k,hlt,HA.out,(by rw [HQ.out]; exact h0),by rw [HQ.out],HJ.out⟩,rfl⟩,by (show 0<mm); omega⟩
  ·obtain rfl:k=n:=by omega
   go_wp2
   go_step3
   rename_i hK
   exact hK _ _ (HP.out _ _ _ ⟨-1,0,u2,u3,_,_,_,_,_,_,_,_,_,_,_,_,_,_,_,_,.inr ⟨HA.out,rfl,HI.out⟩,rfl⟩ (Nat.zero_le _))
 ·intro HP
  go_wp2
  go_step3
  rename_i hK
  exact hK _ _ (HP.out _ _ ⟨0,_,_,_,_,_,_,_,_,_,_,_,_,_,_,_,_,_,_,Nat.zero_le _,(fun j hj=>absurd hj (Nat.not_lt_zero _)),H0.out,rfl⟩)
end Go.Proofs.YtnpjklaaokiikaaGreatDoor.Model
