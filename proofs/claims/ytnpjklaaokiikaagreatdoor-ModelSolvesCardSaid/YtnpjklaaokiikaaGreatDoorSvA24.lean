/-
  What the theorem of the last text needs of these: MoCame, MoRefPins, MoRefAll, MoRefMet. Conditions: as each theorem states.
-/
import Derived.Test.YtnpjklaaokiikaaGreatDoorSvA1
import Derived.Test.YtnpjklaaokiikaaGreatDoorSvA18
import Derived.Test.YtnpjklaaokiikaaGreatDoorSvA22
import Derived.Test.YtnpjklaaokiikaaGreatDoorSvA23
set_option maxRecDepth 100000
set_option maxHeartbeats 25600000
namespace Go.Proofs.YtnpjklaaokiikaaGreatDoor.Came
open Go.ChangeShapes Go.WideShapes Go.RowKit Go.Deep
open Range (Rng noRng RV LenOk LtB InS)
open KR (KRow)
open Model (MDep MVer MRel MPack MPin DepOk VerOk RelOk PackOk PinOk DRow RRow PRow SPRow)

theorem name_read {H:Type} {enc:TypeId × Value→H} {W:World} {n:Nat} {z:Value} {y:DataW H × List MemPlace} (h:DataW.trod enc Tryz.prog W 0 (fun _=>true) true n 9 [z]=some y):∃ s:List UInt8,z=.string (Ident.mk s)∧s.length≤maxLen:=by
 obtain ⟨s,e,_,hs⟩:=DataW.trod_string Tryz.underlying9 h
 simp at e
 exact ⟨s.data.toList,by rw [e]; rfl,by rw [← Lib.size_eq]; exact hs⟩
theorem bool_read {H:Type} {enc:TypeId × Value→H} {W:World} {n:Nat} {z:Value} {y:DataW H × List MemPlace} (h:DataW.trod enc Tryz.prog W 0 (fun _=>true) true n 4 [z]=some y):∃ b:Bool,z=.bool b:=by
 obtain ⟨b,e,_⟩:=DataW.trod_bool Tryz.underlying4 h
 simp at e
 exact ⟨b,e⟩
theorem mver_at {H:Type} {enc:TypeId × Value→H} {W:World} {fuel:Nat} {l:List Value} {y:DataW H × List MemPlace} (hf:DataW.trod enc Tryz.prog W 0 (fun _=>true) true fuel 34 l=some y):∃ x:MVer,l=x.vals∧VerOk W (LtB W.heap.size) x:=by
 obtain ⟨v,A,c,B,d,e,h1,h2,h3,h4,h5,_⟩:=ver_full hf
 exact ⟨⟨v,A,c,B,d⟩,e,h1,h2,ins_of h1,ins_of h2,h4,h5,h3⟩
theorem dep_at {H:Type} {enc:TypeId × Value→H} {W:World} {fuel:Nat} {l:List Value} {y:DataW H × List MemPlace} (hf:DataW.trod enc Tryz.prog W 0 (fun _=>true) true fuel 57 l=some y) (hs0:Sized 57 y.1):∃ d:MDep,l=d.vals∧DepOk W (LtB W.heap.size) d:=by
 have hC:Tryz.prog.cellsOf 57=8:=by kernel_rfl
 have cs:Tryz.prog.cellsOf 9=1:=by kernel_rfl
 have cr:Tryz.prog.cellsOf 55=7:=by kernel_rfl
 obtain ⟨xs,n,_,hy0,hsz,hlen,hg⟩:=DataW.trod_struct Tryz.underlying57 hf
 have hl:xs.length=2:=hlen
 rw [hC] at hsz
 match l,hsz with
 | [z0,z1,z2,z3,z4,z5,z6,z7],_ =>
  match xs,hl with
  | [y0,y1],_ =>
   have f0:DataW.trod enc Tryz.prog W 0 (fun _=>true) true n 9 (([z0,z1,z2,z3,z4,z5,z6,z7].drop 0).take (Tryz.prog.cellsOf 9))=some y0:=hg 0 _ rfl
   rw [cs] at f0
   have g0:DataW.trod enc Tryz.prog W 0 (fun _=>true) true n 9 [z0]=some y0:=f0
   have f1:DataW.trod enc Tryz.prog W 0 (fun _=>true) true n 55 (([z0,z1,z2,z3,z4,z5,z6,z7].drop 1).take (Tryz.prog.cellsOf 55))=some y1:=hg 1 _ rfl
   rw [cr] at f1
   have g1:DataW.trod enc Tryz.prog W 0 (fun _=>true) true n 55 [z1,z2,z3,z4,z5,z6,z7]=some y1:=f1
   rw [hy0] at hs0
   clear f0 f1 hg
   obtain ⟨s,rfl,hs⟩:=name_read g0
   obtain ⟨r,x,e,h1,h2,h3⟩:=rng_at n n _ _ (Nat.le_refl _) g1
   exact ⟨⟨s,r,x⟩,by rw [e]; rfl,hs,h1,h2,h3 (hs0.part Tryz.underlying57 (i:=1) rfl rfl)⟩
theorem deps_at {H:Type} {enc:TypeId × Value→H} {W:World} {fuel:Nat} {cs:List Value} {y:DataW H × List MemPlace} (hf:DataW.trod enc Tryz.prog W 0 (fun _=>true) true fuel 25 cs=some y) (hs0:Sized 25 y.1) :
  ∃ (A:Option Addr) (c:Nat) (l:List MDep),cs=[.slice A l.length c]∧DRow W (LtB W.heap.size) A l.length l∧l.length≤c∧c≤maxLen∧(A=none→c=0):=by
 obtain ⟨A,n,c,l,e,h1,h2,h3,h4,h5⟩:=KR.KRow.came (P:=DepOk W (LtB W.heap.size)) Tryz.underlying25 (by kernel_rfl) Model.dep_len (by omega) (fun _ _ _ h q=>dep_at h q) hf hs0
 obtain rfl:=h1.1
 exact ⟨A,c,l,e,⟨h1,h2⟩,h3,h4,h5⟩
theorem rel_at {H:Type} {enc:TypeId × Value→H} {W:World} {fuel:Nat} {l:List Value} {y:DataW H × List MemPlace} (hf:DataW.trod enc Tryz.prog W 0 (fun _=>true) true fuel 36 l=some y) (hs0:Sized 36 y.1):∃ r:MRel,l=r.vals∧RelOk W (LtB W.heap.size) r:=by
 have hC:Tryz.prog.cellsOf 36=8:=by kernel_rfl
 have cv:Tryz.prog.cellsOf 34=5:=by kernel_rfl
 have cb:Tryz.prog.cellsOf 4=1:=by kernel_rfl
 have cd:Tryz.prog.cellsOf 25=1:=by kernel_rfl
 obtain ⟨xs,n,_,hy0,hsz,hlen,hg⟩:=DataW.trod_struct Tryz.underlying36 hf
 have hl:xs.length=4:=hlen
 rw [hC] at hsz
 match l,hsz with
 | [z0,z1,z2,z3,z4,z5,z6,z7],_ =>
  match xs,hl with
  | [y0,y1,y2,y3],_ =>
   have f0:DataW.trod enc Tryz.prog W 0 (fun _=>true) true n 34 (([z0,z1,z2,z3,z4,z5,z6,z7].drop 0).take (Tryz.prog.cellsOf 34))=some y0:=hg 0 _ rfl
   rw [cv] at f0
   have g0:DataW.trod enc Tryz.prog W 0 (fun _=>true) true n 34 [z0,z1,z2,z3,z4]=some y0:=f0
   have f1:DataW.trod enc Tryz.prog W 0 (fun _=>true) true n 4 (([z0,z1,z2,z3,z4,z5,z6,z7].drop 5).take (Tryz.prog.cellsOf 4))=some y1:=hg 1 _ rfl
   rw [cb] at f1
   have g1:DataW.trod enc Tryz.prog W 0 (fun _=>true) true n 4 [z5]=some y1:=f1
   have f2:DataW.trod enc Tryz.prog W 0 (fun _=>true) true n 25 (([z0,z1,z2,z3,z4,z5,z6,z7].drop 6).take (Tryz.prog.cellsOf 25))=some y2:=hg 2 _ rfl
   rw [cd] at f2
   have g2:DataW.trod enc Tryz.prog W 0 (fun _=>true) true n 25 [z6]=some y2:=f2
   have f3:DataW.trod enc Tryz.prog W 0 (fun _=>true) true n 25 (([z0,z1,z2,z3,z4,z5,z6,z7].drop 7).take (Tryz.prog.cellsOf 25))=some y3:=hg 3 _ rfl
   rw [cd] at f3
   have g3:DataW.trod enc Tryz.prog W 0 (fun _=>true) true n 25 [z7]=some y3:=f3
   rw [hy0] at hs0
   clear f0 f1 f2 f3 hg
   obtain ⟨v,e,hv⟩:=mver_at g0
   obtain ⟨b,rfl⟩:=bool_read g1
   obtain ⟨N,nc,ln,e1,p1,p2,p3,p4⟩:=deps_at g2 (hs0.part Tryz.underlying36 (i:=2) rfl rfl)
   obtain ⟨B,bc,lb,e2,q1,q2,q3,q4⟩:=deps_at g3 (hs0.part Tryz.underlying36 (i:=3) rfl rfl)
   simp at e1 e2
   subst e1
   subst e2
   exact ⟨⟨v,b,N,nc,ln,B,bc,lb⟩,by show [z0,z1,z2,z3,z4] ++ [.bool b,.slice N ln.length nc,.slice B lb.length bc]=_; rw [e]; rfl,hv,p1,q1,⟨p2,p3⟩,⟨q2,q3⟩,p4,q4⟩
theorem rels_at {H:Type} {enc:TypeId × Value→H} {W:World} {fuel:Nat} {cs:List Value} {y:DataW H × List MemPlace} (hf:DataW.trod enc Tryz.prog W 0 (fun _=>true) true fuel 58 cs=some y) (hs0:Sized 58 y.1) :
  ∃ (A:Option Addr) (c:Nat) (l:List MRel),cs=[.slice A l.length c]∧RRow W (LtB W.heap.size) A l.length l∧l.length≤c∧c≤maxLen∧(A=none→c=0):=by
 obtain ⟨A,n,c,l,e,h1,h2,h3,h4,h5⟩:=KR.KRow.came (P:=RelOk W (LtB W.heap.size)) Tryz.underlying58 (by kernel_rfl) Model.rel_len (by omega) (fun _ _ _ h q=>rel_at h q) hf hs0
 obtain rfl:=h1.1
 exact ⟨A,c,l,e,⟨h1,h2⟩,h3,h4,h5⟩
theorem pack_at {H:Type} {enc:TypeId × Value→H} {W:World} {fuel:Nat} {l:List Value} {y:DataW H × List MemPlace} (hf:DataW.trod enc Tryz.prog W 0 (fun _=>true) true fuel 60 l=some y) (hs0:Sized 60 y.1):∃ p:MPack,l=p.vals∧PackOk W (LtB W.heap.size) p:=by
 have hC:Tryz.prog.cellsOf 60=2:=by kernel_rfl
 have cs:Tryz.prog.cellsOf 9=1:=by kernel_rfl
 have cr:Tryz.prog.cellsOf 58=1:=by kernel_rfl
 obtain ⟨xs,n,_,hy0,hsz,hlen,hg⟩:=DataW.trod_struct Tryz.underlying60 hf
 have hl:xs.length=2:=hlen
 rw [hC] at hsz
 match l,hsz with
 | [z0,z1],_ =>
  match xs,hl with
  | [y0,y1],_ =>
   have f0:DataW.trod enc Tryz.prog W 0 (fun _=>true) true n 9 (([z0,z1].drop 0).take (Tryz.prog.cellsOf 9))=some y0:=hg 0 _ rfl
   rw [cs] at f0
   have g0:DataW.trod enc Tryz.prog W 0 (fun _=>true) true n 9 [z0]=some y0:=f0
   have f1:DataW.trod enc Tryz.prog W 0 (fun _=>true) true n 58 (([z0,z1].drop 1).take (Tryz.prog.cellsOf 58))=some y1:=hg 1 _ rfl
   rw [cr] at f1
   have g1:DataW.trod enc Tryz.prog W 0 (fun _=>true) true n 58 [z1]=some y1:=f1
   rw [hy0] at hs0
   clear f0 f1 hg
   obtain ⟨s,rfl,hs⟩:=name_read g0
   obtain ⟨R,rc,l,e1,p1,p2,p3,p4⟩:=rels_at g1 (hs0.part Tryz.underlying60 (i:=1) rfl rfl)
   simp at e1
   subst e1
   exact ⟨⟨s,R,rc,l⟩,rfl,hs,p1,⟨p2,p3⟩,p4⟩
theorem packs_at {H:Type} {enc:TypeId × Value→H} {W:World} {fuel:Nat} {cs:List Value} {y:DataW H × List MemPlace} (hf:DataW.trod enc Tryz.prog W 0 (fun _=>true) true fuel 22 cs=some y) (hs0:Sized 22 y.1) :
  ∃ (A:Option Addr) (c:Nat) (l:List MPack),cs=[.slice A l.length c]∧PRow W (LtB W.heap.size) A l.length l∧l.length≤c∧c≤maxLen∧(A=none→c=0):=by
 obtain ⟨A,n,c,l,e,h1,h2,h3,h4,h5⟩:=KR.KRow.came (P:=PackOk W (LtB W.heap.size)) Tryz.underlying22 (by kernel_rfl) Model.pack_len (by omega) (fun _ _ _ h q=>pack_at h q) hf hs0
 obtain rfl:=h1.1
 exact ⟨A,c,l,e,⟨h1,h2⟩,h3,h4,h5⟩
theorem pin_at {H:Type} {enc:TypeId × Value→H} {W:World} {fuel:Nat} {l:List Value} {y:DataW H × List MemPlace} (hf:DataW.trod enc Tryz.prog W 0 (fun _=>true) true fuel 62 l=some y):∃ p:MPin,l=p.vals∧PinOk W (LtB W.heap.size) p:=by
 have hC:Tryz.prog.cellsOf 62=6:=by kernel_rfl
 have cs:Tryz.prog.cellsOf 9=1:=by kernel_rfl
 have cv:Tryz.prog.cellsOf 34=5:=by kernel_rfl
 obtain ⟨xs,n,_,_,hsz,hlen,hg⟩:=DataW.trod_struct Tryz.underlying62 hf
 have hl:xs.length=2:=hlen
 rw [hC] at hsz
 match l,hsz with
 | [z0,z1,z2,z3,z4,z5],_ =>
  match xs,hl with
  | [y0,y1],_ =>
   have f0:DataW.trod enc Tryz.prog W 0 (fun _=>true) true n 9 (([z0,z1,z2,z3,z4,z5].drop 0).take (Tryz.prog.cellsOf 9))=some y0:=hg 0 _ rfl
   rw [cs] at f0
   have g0:DataW.trod enc Tryz.prog W 0 (fun _=>true) true n 9 [z0]=some y0:=f0
   have f1:DataW.trod enc Tryz.prog W 0 (fun _=>true) true n 34 (([z0,z1,z2,z3,z4,z5].drop 1).take (Tryz.prog.cellsOf 34))=some y1:=hg 1 _ rfl
   rw [cv] at f1
   have g1:DataW.trod enc Tryz.prog W 0 (fun _=>true) true n 34 [z1,z2,z3,z4,z5]=some y1:=f1
   clear f0 f1 hg
   obtain ⟨s,rfl,hs⟩:=name_read g0
   obtain ⟨v,e,hv⟩:=mver_at g1
   exact ⟨⟨s,v⟩,by rw [e]; rfl,hs,hv⟩
theorem pins_at {H:Type} {enc:TypeId × Value→H} {W:World} {fuel:Nat} {cs:List Value} {y:DataW H × List MemPlace} (hf:DataW.trod enc Tryz.prog W 0 (fun _=>true) true fuel 26 cs=some y) (hs0:Sized 26 y.1) :
  ∃ (A:Option Addr) (c:Nat) (l:List MPin),cs=[.slice A l.length c]∧SPRow W (LtB W.heap.size) A l.length l∧l.length≤c∧c≤maxLen∧(A=none→c=0):=by
 obtain ⟨A,n,c,l,e,h1,h2,h3,h4,h5⟩:=KR.KRow.came (P:=PinOk W (LtB W.heap.size)) Tryz.underlying26 (by kernel_rfl) Model.pin_len (by omega) (fun _ _ _ h _=>pin_at h) hf hs0
 obtain rfl:=h1.1
 exact ⟨A,c,l,e,⟨h1,h2⟩,h3,h4,h5⟩
end Go.Proofs.YtnpjklaaokiikaaGreatDoor.Came
namespace Go.Proofs.YtnpjklaaokiikaaGreatDoor.Model
open Go.RowKit Num Ident Semver
open Range (Rng noRng RV KeepS LtB LenOk goodR wt)
open KR (KRow AtV)
open Name (isName)

theorem mk_ne {a b:List UInt8} (h:a≠b):((Ident.mk a).toList == (Ident.mk b).toList)=false:=by
 rw [Lib.toList_data,Lib.toList_data,beq_eq_false_iff_ne]; exact h
theorem mk_eq (a:List UInt8):((Ident.mk a).toList == (Ident.mk a).toList)=true:=by simp
theorem nameB_yes {α:Type} [Inhabited α] {nm:α→List UInt8} {l:List α} {k j:Nat} (hj:j<k) (hk:k<l.length) (h:nm (l.getD j default)=nm (l.getD k default)):nameB nm l k=true:=by
 unfold nameB
 rw [List.any_eq_true]
 refine ⟨l.getD j default,?_,by rw [beq_iff_eq]; exact h⟩
 rw [List.getD_eq_getElem?_getD,List.getElem?_eq_getElem (by omega)]
 exact List.mem_take_iff_getElem.2 ⟨j,by omega,rfl⟩
theorem nameB_no {α:Type} [Inhabited α] {nm:α→List UInt8} {l:List α} {k:Nat} (h:∀ j,j<k→nm (l.getD j default)≠nm (l.getD k default)):nameB nm l k=false:=by
 unfold nameB
 rw [List.any_eq_false]
 intro x hx
 obtain ⟨j,hj,rfl⟩:=List.mem_take_iff_getElem.1 hx
 have:=h j (by omega)
 rw [List.getD_eq_getElem?_getD,List.getElem?_eq_getElem (by omega)] at this
 simpa using this
theorem SPRow.cells {w:World} {S:Nat→Prop} {A:Option Addr} {n:Nat} {l:List MPin} (h:SPRow w S A n l) {k:Nat} (hk:k<n):∃ b o,A=some ⟨b,o,none⟩∧S b∧b<w.heap.size ∧
  w.cell? ⟨b,o+k * 6,none⟩=some (.string (Ident.mk (l.getD k default).name))∧w.cell? ⟨b,o+k * 6+1,none⟩=some (.int .u64 ((l.getD k default).ver.v.a))∧w.cell? ⟨b,o+k * 6+2,none⟩=some (.int .u64 ((l.getD k default).ver.v.b))∧w.cell? ⟨b,o+k * 6+3,none⟩=some (.int .u64 ((l.getD k default).ver.v.c))∧w.cell? ⟨b,o+k * 6+4,none⟩=some (.slice (l.getD k default).ver.A (l.getD k default).ver.v.pre.length (l.getD k default).ver.c)∧w.cell? ⟨b,o+k * 6+5,none⟩=some (.slice (l.getD k default).ver.B (l.getD k default).ver.v.build.length (l.getD k default).ver.d):=by
 obtain ⟨b,o,e,hb,hlt,hc⟩:=h.row.at_ hk
 exact ⟨b,o,e,hb,hlt,hc 0 _ rfl,hc 1 _ rfl,hc 2 _ rfl,hc 3 _ rfl,hc 4 _ rfl,hc 5 _ rfl⟩
theorem pinE_name {s:List PPin} {k:Nat} {p:PPin} (h:isName p.name=false):pinE s k p=12:=by unfold pinE; rw [if_pos h]
theorem pinE_ver {s:List PPin} {k:Nat} {p:PPin} (h:isName p.name=true) (g:goodV p.v=false):pinE s k p=3:=by unfold pinE; rw [if_neg (by rw [h]; decide),if_pos g]
theorem pinE_there {s:List PPin} {k:Nat} {p:PPin} (h:isName p.name=true) (g:goodV p.v=true) (q:nameB PPin.name s k=true):pinE s k p=6:=by unfold pinE; rw [if_neg (by rw [h]; decide),if_neg (by rw [g]; decide),if_pos q]
theorem pinE_good {s:List PPin} {k:Nat} {p:PPin} (h:isName p.name=true) (g:goodV p.v=true) (q:nameB PPin.name s k=false):pinE s k p=0:=by unfold pinE; rw [if_neg (by rw [h]; decide),if_neg (by rw [g]; decide),if_neg (by rw [q]; decide)]
theorem refPins_any (A:Option Addr) (n c:Nat) (l:List MPin) (B:Nat) (w:World) (h:SPRow w (LtB B) A n l) (_hB:B≤w.heap.size) (hn:n≤maxLen) (hs:∀ d ∈ l,d.name.length≤1000000) :
  Calls Tryz.prog 33 #[.slice A n c] w fun e w'=>e=.returned (out2V (pinsF (l.map MPin.p)))∧Below w.heap.size w w':=by
 have HO:=Lib.hid h
 have HL:=Lib.hid h.row.1
 have HS:=Lib.hid hs
 unfold maxLen at hn
 clear h hs
 go_enter Tryz.func33,Tryz.ntmps33
 go_wp2
 go_loopw [4] (fun i W=>∃ k:Nat,k≤n∧i=.int .i64 k∧Hid (∀ j,j<k→pinE (l.map MPin.p) j (l.getD j default).p=0)∧Hid (Below w.heap.size w W)) (fun i _=>n - (intOf i).toNat)
 case atStart=>exact ⟨0,Nat.zero_le _,rfl,(fun j hj=>by omega),Below.refl _ _⟩
 case round =>
  rename World=>wk
  obtain ⟨k,hk,rfl,HD,HW⟩:=hrel
  by_cases hlt:k<n
  ·have hrow:=HO.out.keep (KeepS.of_below (S:=LtB B) HW.out)
   have HDO:Hid (PinOk wk (LtB B) (l.getD k default)):=hrow.ok _ (getD_mem (by rw [HL.out]; exact hlt))
   have HNS:=Lib.hid (HS.out _ (getD_mem (l:=l) (k:=k) (by rw [HL.out]; exact hlt)))
   obtain ⟨b,o,e0,_,hb,c0,c1,c2,c3,c4,c5⟩:=hrow.cells hlt
   have HST:Hid (pinE (l.map MPin.p) k (l.getD k default).p≠0→pinsF (l.map MPin.p)=some (k,pinE (l.map MPin.p) k (l.getD k default).p)):=fun hne=>by
    have q:=firstG_stop (fun k p=>toO (pinE (l.map MPin.p) k p)) (l.map MPin.p) 0 k (pinE (l.map MPin.p) k (l.getD k default).p) (by rw [List.length_map,HL.out]; exact hlt) (fun j hj=>by rw [map_at _ _ (by rw [HL.out]; omega),Nat.zero_add]; exact toO_none.2 (HD.out j hj)) (by rw [map_at _ _ (by rw [HL.out]; exact hlt),Nat.zero_add]; exact toO_some hne)
    rwa [Nat.zero_add] at q
   have HYES:Hid (∀ j,j<k→(l.getD j default).name=(l.getD k default).name→nameB PPin.name (l.map MPin.p) k=true):=fun j hj e=>nameB_yes hj (by rw [List.length_map,HL.out]; exact hlt) (by rw [map_at _ _ (by rw [HL.out]; omega),map_at _ _ (by rw [HL.out]; exact hlt)]; exact e)
   have HNO:Hid ((∀ j,j<k→(l.getD j default).name≠(l.getD k default).name)→nameB PPin.name (l.map MPin.p) k=false):=fun q=>nameB_no fun j hj=>by rw [map_at _ _ (by rw [HL.out]; omega),map_at _ _ (by rw [HL.out]; exact hlt)]; exact q j hj
   clear hrow
   have HMO:Hid (pinE (l.map MPin.p) k (l.getD k default).p=0→∀ j,j<k+1→pinE (l.map MPin.p) j (l.getD j default).p=0):=fun h j hj=>by
    rcases Nat.lt_or_ge j k with h1 | h1
    ·exact HD.out j h1
    ·obtain rfl:j=k:=by omega
     exact h
   obtain ⟨p,hp⟩:∃ p,l.getD k default=p:=⟨_,rfl⟩
   rw [hp] at c0 c1 c2 c3 c4 c5 HDO HNS HST HMO HYES HNO
   have HPE:=Lib.hid hp
   clear hp
   subst e0
   go_wp2_with fail
   refine (Name.ref_good_any (Ident.mk p.name) _ (by rw [mk_size]; exact HNS.out)).mono ?_
   rw [mk_list]
   rintro e W1 ⟨rfl,rfl⟩
   cases hnm:isName p.name
   ·have HF:Hid (pinsF (l.map MPin.p)=some (k,12)):=by have q:=pinE_name (s:=l.map MPin.p) (k:=k) (p:=p.p) hnm; have:=HST.out; rw [q] at this; exact this (by decide)
    clear hnm
    go_wp2
    go_ret2
    exact ⟨by rw [HF.out]; rfl,HW.out⟩
   ·have HNM:=Lib.hid hnm
    clear hnm
    go_wp2_with fail
    refine (refGood_all p.ver.v p.ver.A p.ver.c p.ver.B p.ver.d _ HDO.out.ver.pre HDO.out.ver.build HDO.out.ver.fit.pre HDO.out.ver.fit.build HDO.out.ver.fit.pres HDO.out.ver.fit.builds).mono ?_
    rintro e W1 ⟨rfl,hb1⟩
    have HW1:=Lib.hid (HW.out.trans (hb1.mono HW.out.size))
    clear hb1 c0 c1 c2 c3 c4 c5
    cases hg:goodV p.ver.v
    ·have HF:Hid (pinsF (l.map MPin.p)=some (k,3)):=by have q:=pinE_ver (s:=l.map MPin.p) (k:=k) (p:=p.p) HNM.out hg; have:=HST.out; rw [q] at this; exact this (by decide)
     clear hg
     go_wp2
     go_ret2
     exact ⟨by rw [HF.out]; rfl,HW1.out⟩
    ·have HG:=Lib.hid hg
     clear hg hb
     go_wp2
     go_loopw [5] (fun i W=>∃ m:Nat,m≤k∧i=.int .i64 m∧Hid (∀ j,j<m→(l.getD j default).name≠p.name)∧Hid (Below w.heap.size w W)) (fun i _=>k - (intOf i).toNat)
     case atStart=>exact ⟨0,Nat.zero_le _,rfl,(fun j hj=>by omega),HW1.out⟩
     case round =>
      rename World=>wm
      obtain ⟨m,hm,rfl,HDM,HWM⟩:=hrel
      have hrow:=HO.out.keep (KeepS.of_below (S:=LtB B) HWM.out)
      obtain ⟨b2,o2,e2,_,hb2,c0,_⟩:=hrow.cells hlt
      injection e2 with e3
      injection e3 with e3 e4
      subst e3
      subst e4
      rw [HPE.out] at c0
      by_cases hmk:m<k
      ·obtain ⟨b2,o2,e2,_,_,f0,_⟩:=hrow.cells (show m<n by omega)
       injection e2 with e3
       injection e3 with e3 e4
       subst e3
       subst e4
       have HPM:Hid ((l.getD m default).name=p.name→nameB PPin.name (l.map MPin.p) k=true):=fun e=>HYES.out m hmk e
       have HDN:Hid ((l.getD m default).name≠p.name→∀ j,j<m+1→(l.getD j default).name≠p.name):=fun e j hj=>by
        rcases Nat.lt_or_ge j m with h1 | h1
        ·exact HDM.out j h1
        ·obtain rfl:j=m:=by omega
         exact e
       obtain ⟨q,hq⟩:∃ q,(l.getD m default).name=q:=⟨_,rfl⟩
       rw [hq] at f0 HPM HDN
       clear hq hrow
       have d0:wm.drew.cell? ⟨b,o+k * 6,none⟩=_:=c0
       have d1:wm.drew.cell? ⟨b,o+m * 6,none⟩=_:=f0
       have hmn:¬ n≤m:=by omega
       have hkn:¬ n≤k:=by omega
       by_cases hqp:q=p.name
       ·have HF:Hid (pinsF (l.map MPin.p)=some (k,6)):=by have r:=pinE_there (s:=l.map MPin.p) (k:=k) (p:=p.p) HNM.out HG.out (HPM.out hqp); have:=HST.out; rw [r] at this; exact this (by decide)
        have hbe:((Ident.mk q).toList == (Ident.mk p.name).toList)=true:=by rw [hqp]; exact mk_eq _
        clear hqp
        go_wp2
        refine wp_region_held_drew (S:=fun w'=>w'=wm.drew) (by kernel_rfl) rfl (fun hHeld=>?_)
        refine tk 0 rfl (.slice (some ⟨b,o,none⟩) n c) ?_ (hv:=fun w' hS'=>by subst hS'; go_simp)
        refine tk 1 rfl (.int .i64 m) ?_ (hv:=fun w' hS'=>by subst hS'; go_simp)
        refine tk 2 rfl (.pointer (some ⟨b,o+m * 6,none⟩)) ?_ (hv:=fun w' hS'=>by subst hS'; go_simp)
        refine tk 3 rfl (.pointer (some ⟨b,o+m * 6,none⟩)) ?_ (hv:=fun w' hS'=>by subst hS'; go_simp)
        refine tk 4 rfl (.string (Ident.mk q)) ?_ (hv:=fun w' hS'=>by subst hS'; go_simp)
        refine tk 5 rfl (.slice (some ⟨b,o,none⟩) n c) ?_ (hv:=fun w' hS'=>by subst hS'; go_simp)
        refine tk 6 rfl (.int .i64 k) ?_ (hv:=fun w' hS'=>by subst hS'; go_simp)
        refine tk 7 rfl (.pointer (some ⟨b,o+k * 6,none⟩)) ?_ (hv:=fun w' hS'=>by subst hS'; go_simp)
        refine tk 8 rfl (.pointer (some ⟨b,o+k * 6,none⟩)) ?_ (hv:=fun w' hS'=>by subst hS'; go_simp)
        refine tk 9 rfl (.string (Ident.mk p.name)) ?_ (hv:=fun w' hS'=>by subst hS'; go_simp)
        refine tk 10 rfl (.bool true) ?_ (hv:=fun w' hS'=>by subst hS'; go_simp)
        refine wpAnyH_done (by kernel_rfl) ?_ _
        have HW2:Hid (Below w.heap.size w wm.drew):=HWM.out.drew
        clear c0 f0 d0 d1 hHeld
        generalize wm.drew=wm2 at HW2 ⊢
        go_wp2
        go_ret2
        exact ⟨by rw [HF.out]; rfl,HW2.out⟩
       ·have HDN2:=Lib.hid (HDN.out hqp)
        have hbe:((Ident.mk q).toList == (Ident.mk p.name).toList)=false:=mk_ne hqp
        clear hqp
        go_wp2
        refine wp_region_held_drew (S:=fun w'=>w'=wm.drew) (by kernel_rfl) rfl (fun hHeld=>?_)
        refine tk 0 rfl (.slice (some ⟨b,o,none⟩) n c) ?_ (hv:=fun w' hS'=>by subst hS'; go_simp)
        refine tk 1 rfl (.int .i64 m) ?_ (hv:=fun w' hS'=>by subst hS'; go_simp)
        refine tk 2 rfl (.pointer (some ⟨b,o+m * 6,none⟩)) ?_ (hv:=fun w' hS'=>by subst hS'; go_simp)
        refine tk 3 rfl (.pointer (some ⟨b,o+m * 6,none⟩)) ?_ (hv:=fun w' hS'=>by subst hS'; go_simp)
        refine tk 4 rfl (.string (Ident.mk q)) ?_ (hv:=fun w' hS'=>by subst hS'; go_simp)
        refine tk 5 rfl (.slice (some ⟨b,o,none⟩) n c) ?_ (hv:=fun w' hS'=>by subst hS'; go_simp)
        refine tk 6 rfl (.int .i64 k) ?_ (hv:=fun w' hS'=>by subst hS'; go_simp)
        refine tk 7 rfl (.pointer (some ⟨b,o+k * 6,none⟩)) ?_ (hv:=fun w' hS'=>by subst hS'; go_simp)
        refine tk 8 rfl (.pointer (some ⟨b,o+k * 6,none⟩)) ?_ (hv:=fun w' hS'=>by subst hS'; go_simp)
        refine tk 9 rfl (.string (Ident.mk p.name)) ?_ (hv:=fun w' hS'=>by subst hS'; go_simp)
        refine tk 10 rfl (.bool false) ?_ (hv:=fun w' hS'=>by subst hS'; go_simp)
        refine wpAnyH_done (by kernel_rfl) ?_ _
        have HW2:Hid (Below w.heap.size w wm.drew):=HWM.out.drew
        clear c0 f0 d0 d1 hHeld
        generalize wm.drew=wm2 at HW2 ⊢
        go_wp2
        exact ⟨⟨m+1,by omega,by go_num,HDN2.out,HW2.out⟩,by simp [intOf]; omega⟩
      ·obtain rfl:m=k:=by omega
       have HM:Hid (∀ j,j<m+1→pinE (l.map MPin.p) j (l.getD j default).p=0):=HMO.out (pinE_good HNM.out HG.out (HNO.out HDM.out))
       clear hrow c0
       go_wp2
       exact ⟨⟨m+1,by omega,by go_num,HM.out,HWM.out⟩,by simp [intOf]; omega⟩
  ·obtain rfl:k=n:=by omega
   have HF:Hid (pinsF (l.map MPin.p)=none):=firstG_none _ _ 0 fun j hj=>by
    rw [List.length_map] at hj
    rw [map_at _ _ hj,Nat.zero_add]; exact toO_none.2 (HD.out j (by rw [← HL.out]; exact hj))
   go_wp2
   go_ret2
   exact ⟨by rw [HF.out]; rfl,HW.out⟩
end Go.Proofs.YtnpjklaaokiikaaGreatDoor.Model
namespace Go.Proofs.YtnpjklaaokiikaaGreatDoor.Model
open Go.RowKit Num Ident Semver
open Range (Rng noRng RV KeepS LtB LenOk goodR wt)
open KR (KRow AtV run_append_k region_append)

def AllPost (w:World) (B:Nat) (r:MRel) (e:Ending) (W:World):Prop :=
 ∃ (A:Option Addr) (c:Nat),e=.returned (.slice A (r.needs ++ r.bans).length c)∧(r.needs ++ r.bans).length≤c∧(A=none→c=0)∧KRow MDep.vals 8 W (fun g=>w.heap.size≤g) A (r.needs ++ r.bans).length (r.needs ++ r.bans)∧(∀ d ∈ r.needs ++ r.bans,DepOk W (LtB B) d)∧Below w.heap.size w W
theorem refAll_any (r:MRel) (B:Nat) (w:World) (h:RelOk w (LtB B) r) (hB:B≤w.heap.size) (h1:r.needs.length≤1000000) (h2:r.bans.length≤1000000) :
  Calls Tryz.prog 77 #[r.agg] w (AllPost w B r):=by
 have HO:=Lib.hid h
 have HBB:=Lib.hid hB
 have HN1:=Lib.hid h1
 have HN2:=Lib.hid h2
 clear h hB h1 h2
 obtain ⟨W0,hW,hav,hb0⟩:∃ W,W=w.alloc (.cells #[r.ver.v.a,r.ver.v.b,r.ver.v.c,.slice r.ver.A r.ver.v.pre.length r.ver.c,.slice r.ver.B r.ver.v.build.length r.ver.d,.bool r.yanked,.slice r.N r.needs.length r.nc,.slice r.B r.bans.length r.bc] 36)∧AtV W w.heap.size [.int .u64 r.ver.v.a,.int .u64 r.ver.v.b,.int .u64 r.ver.v.c,.slice r.ver.A r.ver.v.pre.length r.ver.c,.slice r.ver.B r.ver.v.build.length r.ver.d,.bool r.yanked,.slice r.N r.needs.length r.nc,.slice r.B r.bans.length r.bc]∧Below w.heap.size w W:=⟨_,rfl,AtV.new w _ _,(Below.refl _ _).alloc (Nat.le_refl _) _⟩
 have HAV:=Lib.hid hav
 have HB0:=Lib.hid hb0
 clear hav hb0
 obtain ⟨bd,hbd⟩:∃ bd,w.heap.size=bd:=⟨_,rfl⟩
 have HBD:=Lib.hid hbd
 unfold MRel.agg
 go_enter Tryz.func77,Tryz.ntmps77
 go_upto_region 1 with (fail)
 rw [← hW]
 clear hW
 rw [hbd] at HAV
 clear hbd
 have a6:=HAV.out.at_ 6 _ rfl
 have a7:=HAV.out.at_ 7 _ rfl
 have hlt:=HAV.out.lt
 have H0:Hid (Below W0.heap.size W0 W0.drew):=(Below.refl _ _).drew
 refine wp_region_held_drew (S:=fun w'=>Below W0.heap.size W0 w') (by kernel_rfl) H0.out (fun hHeld=>?_)
 generalize W0.drew=W1 at H0 hHeld ⊢
 refine tk 1 rfl (.pointer (some ⟨bd,6,none⟩)) ?_
 refine tk 2 rfl (.slice r.N r.needs.length r.nc) ?_ (hv:=fun w' hS'=>by have q:=(hS'.cell (p:=⟨bd,6,none⟩) hlt).trans a6; go_simp)
 refine tk 4 rfl (.pointer (some ⟨bd,7,none⟩)) ?_
 refine tk 5 rfl (.slice r.B r.bans.length r.bc) ?_ (hv:=fun w' hS'=>by have q:=(hS'.cell (p:=⟨bd,7,none⟩) hlt).trans a7; go_simp)
 refine cl 0 rfl fun K hK=>?_
 go_simp
 have H2:Hid (Below W0.heap.size W0 (W1.alloc (.cells #[] 57))):=H0.out.alloc H0.out.size _
 have O2:Hid (World.ownsRow (W1.alloc (.cells #[] 57)) W0.heap.size 57 8 (.slice (some ⟨W1.heap.size,0,none⟩) 0 0) 0 (([]:List MDep).flatMap MDep.vals)):=World.ownsRow_made (base:=W0.heap.size) (e:=57) (size:=8) W1 #[] 0 H0.out.size (by unfold maxLen; omega) rfl
 refine hK.out _ _ H2.out (fun hHeld2=>?_)
 clear hK K hHeld2
 try simp only [Act.put,p1,p2,p3]
 obtain ⟨g,hg⟩:∃ g,W1.heap.size=g:=⟨_,rfl⟩
 rw [hg] at O2 ⊢
 clear hg
 generalize W1.alloc (.cells #[] 57)=W2 at H2 O2 ⊢
 have HK2:Hid (KeepS (LtB B) w W2):=KeepS.of_below (HB0.out.trans (H2.out.mono HB0.out.size))
 refine cl 3 rfl fun K hK=>?_
 obtain ⟨v3,W3,hrun,ho,hgr⟩:=run_append_k Tryz.underlying25 depInfo rfl dep_len (by omega) dep_one W2 25 W0.heap.size (.slice (some ⟨g,0,none⟩) 0 0) 0 [] O2.out r.N r.needs.length r.nc r.needs (HO.out.needs.row.keep HK2.out) HO.out.nn (by have:=HN1.out; unfold maxLen; omega) (by have:=HN1.out; omega) H2.out.size
 have H3:Hid (Below W0.heap.size W0 W3):=H2.out.grown hgr H2.out.size (fun k hk=>(O2.out.lt k hk).1)
 have O3:=Lib.hid ho
 rw [Nat.zero_add,List.nil_append] at O3
 refine region_append (by rfl) _ _ rfl rfl rfl hrun ?_
 clear hrun ho hgr
 refine hK.out _ _ H3.out (fun hHeld3=>?_)
 clear hK K hHeld3
 try simp only [Act.put,p1,p2,p3]
 have HK3:Hid (KeepS (LtB B) w W3):=KeepS.of_below (HB0.out.trans (H3.out.mono HB0.out.size))
 refine cl 6 rfl fun K hK=>?_
 obtain ⟨v4,W4,hrun,ho,hgr⟩:=run_append_k Tryz.underlying25 depInfo rfl dep_len (by omega) dep_one W3 25 W0.heap.size v3 r.needs.length r.needs O3.out r.B r.bans.length r.bc r.bans (HO.out.bans.row.keep HK3.out) HO.out.bn (by have:=HN1.out; have:=HN2.out; unfold maxLen; omega) (by have:=HN1.out; have:=HN2.out; omega) H3.out.size
 have H4:Hid (Below W0.heap.size W0 W4):=H3.out.grown hgr H3.out.size (fun k hk=>(O3.out.lt k hk).1)
 have O4:Hid (World.ownsRow W4 W0.heap.size 57 8 v4 (r.needs ++ r.bans).length ((r.needs ++ r.bans).flatMap MDep.vals)):=by unfold Hid; rw [List.length_append]; exact ho
 refine region_append (by rfl) _ _ rfl rfl rfl hrun ?_
 clear hrun ho hgr
 refine hK.out _ _ H4.out (fun hHeld4=>?_)
 clear hK K hHeld4
 try simp only [Act.put,p1,p2,p3]
 obtain ⟨A5,c5,hv5,k1,k2,k3⟩:=KRow.of_own (S:=fun g=>w.heap.size≤g) dep_len O4.out rfl (fun g h _=>Nat.le_trans HB0.out.size h)
 subst hv5
 have HB4:=Lib.hid (HB0.out.trans (H4.out.mono HB0.out.size))
 refine tk 7 rfl (.slice A5 (r.needs ++ r.bans).length c5) ?_
 refine wpAnyH_done (by kernel_rfl) ?_ _
 have KK:=Lib.hid (And.intro k1 (And.intro k2 k3))
 clear k1 k2 k3 a6 a7 O4 O3 O2
 have HK4:Hid (KeepS (LtB B) w W4):=KeepS.of_below HB4.out
 have HDD:Hid (∀ d ∈ r.needs ++ r.bans,DepOk W4 (LtB B) d):=fun d hd=>by
  rcases List.mem_append.1 hd with h | h
  ·exact (HO.out.needs.ok d h).keep HK4.out
  ·exact (HO.out.bans.ok d h).keep HK4.out
 obtain ⟨L,hL⟩:∃ L,r.needs ++ r.bans=L:=⟨_,rfl⟩
 rw [hL] at KK HDD ⊢
 have HLL:=Lib.hid hL
 clear hL
 go_wp2
 go_ret
 have hL:=HLL.out
 unfold AllPost
 rw [hL]
 refine ⟨A5,c5,rfl,KK.out.1,KK.out.2.1,KK.out.2.2,HDD.out,HB4.out⟩
end Go.Proofs.YtnpjklaaokiikaaGreatDoor.Model
namespace Go.Proofs.YtnpjklaaokiikaaGreatDoor.Model
open Go.RowKit Num Ident Semver
open Range (Rng noRng RV KeepS LtB LenOk goodR wt)
open KR (KRow AtV)
open Nrm (hasR)

def metOne (d:PDep) (p:PPin):Bool:=(p.name == d.name) && hasR d.r p.v
theorem metB_yes {s:List MPin} {d:PDep} {k:Nat} (hk:k<s.length) (h:metOne d (s.getD k default).p=true):metB (s.map MPin.p) d=true:=by
 unfold metB
 rw [List.any_eq_true]
 exact ⟨(s.getD k default).p,List.mem_map.2 ⟨_,getD_mem hk,rfl⟩,h⟩
theorem metB_no {s:List MPin} {d:PDep} (h:∀ j,j<s.length→metOne d (s.getD j default).p=false):metB (s.map MPin.p) d=false:=by
 unfold metB
 rw [List.any_eq_false]
 intro x hx
 obtain ⟨y,hy,rfl⟩:=List.mem_map.1 hx
 obtain ⟨j,hj,rfl⟩:=List.getElem_of_mem hy
 have:=h j hj
 rw [List.getD_eq_getElem?_getD,List.getElem?_eq_getElem hj] at this
 rw [Bool.not_eq_true]; exact this
theorem refMet_any (d:MDep) (A:Option Addr) (n c:Nat) (s:List MPin) (B:Nat) (w:World) (hd:DepOk w (LtB B) d) (h:SPRow w (LtB B) A n s) (hB:B≤w.heap.size) (hn:n≤maxLen) :
  Calls Tryz.prog 34 #[d.agg,.slice A n c] w fun e w'=>e=.returned (.bool (metB (s.map MPin.p) d.p))∧Below w.heap.size w w':=by
 have HD:=Lib.hid hd
 have HO:=Lib.hid h
 have HL:=Lib.hid h.row.1
 unfold maxLen at hn
 clear hd h
 obtain ⟨W0,hW,hav,hb0⟩:∃ W,W=w.alloc (.cells #[.string (Ident.mk d.name),d.x.kind,d.x.v.a,d.x.v.b,d.x.v.c,.slice d.x.A d.x.v.pre.length d.x.c,.slice d.x.B d.x.v.build.length d.x.d,.slice d.x.L d.x.n d.x.e] 57)∧AtV W w.heap.size [.string (Ident.mk d.name),.int .i64 d.x.kind,.int .u64 d.x.v.a,.int .u64 d.x.v.b,.int .u64 d.x.v.c,.slice d.x.A d.x.v.pre.length d.x.c,.slice d.x.B d.x.v.build.length d.x.d,.slice d.x.L d.x.n d.x.e]∧Below w.heap.size w W:=⟨_,rfl,AtV.new w _ _,(Below.refl _ _).alloc (Nat.le_refl _) _⟩
 have HAV:=Lib.hid hav
 have HB0:=Lib.hid hb0
 clear hav hb0
 obtain ⟨bd,hbd⟩:∃ bd,w.heap.size=bd:=⟨_,rfl⟩
 unfold MDep.agg
 go_enter Tryz.func34,Tryz.ntmps34
 go_upto_region 1 with (fail)
 rw [← hW]
 clear hW
 rw [hbd] at HAV
 have HBE:=Lib.hid hbd
 clear hbd
 go_wp2
 go_loopw [5] (fun v W=>∃ k:Nat,k≤n∧v=.int .i64 k∧Hid (∀ j,j<k→metOne d.p (s.getD j default).p=false)∧Hid (Below W0.heap.size W0 W)) (fun v _=>n - (intOf v).toNat)
 case atStart=>exact ⟨0,Nat.zero_le _,rfl,(fun j hj=>by omega),Below.refl _ _⟩
 case round =>
  rename World=>wk
  obtain ⟨k,hk,rfl,HDK,HWK⟩:=hrel
  have HB1:=Lib.hid (HB0.out.trans (HWK.out.mono HB0.out.size))
  by_cases hlt:k<n
  ·have hrow:=HO.out.keep (KeepS.of_below (S:=LtB B) HB1.out)
   have HPO:Hid (PinOk wk (LtB B) (s.getD k default)):=hrow.ok _ (getD_mem (by rw [HL.out]; exact hlt))
   have HYES:Hid (metOne d.p (s.getD k default).p=true→metB (s.map MPin.p) d.p=true):=fun h=>metB_yes (by rw [HL.out]; exact hlt) h
   have HNO:Hid (metOne d.p (s.getD k default).p=false→∀ j,j<k+1→metOne d.p (s.getD j default).p=false):=fun h j hj=>by
    rcases Nat.lt_or_ge j k with h1 | h1
    ·exact HDK.out j h1
    ·obtain rfl:j=k:=by omega
     exact h
   have HDW:Hid (DepOk wk (LtB B) d):=HD.out.keep (KeepS.of_below HB1.out)
   have HAK:=Lib.hid (HAV.out.kept HWK.out HAV.out.lt)
   obtain ⟨b,o,rfl,_,hb,c0,c1,c2,c3,c4,c5⟩:=hrow.cells hlt
   obtain ⟨p,hp⟩:∃ p,s.getD k default=p:=⟨_,rfl⟩
   rw [hp] at c0 c1 c2 c3 c4 c5 HPO HYES HNO
   clear hp hrow
   have hbd:bd<wk.heap.size:=HAK.out.lt
   have x0:=HAK.out.at_ 0 _ rfl
   have x1:=HAK.out.at_ 1 _ rfl
   have x2:=HAK.out.at_ 2 _ rfl
   have x3:=HAK.out.at_ 3 _ rfl
   have x4:=HAK.out.at_ 4 _ rfl
   have x5:=HAK.out.at_ 5 _ rfl
   have x6:=HAK.out.at_ 6 _ rfl
   have x7:=HAK.out.at_ 7 _ rfl
   have hkn:¬ n≤k:=by omega
   have H0:Hid (Below wk.heap.size wk wk.drew):=(Below.refl _ _).drew
   go_wp2
   refine wp_region_held_drew (S:=fun w'=>Below wk.heap.size wk w') (by kernel_rfl) H0.out (fun hHeld=>?_)
   generalize wk.drew=wd at H0 hHeld ⊢
   have HWD:=Lib.hid (HWK.out.trans (H0.out.mono HWK.out.size))
   refine tk 0 rfl (.slice (some ⟨b,o,none⟩) n c) ?_
   refine tk 1 rfl (.int .i64 k) ?_
   refine tk 2 rfl (.pointer (some ⟨b,o+k * 6,none⟩)) ?_
   refine tk 3 rfl (.pointer (some ⟨b,o+k * 6,none⟩)) ?_
   refine tk 4 rfl (.string (Ident.mk p.name)) ?_ (hv:=fun w' hS'=>by (have z0:=(hS'.cell (p:=⟨b,o+k * 6,none⟩) hb).trans c0); go_simp)
   refine tk 5 rfl (.pointer (some ⟨bd,0,none⟩)) ?_
   refine tk 6 rfl (.string (Ident.mk d.name)) ?_ (hv:=fun w' hS'=>by (have z0:=(hS'.cell (p:=⟨bd,0,none⟩) hbd).trans x0); go_simp)
   by_cases hnq:p.name=d.name
   ·have hbe:((Ident.mk p.name).toList == (Ident.mk d.name).toList)=true:=by rw [hnq]; exact mk_eq _
    have HNQ:=Lib.hid hnq
    clear hnq
    refine tk 7 rfl (.bool true) ?_
    refine tk 8 rfl (.bool true) ?_
    refine tk 9 rfl (.pointer (some ⟨bd,1,none⟩)) ?_
    refine tk 10 rfl d.x ?_ (hv:=fun w' hS'=>by (have z0:=(hS'.cell (p:=⟨bd,1,none⟩) hbd).trans x1); (have z1:=(hS'.cell (p:=⟨bd,2,none⟩) hbd).trans x2); (have z2:=(hS'.cell (p:=⟨bd,3,none⟩) hbd).trans x3); (have z3:=(hS'.cell (p:=⟨bd,4,none⟩) hbd).trans x4); (have z4:=(hS'.cell (p:=⟨bd,5,none⟩) hbd).trans x5); (have z5:=(hS'.cell (p:=⟨bd,6,none⟩) hbd).trans x6); (have z6:=(hS'.cell (p:=⟨bd,7,none⟩) hbd).trans x7); go_simp)
    refine tk 11 rfl (.slice (some ⟨b,o,none⟩) n c) ?_
    refine tk 12 rfl (.int .i64 k) ?_
    refine tk 13 rfl (.pointer (some ⟨b,o+k * 6,none⟩)) ?_
    refine tk 14 rfl (.pointer (some ⟨b,o+k * 6+1,none⟩)) ?_
    refine tk 15 rfl (.agg #[p.ver.v.a,p.ver.v.b,p.ver.v.c,.slice p.ver.A p.ver.v.pre.length p.ver.c,.slice p.ver.B p.ver.v.build.length p.ver.d]) ?_ (hv:=fun w' hS'=>by (have z0:=(hS'.cell (p:=⟨b,o+k * 6+1,none⟩) hb).trans c1); (have z1:=(hS'.cell (p:=⟨b,o+k * 6+2,none⟩) hb).trans c2); (have z2:=(hS'.cell (p:=⟨b,o+k * 6+3,none⟩) hb).trans c3); (have z3:=(hS'.cell (p:=⟨b,o+k * 6+4,none⟩) hb).trans c4); (have z4:=(hS'.cell (p:=⟨b,o+k * 6+5,none⟩) hb).trans c5); go_simp)
    obtain ⟨hs,hhs⟩:∃ hs,hasR d.r p.ver.v=hs:=⟨_,rfl⟩
    have HHS:=Lib.hid hhs
    refine cl 16 rfl fun K hK=>?_
    go_simp
    refine (Nrm.refHas_any d.r d.x B p.ver.v p.ver.A p.ver.c p.ver.B p.ver.d _ (HDW.out.lies.keep (KeepS.of_below H0.out)) (Nat.le_trans hB (Nat.le_trans HB1.out.size H0.out.size)) HDW.out.len (HPO.out.ver.pre.kept H0.out) (HPO.out.ver.build.kept H0.out) ⟨HPO.out.ver.fit.pre,HPO.out.ver.fit.build,HPO.out.ver.fit.pres,HPO.out.ver.fit.builds⟩).mono ?_
    rw [hhs]
    rintro e W5 ⟨rfl,hb5⟩
    have HW5:=Lib.hid (HWD.out.trans (hb5.mono HWD.out.size))
    refine hK.out _ _ (H0.out.trans (hb5.mono H0.out.size)) (fun hHeld2=>?_)
    clear hK K hb5 hhs c0 c1 c2 c3 c4 c5 x0 x1 x2 x3 x4 x5 x6 x7
    try simp only [Act.put,p1,p2,p3]
    refine tk 17 rfl (.bool hs) ?_
    refine wpAnyH_done (by kernel_rfl) ?_ _
    have HM:Hid (metOne d.p p.p=hs):=by
     show ((p.name == d.name) && hasR d.r p.ver.v)=hs
     rw [HNQ.out,HHS.out]; simp
    cases hs
    ·have HN2:=Lib.hid (HNO.out HM.out)
     go_wp2
     exact ⟨⟨k+1,by omega,by go_num,HN2.out,HW5.out⟩,by simp [intOf]; omega⟩
    ·have HF:=Lib.hid (HYES.out HM.out)
     have HE:=Lib.hid (HB0.out.trans (HW5.out.mono HB0.out.size))
     go_wp2
     go_ret
     exact ⟨by rw [HF.out]; rfl,HE.out⟩
   ·have hbe:((Ident.mk p.name).toList == (Ident.mk d.name).toList)=false:=mk_ne hnq
    have HM:Hid (metOne d.p p.p=false):=by
     show ((p.name == d.name) && hasR d.r p.ver.v)=false
     rw [beq_eq_false_iff_ne.2 hnq]; rfl
    have HN2:=Lib.hid (HNO.out HM.out)
    clear hnq
    refine tk 7 rfl (.bool false) ?_
    refine tk 8 rfl (.bool false) ?_
    refine sk 9 rfl ?_
    refine sk 10 rfl ?_
    refine sk 11 rfl ?_
    refine sk 12 rfl ?_
    refine sk 13 rfl ?_
    refine sk 14 rfl ?_
    refine sk 15 rfl ?_
    refine sk 16 rfl ?_
    refine tk 17 rfl (.bool false) ?_
    refine wpAnyH_done (by kernel_rfl) ?_ _
    clear c0 c1 c2 c3 c4 c5 x0 x1 x2 x3 x4 x5 x6 x7
    go_wp2
    exact ⟨⟨k+1,by omega,by go_num,HN2.out,HWD.out⟩,by simp [intOf]; omega⟩
  ·obtain rfl:k=n:=by omega
   have HF:=Lib.hid (metB_no (s:=s) (d:=d.p) (fun j hj=>HDK.out j (by rw [← HL.out]; exact hj)))
   go_wp2
   go_ret
   exact ⟨by rw [HF.out]; rfl,HB1.out⟩
end Go.Proofs.YtnpjklaaokiikaaGreatDoor.Model
