/-
  What the theorem of the last text needs of these: IdMem, MemFlat, Frame, NumIs, Came, NumWalks, NaRef, IdRefSame. Conditions: as each theorem states.
-/
import Derived.Test.YtgakcdcfblgagaaDoorJoA1
import Derived.Lib.BufferRead
import Derived.Maps.OwnSet
import Derived.Laws.OwnMore
import Derived.Lib.ConvBytes
import Derived.Lib.Bytealg
import Derived.WalkSpells
import Derived.ProofKit
import Derived.OpenShut
import Derived.SliceStrings
import Derived.StillTailTactics
set_option maxRecDepth 100000
set_option maxHeartbeats 25600000
namespace Go.Proofs.YtgakcdcfblgagaaDoor.Ident
open Go.RowKit Num

def mk (l:List UInt8):ByteArray:=⟨l.toArray⟩
theorem mk_list (l:List UInt8):(mk l).data.toList=l:=rfl
theorem mk_size (l:List UInt8):(mk l).size=l.length:=rfl

def strs (xs:List (List UInt8)):List Value:=xs.map fun l=>Value.string (mk l)
theorem strs_length (xs:List (List UInt8)):(strs xs).length=xs.length:=by simp [strs]
theorem strs_append (xs ys:List (List UInt8)):strs (xs ++ ys)=strs xs ++ strs ys:=by simp [strs]
theorem strs_one (xs:List (List UInt8)):∀ u ∈ strs xs,u.oneCell'=true:=by
 intro u hu
 simp only [strs,List.mem_map] at hu
 obtain ⟨b,_,rfl⟩:=hu
 rfl
theorem strs_at (xs:List (List UInt8)) (j:Nat) (hj:j<xs.length):(strs xs)[j]?=some (.string (mk (xs.getD j []))):=by
 simp [strs,List.getElem?_eq_getElem hj]

def SRow (w:World) (A:Option Addr) (n:Nat) (xs:List (List UInt8)):Prop :=
 xs.length=n∧(0<n→∃ b o,A=some ⟨b,o,none⟩∧b<w.heap.size∧∀ j,j<n→w.cell? ⟨b,o+j,none⟩=some (.string (mk (xs.getD j []))))

theorem SRow.none_ (w:World) (A:Option Addr):SRow w A 0 []:=⟨rfl,fun h=>by omega⟩
theorem SRow.kept {w w':World} {A:Option Addr} {n:Nat} {xs:List (List UInt8)} (h:SRow w A n xs) (hb:Below w.heap.size w w'):SRow w' A n xs:=by
 refine ⟨h.1,fun h0=>?_⟩
 obtain ⟨b,o,e,hlt,hc⟩:=h.2 h0
 exact ⟨b,o,e,Nat.lt_of_lt_of_le hlt hb.size,fun j hj=>(hb.cell (p:=⟨b,o+j,none⟩) hlt).trans (hc j hj)⟩
theorem SRow.nil {w:World} {n:Nat} {xs:List (List UInt8)} (h:SRow w none n xs):n=0∧xs=[]:=by
 rcases Nat.eq_zero_or_pos n with h0 | h0
 ·exact ⟨h0,List.eq_nil_of_length_eq_zero (by rw [h.1]; exact h0)⟩
 ·obtain ⟨b,o,e,_⟩:=h.2 h0
  cases e
theorem SRow.news {w:World} {ad:Addr} {n:Nat} {xs:List (List UInt8)} (h:SRow w (some ad) n xs):∀ j u,(strs xs)[j]?=some u→w.cell? (ad.add j)=some u:=by
 intro j u hu
 have hj:j<xs.length:=by
  have:=(List.getElem?_eq_some_iff.1 hu).1
  rwa [strs_length] at this
 obtain ⟨b,o,e,_,hc⟩:=h.2 (by have:=h.1; omega)
 injection e with e
 subst e
 rw [strs_at xs j hj] at hu
 injection hu with hu
 rw [add_none,hc j (by rw [← h.1]; exact hj),hu]
theorem SRow.of_own {w:World} {base:Nat} {v:Value} {n:Nat} {xs:List (List UInt8)} (h:w.ownsRow base 9 1 v n (strs xs)) :
  ∃ A c,v=.slice A n c∧n≤c∧SRow w A n xs:=by
 have hl:xs.length=n:=by have:=h.1; rw [strs_length] at this; omega
 have hcs:=fun g=>h.cells (g:=g)
 rcases h.2 with ⟨rfl,rfl⟩ | ⟨g,cap,cur,rfl,_,hg,hnc,hcm,_,_⟩
 ·exact ⟨none,0,rfl,Nat.le_refl _,hl,fun h0=>by omega⟩
 ·refine ⟨_,cap,rfl,hnc,hl,fun h0=>⟨g,0,rfl,(Array.getElem?_eq_some_iff.1 hg).1,fun j hj=>?_⟩⟩
  have:=hcs g rfl j _ (strs_at xs j (by omega))
  rwa [add_none] at this

theorem own_below {w w':World} {base:Nat} {e:TypeId} {size:Nat} {v:Value} {n:Nat} {xs:List Value} (h:w.ownsRow base e size v n xs) (hb:Below w.heap.size w w'):w'.ownsRow base e size v n xs :=
 h.kept (row:=none) ⟨hb.os,hb.tape,hb.output,hb.size,fun i hi _=>hb.block i hi⟩ (by cases v.ownBlock <;> simp)

theorem strInfo:(Tryd.prog.info? 9).map (fun i=>(i.zero,i.size,i.bytes))=some (some (.string ⟨#[]⟩),1,16):=by kernel_rfl

theorem run_append_strs (w:World) (ty:TypeId) (base:Nat) (v:Value) (n:Nat) (xs:List (List UInt8)) (hown:w.ownsRow base 9 1 v n (strs xs))
  (A:Option Addr) (m c:Nat) (ys:List (List UInt8)) (hr:SRow w A m ys) (hnil:A=none→c=0) (hb:(n+m) * 16≤140737488355328) (hbase:base≤w.heap.size) :
  ∃ v' w',(Builtin.append_ #[43,43] ty #[v,.slice A m c]).run Tryd.prog w=.ok v' w'∧w'.ownsRow base 9 1 v' (n+m) (strs (xs ++ ys))∧w.grownBy w' v.ownBlock:=by
 obtain ⟨i,hi,hz,hs,hby⟩:=info_parts strInfo
 cases A with
 | none =>
  obtain ⟨rfl,rfl⟩:=hr.nil
  obtain rfl:=hnil rfl
  exact ⟨v,w,run_append_owned_none (P:=Tryd.prog) (w:=w) base 43 ty 9 i 1 Tryd.underlying43 hi v n _ hown,by simpa using hown,World.grownBy.refl w _⟩
 | some ad =>
  obtain ⟨v',w',h1,h2,h3,_⟩:=run_append_own (P:=Tryd.prog) w base 43 ty 9 i (.string ⟨#[]⟩) 1 16 Tryd.underlying43 hi hz hs hby rfl (by omega) v n _ hown ad m c (strs ys)
   (by rw [strs_length,hr.1]; omega) hr.news (strs_one ys) (by unfold maxLen; omega) hb hbase
  exact ⟨v',w',h1,by rw [strs_append]; exact h2,h3⟩

theorem wpList_append_strs (w:World) {ops:Array Oper} {rest:List Oper} {o:Oper} {a:Act} {Q:Exit→Act→World→Prop} (hgd:o.guard=none) (s x:Operand)
  (ho:o.op=.call { callee:=.builtin .append,args:=#[s,x],argTypes:=#[43,43] })
  (base:Nat) (v:Value) (n:Nat) (xs:List (List UInt8)) (hs:a.eval s=v) (hown:w.ownsRow base 9 1 v n (strs xs))
  (A:Option Addr) (m c:Nat) (ys:List (List UInt8)) (hx:a.eval x=.slice A m c) (hr:SRow w A m ys) (hnil:A=none→c=0) (hb:(n+m) * 16≤140737488355328) (hbase:base≤w.heap.size)
  (h:∀ v' w',w'.ownsRow base 9 1 v' (n+m) (strs (xs ++ ys))→Below base w w'→wpList Tryd.prog ops Q rest (a.put o.dst v') w'):wpList Tryd.prog ops Q (o :: rest) a w:=by
 refine wpList_plain hgd fun K hK=>?_
 obtain ⟨v',w',hrun,h2,h3⟩:=run_append_strs w o.type base v n xs hown A m c ys hr hnil hb hbase
 unfold Oper.wp execOp
 simp only [ho,resolve,invoke,builtin,Sem.run_bind,Sem.run_pure,Result.andThen_ok,List.map_toArray,List.map_cons,List.map_nil,hs,hx,hrun]
 exact hK _ _ (h v' w' h2 ((Below.refl base w).grown h3 hbase fun k hk=>(hown.lt k hk).1))

theorem SRow.one (w:World) (l:List UInt8):SRow (w.alloc (.cells #[.string (mk l)] 9)) (some ⟨w.heap.size,0,none⟩) 1 [l]:=by
 refine ⟨rfl,fun _=>⟨w.heap.size,0,rfl,by simp,fun j hj=>?_⟩⟩
 obtain rfl:j=0:=by omega
 have hh:(w.alloc (.cells #[.string (mk l)] 9)).heap[w.heap.size]?=some (.cells #[.string (mk l)] 9):=by
  show (w.heap.push _)[w.heap.size]?=_
  simp
 exact cell_of_row _ _ _ #[.string (mk l)] _ _ hh

theorem run_text {w:World} {A:Option Addr} {n:Nat} {l:List UInt8} (h:Row w A n l) (c:Nat) :
  (convert 22 9 (.slice A n c)).run Tryd.prog w=.ok (.string (mk l)) w:=by
 cases A with
 | none =>
  obtain ⟨rfl,rfl⟩:=h.nil
  exact Lib.run_convert_nil_bytes (P:=Tryd.prog) w 22 9 5 c Tryd.underlying22 Tryd.underlying5 Tryd.underlying9
 | some ad =>
  have e:=run_convert_bytes_back (P:=Tryd.prog) w 22 9 5 ad c l Tryd.underlying22 Tryd.underlying5 Tryd.underlying9 (fun j hj=>by
   have:=h.news j _ (cells_at l j hj)
   rw [this]; unfold byteAt; simp [List.getElem?_eq_getElem hj])
  rwa [h.1] at e

theorem Row.from_ {w:World} {A A':Option Addr} {n:Nat} {l:List UInt8} (h:Row w A n l) (k c:Nat) (hk:k≤n) (hc:n≤c) (hA:(if c=k then A else A.map (fun x=>x.add k))=A'):Row w A' (n - k) (l.drop k):=by
 have:=h.piece (A':=A') k (n - k) (by omega) (fun h0 b o e=>by rw [← hA,if_neg (by omega)]; exact map_add k A b o e)
 rwa [List.take_of_length_le (by rw [List.length_drop,h.1]; exact Nat.le_refl _)] at this
theorem Row.part_ {w:World} {A A':Option Addr} {n:Nat} {l:List UInt8} (h:Row w A n l) (k m c:Nat) (hk:k+m≤n) (hc:n≤c) (hA:(if c=k then A else A.map (fun x=>x.add k))=A'):Row w A' m ((l.drop k).take m) :=
 h.piece (A':=A') k m hk (fun h0 b o e=>by rw [← hA,if_neg (by omega)]; exact map_add k A b o e)

def sameB (xs ys:List (List UInt8)):Bool:=xs == ys
theorem sameB_iff (xs ys:List (List UInt8)):sameB xs ys=true↔xs=ys:=by simp [sameB]
theorem sameB_no {xs ys:List (List UInt8)} (h:xs≠ys):sameB xs ys=false:=by simp [sameB,h]

theorem SRow.set {w:World} {A:Option Addr} {n:Nat} {xs:List (List UInt8)} (h:SRow w A n xs) {p:Addr} {u:Value} (hu:w.cell? p=some u) (hs:∀ s,u≠.string s) (v:Value):SRow (w.setCell p v) A n xs:=by
 refine ⟨h.1,fun h0=>?_⟩
 obtain ⟨b,o,e,hlt,hc⟩:=h.2 h0
 refine ⟨b,o,e,by simpa using hlt,fun j hj=>?_⟩
 rw [World.cell?_setCell_other]
 ·exact hc j hj
 ·intro he
  rw [he,hc j hj] at hu
  injection hu with hu
  exact hs _ hu.symm
theorem cell_beside (w:World) (b i j:Nat) (v:Value) (h:i≠j):(w.setCell ⟨b,i,none⟩ v).cell? ⟨b,j,none⟩=w.cell? ⟨b,j,none⟩ :=
 World.cell?_setCell_other _ _ _ _ (by intro e; injection e with _ e; exact h e)
theorem SRow.set5 {w:World} {A:Option Addr} {n:Nat} {xs:List (List UInt8)} (h:SRow w A n xs) {b:Nat} {u0 u1 u2 u3 u4:Value}
  (h0:w.cell? ⟨b,0,none⟩=some u0) (h1:w.cell? ⟨b,1,none⟩=some u1) (h2:w.cell? ⟨b,2,none⟩=some u2) (h3:w.cell? ⟨b,3,none⟩=some u3) (h4:w.cell? ⟨b,4,none⟩=some u4)
  (s0:∀ s,u0≠.string s) (s1:∀ s,u1≠.string s) (s2:∀ s,u2≠.string s) (s3:∀ s,u3≠.string s) (s4:∀ s,u4≠.string s) (v0 v1 v2 v3 v4:Value) :
  SRow (((((w.setCell ⟨b,0,none⟩ v0).setCell ⟨b,1,none⟩ v1).setCell ⟨b,2,none⟩ v2).setCell ⟨b,3,none⟩ v3).setCell ⟨b,4,none⟩ v4) A n xs:=by
 refine SRow.set (SRow.set (SRow.set (SRow.set (SRow.set h h0 s0 v0) (u:=u1) ?_ s1 v1) (u:=u2) ?_ s2 v2) (u:=u3) ?_ s3 v3) (u:=u4) ?_ s4 v4
 ·exact (cell_beside _ _ _ _ _ (by omega)).trans h1
 ·exact (cell_beside _ _ _ _ _ (by omega)).trans ((cell_beside _ _ _ _ _ (by omega)).trans h2)
 ·exact (cell_beside _ _ _ _ _ (by omega)).trans ((cell_beside _ _ _ _ _ (by omega)).trans ((cell_beside _ _ _ _ _ (by omega)).trans h3))
 ·exact (cell_beside _ _ _ _ _ (by omega)).trans ((cell_beside _ _ _ _ _ (by omega)).trans ((cell_beside _ _ _ _ _ (by omega)).trans ((cell_beside _ _ _ _ _ (by omega)).trans h4)))

def At5 (W:World) (b:Nat) (u0 u1 u2 u3 u4:Value):Prop:=b<W.heap.size∧(∀ o,W.frozen? ⟨b,o,none⟩=false)∧W.cell? ⟨b,0,none⟩=some u0∧W.cell? ⟨b,1,none⟩=some u1∧W.cell? ⟨b,2,none⟩=some u2∧W.cell? ⟨b,3,none⟩=some u3∧W.cell? ⟨b,4,none⟩=some u4
theorem At5.new (w:World) (t:TypeId) (u0 u1 u2 u3 u4:Value):At5 (w.alloc (.cells #[u0,u1,u2,u3,u4] t)) w.heap.size u0 u1 u2 u3 u4:=by
 unfold At5
 refine ⟨by simp,fun o=>by simp [go_sem],?_,?_,?_,?_,?_⟩ <;> simp [go_sem]
theorem At5.kept {W W':World} {b B:Nat} {u0 u1 u2 u3 u4:Value} (h:At5 W b u0 u1 u2 u3 u4) (hb:Below B W W') (hB:b<B):At5 W' b u0 u1 u2 u3 u4:=by
 obtain ⟨h1,h2,c0,c1,c2,c3,c4⟩:=h
 exact ⟨Nat.lt_of_lt_of_le h1 hb.size,fun o=>(hb.frozen (p:=⟨b,o,none⟩) hB).trans (h2 o),(hb.cell (p:=⟨b,0,none⟩) hB).trans c0,(hb.cell (p:=⟨b,1,none⟩) hB).trans c1,(hb.cell (p:=⟨b,2,none⟩) hB).trans c2,(hb.cell (p:=⟨b,3,none⟩) hB).trans c3,(hb.cell (p:=⟨b,4,none⟩) hB).trans c4⟩

def At3 (W:World) (b:Nat) (u0 u1 u2:Value):Prop:=b<W.heap.size∧(∀ o,W.frozen? ⟨b,o,none⟩=false)∧W.cell? ⟨b,0,none⟩=some u0∧W.cell? ⟨b,1,none⟩=some u1∧W.cell? ⟨b,2,none⟩=some u2
theorem At3.new (w:World) (t:TypeId) (u0 u1 u2:Value):At3 (w.alloc (.cells #[u0,u1,u2] t)) w.heap.size u0 u1 u2:=by
 unfold At3
 refine ⟨by simp,fun o=>by simp [go_sem],?_,?_,?_⟩ <;> simp [go_sem]
theorem At3.kept {W W':World} {b B:Nat} {u0 u1 u2:Value} (h:At3 W b u0 u1 u2) (hb:Below B W W') (hB:b<B):At3 W' b u0 u1 u2:=by
 obtain ⟨h1,h2,c0,c1,c2⟩:=h
 exact ⟨Nat.lt_of_lt_of_le h1 hb.size,fun o=>(hb.frozen (p:=⟨b,o,none⟩) hB).trans (h2 o),(hb.cell (p:=⟨b,0,none⟩) hB).trans c0,(hb.cell (p:=⟨b,1,none⟩) hB).trans c1,(hb.cell (p:=⟨b,2,none⟩) hB).trans c2⟩
def set5 (w:World) (b:Nat) (v0 v1 v2 v3 v4:Value):World:=((((w.setCell ⟨b,0,none⟩ v0).setCell ⟨b,1,none⟩ v1).setCell ⟨b,2,none⟩ v2).setCell ⟨b,3,none⟩ v3).setCell ⟨b,4,none⟩ v4
theorem At5.set5 {W:World} {b:Nat} {u0 u1 u2 u3 u4:Value} (h:At5 W b u0 u1 u2 u3 u4) (v0 v1 v2 v3 v4:Value):At5 (set5 W b v0 v1 v2 v3 v4) b v0 v1 v2 v3 v4:=by
 obtain ⟨h1,h2,c0,c1,c2,c3,c4⟩:=h
 unfold Ident.set5
 refine ⟨by simpa using h1,fun o=>by simp [go_sem,h2],?_,?_,?_,?_,?_⟩ <;> simp [go_sem,c0,c1,c2,c3,c4]
end Go.Proofs.YtgakcdcfblgagaaDoor.Ident
namespace Go.Proofs.YtgakcdcfblgagaaDoor.Num
open Go.RowKit

theorem news_new (w:World) (L:List Value) (t:TypeId):∀ j u,L[j]?=some u→(w.alloc (.cells L.toArray t)).cell? ((⟨w.heap.size,0,none⟩:Addr).add j)=some u:=by
 intro j u hu
 have hh:(w.alloc (.cells L.toArray t)).heap[w.heap.size]?=some (.cells L.toArray t):=by
  show (w.heap.push _)[w.heap.size]?=_
  simp
 rw [add_none,cell_of_row _ _ _ L.toArray t (0,0) hh,Nat.zero_add]
 simpa using hu
theorem flat_get {α:Type} [Inhabited α] (f:α→List Value) (k:Nat) (hk:∀ x,(f x).length=k):∀ (l:List α) (j i:Nat),j<l.length→i<k→(l.flatMap f)[j * k+i]?=(f (l.getD j default))[i]?
 | [],j,i,hj,_=>by simp at hj
 | x :: l,0,i,_,hi=>by
  rw [List.flatMap_cons,List.getElem?_append_left (by rw [hk]; omega)]; simp
 | x :: l,j+1,i,hj,hi=>by
  rw [List.flatMap_cons,List.getElem?_append_right (by rw [hk,Nat.succ_mul]; omega),hk,show (j+1) * k+i - k=j * k+i by rw [Nat.succ_mul]; omega,flat_get f k hk l j i (by simpa using hj) hi]; simp
theorem flat_len {α:Type} (f:α→List Value) (k:Nat) (hk:∀ x,(f x).length=k):∀ l:List α,(l.flatMap f).length=l.length * k
 | []=>by simp
 | x :: l=>by rw [List.flatMap_cons,List.length_append,hk,flat_len f k hk l,List.length_cons,Nat.succ_mul]; omega
theorem flat_one {α:Type} (f:α→List Value) (h:∀ x,∀ u ∈ f x,u.oneCell'=true) (l:List α):∀ u ∈ l.flatMap f,u.oneCell'=true:=by
 intro u hu; obtain ⟨x,_,hx⟩:=List.mem_flatMap.1 hu; exact h x u hx
theorem own_cells {α:Type} [Inhabited α] {f:α→List Value} {k:Nat} (hk:∀ x,(f x).length=k) {w:World} {base:Nat} {e:TypeId} {v:Value} {n:Nat} {l:List α} (h:w.ownsRow base e k v n (l.flatMap f)) (hl:l.length=n) :
  ∃ A c,v=.slice A n c∧n≤c∧(A=none→c=0)∧(0<n→∃ g,A=some ⟨g,0,none⟩∧base≤g∧g<w.heap.size∧(∀ o,w.frozen? ⟨g,o,none⟩=false)∧∀ j,j<n→∀ i u,(f (l.getD j default))[i]?=some u→w.cell? ⟨g,0+j * k+i,none⟩=some u):=by
 have hcs:=fun g=>h.cells (g:=g)
 rcases h.2 with ⟨rfl,rfl⟩ | ⟨g,cap,cur,rfl,hg0,hg,hnc,hcm,_,_⟩
 ·exact ⟨none,0,rfl,Nat.le_refl _,fun _=>rfl,fun h0=>by omega⟩
 ·refine ⟨_,cap,rfl,hnc,(fun e=>by cases e),fun h0=>⟨g,rfl,hg0,(Array.getElem?_eq_some_iff.1 hg).1,fun o=>?_,fun j hj i u hu=>?_⟩⟩
  ·simp [World.frozen?,hg]
  ·have hi:i<k:=by have:=(List.getElem?_eq_some_iff.1 hu).1; rwa [hk] at this
   have:=hcs g rfl (j * k+i) u (by rw [flat_get f k hk l j i (by omega) hi]; exact hu)
   rw [add_none] at this
   rw [Nat.add_assoc]; exact this
theorem own_apart {w:World} {B1 B2:Nat} {e1 e2:TypeId} {k1 k2:Nat} {v1 v2:Value} {n1 n2:Nat} {x1 x2:List Value} (h1:w.ownsRow B1 e1 k1 v1 n1 x1) (h2:w.ownsRow B2 e2 k2 v2 n2 x2) (hne:e1≠e2):v1.ownBlock=none∨v1.ownBlock≠v2.ownBlock:=by
 rcases h1.2 with ⟨rfl,_⟩ | ⟨g1,c1,u1,rfl,_,hg1,_⟩
 ·exact .inl rfl
 ·right
  rcases h2.2 with ⟨rfl,_⟩ | ⟨g2,c2,u2,rfl,_,hg2,_⟩
  ·intro h; cases h
  ·intro h
   have e:g1=g2:=by simpa [Value.ownBlock] using h
   subst e
   rw [hg1] at hg2
   injection hg2 with hg2
   injection hg2 with _ h
   exact hne h

end Go.Proofs.YtgakcdcfblgagaaDoor.Num
namespace Go.Proofs.YtgakcdcfblgagaaDoor.Fr
open Go.RowKit Num

structure But (T:Nat→Prop) (w w':World):Prop where
 os:w'.os=w.os
 tape:w'.tape=w.tape
 output:w'.output=w.output
 size:w.heap.size≤w'.heap.size
 block:∀ k,k<w.heap.size→¬ T k→w'.heap[k]?=w.heap[k]?
theorem But.refl (T:Nat→Prop) (w:World):But T w w:=⟨rfl,rfl,rfl,Nat.le_refl _,fun _ _ _=>rfl⟩
theorem But.mono {T T':Nat→Prop} {w w':World} (h:But T w w') (ht:∀ k,T k→T' k):But T' w w':=⟨h.os,h.tape,h.output,h.size,fun k hk hn=>h.block k hk fun g=>hn (ht k g)⟩
theorem But.trans {T T':Nat→Prop} {a b c:World} (h:But T a b) (k:But T' b c) (ht:∀ i,T' i→T i∨a.heap.size≤i):But T a c :=
 ⟨k.os.trans h.os,k.tape.trans h.tape,k.output.trans h.output,Nat.le_trans h.size k.size,fun i hi hn=>(k.block i (Nat.lt_of_lt_of_le hi h.size) fun g=>by
  rcases ht i g with g | g
  ·exact hn g
  ·omega).trans (h.block i hi hn)⟩
theorem But.drew {T:Nat→Prop} {a w:World} (h:But T a w):But T a w.drew:=⟨h.os,h.tape,h.output,h.size,h.block⟩
theorem But.of_below {T:Nat→Prop} {B:Nat} {w w':World} (h:Below B w w') (ht:∀ k,k<w.heap.size→¬ T k→k<B):But T w w':=⟨h.os,h.tape,h.output,h.size,fun k hk hn=>h.block k (ht k hk hn)⟩
theorem But.of_same {w w':World} (h:Below w.heap.size w w') (T:Nat→Prop):But T w w':=.of_below h fun _ hk _=>hk
theorem But.of_grown {T:Nat→Prop} {w w':World} {row:Option Nat} (h:w.grownBy w' row) (ht:∀ b,row=some b→T b):But T w w' :=
 ⟨h.os,h.tape,h.output,h.size,fun k hk hn=>h.block k hk fun e=>hn (ht k e.symm)⟩
theorem But.alloc {T:Nat→Prop} {a w:World} (h:But T a w) (o:Obj):But T a (w.alloc o) :=
 h.trans (But.of_same ((Below.refl _ _).alloc (Nat.le_refl _) o) fun _=>False) fun _ g=>g.elim
theorem But.set {T:Nat→Prop} {a w:World} (h:But T a w) (b o:Nat) (v:Value) (hb:T b∨a.heap.size≤b):But T a (w.setCell ⟨b,o,none⟩ v) :=
 h.trans (T':=fun k=>k=b) ⟨rfl,rfl,rfl,by simp [World.setCell],fun k _ hn=>Below.heap_setCell _ _ _ _ hn⟩ fun i e=>by rw [e]; exact hb
theorem But.below {T:Nat→Prop} {B:Nat} {w w':World} (h:But T w w') (ht:∀ k,T k→B≤k) (hB:B≤w.heap.size):Below B w w' :=
 ⟨h.os,h.tape,h.output,h.size,fun k hk=>h.block k (Nat.lt_of_lt_of_le hk hB) fun g=>by have:=ht k g; omega⟩
theorem But.cell {T:Nat→Prop} {w w':World} {b o:Nat} (h:But T w w') (hb:b<w.heap.size) (hn:¬ T b):w'.cell? ⟨b,o,none⟩=w.cell? ⟨b,o,none⟩:=World.cell?_of_block (a:=⟨b,o,none⟩) (h.block b hb hn)
theorem But.frozen {T:Nat→Prop} {w w':World} {b o:Nat} (h:But T w w') (hb:b<w.heap.size) (hn:¬ T b):w'.frozen? ⟨b,o,none⟩=w.frozen? ⟨b,o,none⟩:=World.frozen?_of_block (a:=⟨b,o,none⟩) (h.block b hb hn)
theorem own_lt {w:World} {base:Nat} {e:TypeId} {size:Nat} {v:Value} {n:Nat} {xs:List Value} (h:w.ownsRow base e size v n xs) {b:Nat} (hb:v.ownBlock=some b):b<w.heap.size:=(h.lt b hb).2
theorem own_but {T:Nat→Prop} {w w':World} {base:Nat} {e:TypeId} {size:Nat} {v:Value} {n:Nat} {xs:List Value} (h:w.ownsRow base e size v n xs) (hb:But T w w') (hn:∀ b,v.ownBlock=some b→¬ T b):w'.ownsRow base e size v n xs:=by
 have hlt:=fun b g=>own_lt h (b:=b) g
 rcases h with ⟨hl,h | ⟨g,cap,cur,rfl,hbg,hg,r⟩⟩
 ·exact ⟨hl,.inl h⟩
 ·exact ⟨hl,.inr ⟨g,cap,cur,rfl,hbg,(hb.block g (hlt g rfl) (hn g rfl)).trans hg,r⟩⟩
theorem map_but {H:Type} {P:Program} {k:TypeId} {R:Value→Option (DataW H × List MemPlace)} {T:Nat→Prop} {w w':World} {b n:Nat} {D:DataW H} (h:w.ownsMap P k R b n D) (hb:But T w w') (hn:¬ T b):w'.ownsMap P k R b n D:=by
 have hlt:=h.lt
 obtain ⟨es,clock,h1,r⟩:=h
 exact ⟨es,clock,(hb.block b hlt hn).trans h1,r⟩

structure At2 (W:World) (b:Nat) (u0 u1:Value):Prop where
 lt:b<W.heap.size
 fr:∀ o,W.frozen? ⟨b,o,none⟩=false
 c0:W.cell? ⟨b,0,none⟩=some u0
 c1:W.cell? ⟨b,1,none⟩=some u1
end Go.Proofs.YtgakcdcfblgagaaDoor.Fr
namespace Go.Proofs.YtgakcdcfblgagaaDoor.Num
open Go.RowKit

def isNum (l:List UInt8):Bool:=decide (0<l.length∧run l=l.length∧pad l=false)
theorem isNum_iff (l:List UInt8):isNum l=true↔0<l.length∧run l=l.length∧pad l=false:=by simp [isNum]
theorem isNum_no (l:List UInt8):isNum l=false↔¬ (0<l.length∧run l=l.length∧pad l=false):=by
 rw [← isNum_iff]; cases isNum l <;> simp

theorem is_anyD (s:ByteArray) (w:World) (hs:s.size≤maxLen) :
  Calls Tryd.prog 97 #[.string s] w fun e w'=>e=.returned (.bool (isNum s.data.toList))∧BelowD w.heap.size w w':=by
 obtain ⟨c,W,hc,hcv,hr,hb⟩:=run_bytesD w s hs
 unfold maxLen at hs
 have HR:=Lib.hid hr; clear hr
 have HB:=Lib.hid hb; clear hb
 have HL:=Lib.hid (Lib.size_eq s)
 by_cases h0:0<s.size
 ·by_cases h1:run s.data.toList=s.size
  ·have hb1:((run s.data.toList:Int) == (s.size:Int))=true:=by rw [h1]; simp
   have HF:Hid (isNum s.data.toList=!pad s.data.toList):=by
    unfold Hid
    rw [Bool.eq_iff_iff,isNum_iff,← HL.out]; simp [h0,h1]
   have H1:=Lib.hid h1; clear h1
   go_enter Tryd.func97,Tryd.ntmps97
   go_wp2_with fail
   refine (digits_any _ _ _ _ _ HR.out).mono ?_
   rintro e w' ⟨rfl,rfl⟩
   go_wp2_with fail
   refine (padded_any _ _ _ _ _ HR.out).mono ?_
   rintro e w' ⟨rfl,rfl⟩
   go_wp2
   go_ret
   exact ⟨by rw [HF.out]; rfl,HB.out⟩
  ·have hb1:((run s.data.toList:Int) == (s.size:Int))=false:=by simp; omega
   have HF:Hid (isNum s.data.toList=false):=(isNum_no _).2 fun hh=>h1 (by rw [HL.out]; exact hh.2.1)
   have H1:=Lib.hid h1; clear h1
   go_enter Tryd.func97,Tryd.ntmps97
   go_wp2_with fail
   refine (digits_any _ _ _ _ _ HR.out).mono ?_
   rintro e w' ⟨rfl,rfl⟩
   go_wp2
   go_ret
   exact ⟨by rw [HF.out]; rfl,HB.out⟩
 ·have HF:Hid (isNum s.data.toList=false):=(isNum_no _).2 fun hh=>h0 (by rw [HL.out]; exact hh.1)
  go_enter Tryd.func97,Tryd.ntmps97
  go_wp2
  go_ret
  exact ⟨by rw [HF.out]; rfl,HB.out⟩

theorem is_any (s:ByteArray) (w:World) (hs:s.size≤maxLen) :
  Calls Tryd.prog 97 #[.string s] w fun e w'=>e=.returned (.bool (isNum s.data.toList))∧Below w.heap.size w w':=dropD (is_anyD s w hs)

def ordN (x y:Nat):Int:=if x<y then -1 else if y<x then 1 else 0


theorem shorter {x y:List UInt8} (hx:isNum x=true) (hy:isNum y=true) (h:x.length<y.length):val x<val y:=by
 rw [isNum_iff] at hx hy
 have ax:=all_of_run hx.2.1
 have ay:=all_of_run hy.2.1
 have vx:=val_lt ax
 cases y with
 | nil=>simp at h
 | cons b r =>
  have hp:=(pad_no _).1 hy.2.2
  have hb:=(isDig_iff b).1 (allDig_cons.1 ay).1
  have h48:b.toNat≠48:=fun e=>hp ⟨by omega,by simpa using e⟩
  have h1:=le_val (b:=b) (r:=r) (by omega)
  have h2:10 ^ x.length≤10 ^ r.length:=Nat.pow_le_pow_right (by omega) (by simp at h; omega)
  omega



end Go.Proofs.YtgakcdcfblgagaaDoor.Num
namespace Go.Proofs.YtgakcdcfblgagaaDoor.Came
open Go.ChangeShapes Go.WideShapes Go.RowKit

theorem bytes {H:Type} {enc:TypeId × Value→H} {W:World} {a:Option Addr} {len cap:Nat} {d:DataW H} {ps:List MemPlace}
  (h:DataW.Trod enc Tryd.prog W 0 (fun _=>true) true 22 (.slice a len cap) d ps):∃ l,Num.Row W a len l∧len≤cap∧(a=none→cap=0):=by
 obtain ⟨fuel,hf⟩:=h
 rcases open_ints Tryd.underlying22 Tryd.underlying5 (by kernel_rfl) hf with ⟨hcs,_⟩ | ⟨x,l,c,zs,hcs,_,hl,hm,hz,_,hcell,hwz⟩
 ·simp [Value.cells] at hcs
  obtain ⟨rfl,rfl,rfl⟩:=hcs
  exact Num.Row.of_came (zs:=[]) (.inl ⟨rfl,rfl,rfl,rfl⟩)
 ·simp [Value.cells] at hcs
  obtain ⟨rfl,rfl,rfl⟩:=hcs
  exact Num.Row.of_came (.inr ⟨_,rfl,hl,hm,by simpa using hz,hcell,hwz⟩)

end Go.Proofs.YtgakcdcfblgagaaDoor.Came
namespace Go.Proofs.YtgakcdcfblgagaaDoor.Num
open Go.RowKit

def numOut (l:List UInt8):Value:=if val l≤maxField then .tuple #[.int .u64 (val l),.bool true] else .tuple #[.int .u64 0,.bool false]
theorem numOut_yes {l:List UInt8} (h:val l≤maxField):numOut l=.tuple #[.int .u64 (val l),.bool true]:=by unfold numOut; rw [if_pos h]
theorem numOut_no {l:List UInt8} (h:¬ val l≤maxField):numOut l=.tuple #[.int .u64 0,.bool false]:=by unfold numOut; rw [if_neg h]
def NumJ (w:World) (A:Option Addr) (n c:Nat) (l:List UInt8) (a':Act) (w':World):Prop :=
 w=w'∧∃ (k:Nat) (v:Int) (u5 u6 u7 u8 u9 u10 u11 u12 u13 u14 u15 u16 u17 u18 u19 u20 u21 u22 u23 u24 u25 u26 u27:Value),k≤n∧v=(val (l.take k):Int)∧v≤9223372036854775807∧a'={ tmps:=#[.slice A n c,undef,.int .u64 v,.bool false,.int .i64 k,u5,u6,u7,u8,u9,u10,u11,u12,u13,u14,u15,u16,u17,u18,u19,u20,u21,u22,u23,u24,u25,u26,u27],defers:=[] }
def NumM (n:Nat) (a':Act) (_:World):Nat:=n - (intOf (a'.tmps.getD 4 undef)).toNat
theorem number_any (A:Option Addr) (n c:Nat) (l:List UInt8) (w:World) (h:Row w A n l) (hd:AllDig l) :
  Calls Tryd.prog 82 #[.slice A n c] w fun e w'=>e=.returned (numOut l)∧w=w':=by
 obtain ⟨hl,hm,hc⟩:=h
 unfold maxLen at hm
 have HC:=Lib.hid hc; clear hc
 have HL:=Lib.hid hl; clear hl
 have HD:=Lib.hid hd; clear hd
 go_enter Tryd.func82,Tryd.ntmps82
 go_wp2
 refine wp_scope_back 0 (NumJ w A n c l) (NumM n) rfl ?_ ?_
 ·rintro a' w' ⟨rfl,k,v,u5,u6,u7,u8,u9,u10,u11,u12,u13,u14,u15,u16,u17,u18,u19,u20,u21,u22,u23,u24,u25,u26,u27,hk,hv,hv2,rfl⟩
  have hv1:0≤v:=by rw [hv]; exact Int.natCast_nonneg _
  have HV:=Lib.hid hv; clear hv
  by_cases hlt:k<n
  ·obtain ⟨b,o,rfl,hb,hcell⟩:=HC.out (by omega)
   have hx:=hcell k hlt
   clear hcell HC
   have hbd:=(isDig_at l k).1 (allDig_getD HD.out (by rw [HL.out]; exact hlt))
   obtain ⟨x,hxe⟩:∃ x,x=byteAt l k:=⟨_,rfl⟩
   rw [← hxe] at hx hbd
   have HX:=Lib.hid hxe; clear hxe
   obtain ⟨h1,h2⟩:=hbd
   have hne:((k:Int) == (n:Int))=false:=by simp; omega
   have HT:Hid ((val (l.take (k+1)):Int)=10 * v+(x - 48)):=by
    unfold Hid
    rw [take_snoc l k (by rw [HL.out]; exact hlt),val_snoc,HV.out]
    have:=HX.out; unfold byteAt at this; omega
   by_cases hg:v≤(9223372036854775807 - (x - 48)) / 10
   ·go_wp2
    go_step3
    rw [show ((k:Int)+1)=((k+1:Nat):Int) from rfl]
    exact ⟨rfl,⟨rfl,k+1,_,_,_,_,_,_,_,_,_,_,_,_,_,_,_,_,_,_,_,_,_,_,_,_,by omega,HT.out.symm,by omega,rfl⟩,by simp [NumM,intOf]; omega⟩
   ·have HN:Hid (¬ val l≤maxField):=by
     have h3:=val_take_le l (k+1)
     have h4:=HT.out
     unfold Hid maxField; omega
    go_wp2
    simp only [Exit.jump]
    go_ret2
    exact ⟨by rw [numOut_no HN.out]; rfl,rfl⟩
  ·obtain rfl:k=n:=by omega
   have HV2:Hid (v=(val l:Int)):=by have:=HV.out; rw [List.take_of_length_le (by rw [HL.out]; exact Nat.le_refl _)] at this; exact this
   have HN:Hid (val l≤maxField):=by have:=HV2.out; unfold Hid maxField; omega
   have hne:((k:Int) == (k:Int))=true:=by simp
   go_wp2
   simp only [Exit.jump]
   go_ret2
   exact ⟨by rw [numOut_yes HN.out,← HV2.out]; rfl,rfl⟩
 ·intro HP
  go_wp2
  go_step3
  rename_i hK
  exact hK _ _ (HP.out _ _ ⟨rfl,0,0,_,_,_,_,_,_,_,_,_,_,_,_,_,_,_,_,_,_,_,_,_,_,_,by omega,by simp [val,valFrom],by omega,rfl⟩)
def parseOut (l:List UInt8) (p:Int):Value:=.tuple #[.int .u64 ((parse l p).1),.int .i64 ((parse l p).2.1),.int .i64 ((parse l p).2.2)]
theorem parse_out (A:Option Addr) (n c:Nat) (l:List UInt8) (p:Int) (w:World) (h:Row w A n l) (ho:p<0∨(n:Int)<p) :
  Calls Tryd.prog 69 #[.slice A n c,.int .i64 p] w fun e w'=>e=.returned (parseOut l p)∧w=w':=by
 have HE:Hid (parse l p=(0,0,1)):=by
  unfold Hid parse; rw [if_pos (by rw [h.1]; exact ho)]
 clear h
 by_cases h0:p<0
 ·go_enter Tryd.func69,Tryd.ntmps69
  go_wp2
  go_ret3
  exact ⟨by unfold parseOut; rw [HE.out]; rfl,rfl⟩
 ·have h1:(n:Int)<p:=by omega
  clear ho
  go_enter Tryd.func69,Tryd.ntmps69
  go_wp2
  go_ret3
  exact ⟨by unfold parseOut; rw [HE.out]; rfl,rfl⟩
theorem parse_in (A:Option Addr) (n c:Nat) (l:List UInt8) (p:Nat) (w:World) (h:Row w A n l) (hc:n≤c) (hp:p≤n) :
  Calls Tryd.prog 69 #[.slice A n c,.int .i64 p] w fun e w'=>e=.returned (parseOut l p)∧w=w':=by
 have hm:=h.2.1
 unfold maxLen at hm
 have hp0:¬ (p:Int)<0:=by omega
 have hp1:¬ n<p:=by omega
 by_cases hcp:c=p
 ·have hn:n=p:=by omega
  subst hcp
  subst hn
  have HE:Hid (parse l n=(0,0,2)):=by
   have e:=parse_at l n (by rw [h.1]; exact Nat.le_refl _) [] (by rw [List.drop_eq_nil_of_le (by rw [h.1]; exact Nat.le_refl _)]; rfl)
   exact e.trans (if_pos rfl)
  have R1:Row w A 0 []:=⟨rfl,by omega,fun h0=>by omega⟩
  have H1:=Lib.hid R1
  clear h R1 hc hp
  go_enter Tryd.func69,Tryd.ntmps69
  go_wp2_with fail
  refine (digits_any _ _ _ _ _ H1.out).mono ?_
  rintro e w' ⟨rfl,rfl⟩
  rw [show run []=0 from rfl]
  go_wp2
  go_ret3
  exact ⟨by unfold parseOut; rw [HE.out]; rfl,rfl⟩
 ·obtain ⟨m,hM⟩:∃ m,run (l.drop p)=m:=⟨_,rfl⟩
  have hpm:p+m≤n:=by have:=run_le (l.drop p); rw [hM,List.length_drop,h.1] at this; omega
  have R1:Row w (A.map (fun x=>x.add p)) (n - p) (l.drop p):=by
   have:=h.piece (A':=A.map (fun x=>x.add p)) p (n - p) (by omega) (fun _ b o e=>map_add p A b o e)
   rwa [List.take_of_length_le (by rw [List.length_drop,h.1]; exact Nat.le_refl _)] at this
  obtain ⟨d,hd⟩:∃ d,(l.drop p).take m=d:=⟨_,rfl⟩
  have R2:Row w (A.map (fun x=>x.add p)) m d:=by
   have:=h.piece (A':=A.map (fun x=>x.add p)) p m hpm (fun _ b o e=>map_add p A b o e)
   rwa [hd] at this
  have HAD:Hid (AllDig d):=by have:=allDig_take_run (l.drop p); rw [hM,hd] at this; exact this
  have HE:Hid (parse l p=if d.length=0 then (0,0,2) else if pad d=true then (0,0,3) else if maxField<val d then (0,0,4) else (val d,d.length,0)) :=
   parse_at l p (by rw [h.1]; exact hp) d (by rw [hM]; exact hd)
  have hdl:=R2.1
  rw [hdl] at HE
  have H1:=Lib.hid R1
  have H2:=Lib.hid R2
  have HM:=Lib.hid hM
  clear h R1 R2 hM hd hdl
  go_enter Tryd.func69,Tryd.ntmps69
  go_wp2_with fail
  refine (digits_any _ _ _ _ _ H1.out).mono ?_
  rintro e w' ⟨rfl,rfl⟩
  rw [HM.out]
  by_cases h0:m=0
  ·have HF:Hid (parse l p=(0,0,2)):=by have:=HE.out; rw [if_pos h0] at this; exact this
   subst h0
   go_wp2
   go_ret3
   exact ⟨by unfold parseOut; rw [HF.out]; rfl,rfl⟩
  ·have hb:((m:Int) == 0)=false:=by simp [h0]
   have HE2:Hid (parse l p=if pad d=true then (0,0,3) else if maxField<val d then (0,0,4) else (val d,m,0)):=by have:=HE.out; rw [if_neg h0] at this; exact this
   clear HE
   go_wp2_with fail
   refine (padded_any _ _ _ _ _ H2.out).mono ?_
   rintro e w' ⟨rfl,rfl⟩
   by_cases hpd:pad d=true
   ·have HF:Hid (parse l p=(0,0,3)):=by have:=HE2.out; rw [if_pos hpd] at this; exact this
    rw [hpd]
    go_wp2
    go_ret3
    exact ⟨by unfold parseOut; rw [HF.out]; rfl,rfl⟩
   ·have HE3:Hid (parse l p=if maxField<val d then (0,0,4) else (val d,m,0)):=by have:=HE2.out; rw [if_neg hpd] at this; exact this
    rw [show pad d=false from by simpa using hpd]
    clear hpd HE2
    go_wp2_with fail
    refine (number_any _ _ _ _ _ H2.out HAD.out).mono ?_
    rintro e w' ⟨rfl,rfl⟩
    by_cases hv:val d≤maxField
    ·have HF:Hid (parse l p=(val d,m,0)):=by have:=HE3.out; rw [if_neg (by omega)] at this; exact this
     rw [numOut_yes hv]
     have HV:=Lib.hid hv; clear hv
     go_wp2
     go_ret3
     exact ⟨by unfold parseOut; rw [HF.out]; rfl,rfl⟩
    ·have HF:Hid (parse l p=(0,0,4)):=by have:=HE3.out; rw [if_pos (by omega)] at this; exact this
     rw [numOut_no hv]
     have HV:=Lib.hid hv; clear hv
     go_wp2
     go_ret3
     exact ⟨by unfold parseOut; rw [HF.out]; rfl,rfl⟩
theorem parse_any (A:Option Addr) (n c:Nat) (l:List UInt8) (p:Int) (w:World) (h:Row w A n l) (hc:n≤c) :
  Calls Tryd.prog 69 #[.slice A n c,.int .i64 p] w fun e w'=>e=.returned (parseOut l p)∧w=w':=by
 by_cases ho:p<0∨(n:Int)<p
 ·exact parse_out A n c l p w h ho
 ·obtain ⟨k,rfl⟩:=Int.eq_ofNat_of_zero_le (show 0≤p by omega)
  exact parse_in A n c l k w h hc (by omega)
end Go.Proofs.YtgakcdcfblgagaaDoor.Num
namespace Go.Proofs.YtgakcdcfblgagaaDoor.Name
open Go.RowKit Num


def scanOut (l:List UInt8) (p:Int):Value:=.tuple #[.int .i64 (nscan l p).1,.int .i64 (nscan l p).2]

end Go.Proofs.YtgakcdcfblgagaaDoor.Name
namespace Go.Proofs.YtgakcdcfblgagaaDoor.Ident
open Go.RowKit Num

theorem same_any (A:Option Addr) (a ca:Nat) (xs:List (List UInt8)) (B:Option Addr) (b cb:Nat) (ys:List (List UInt8)) (w:World) (hA:SRow w A a xs) (hB:SRow w B b ys) (ha:a≤maxLen) (hb:b≤maxLen) :
  Calls Tryd.prog 27 #[.slice A a ca,.slice B b cb] w fun e w'=>e=.returned (.bool (sameB xs ys))∧Below w.heap.size w w':=by
 unfold maxLen at ha hb
 have HA:=Lib.hid hA
 have HB:=Lib.hid hB
 have HLA:=Lib.hid hA.1
 have HLB:=Lib.hid hB.1
 clear hA hB
 by_cases hab:a=b
 ·subst hab
  go_enter Tryd.func27,Tryd.ntmps27
  go_wp2
  go_loopw [5] (fun i W=>∃ k:Nat,k≤a∧i=.int .i64 k∧Hid (∀ j,j<k→xs.getD j []=ys.getD j [])∧Hid (Below w.heap.size w W)) (fun i _=>a - (intOf i).toNat)
  case atStart=>exact ⟨0,Nat.zero_le _,rfl,(fun j hj=>by omega),Below.refl _ _⟩
  case round =>
   obtain ⟨k,hk,rfl,HD,HW⟩:=hrel
   by_cases hlt:k<a
   ·obtain ⟨g1,o1,rfl,hg1,hc1⟩:=(HA.out.kept HW.out).2 (by omega)
    obtain ⟨g2,o2,rfl,hg2,hc2⟩:=(HB.out.kept HW.out).2 (by omega)
    have hx1:=hc1 k hlt
    have hx2:=hc2 k hlt
    clear hc1 hc2
    obtain ⟨s,hs⟩:∃ s,mk (xs.getD k [])=s:=⟨_,rfl⟩
    obtain ⟨t,ht⟩:∃ t,mk (ys.getD k [])=t:=⟨_,rfl⟩
    have HS:Hid (s=t→xs.getD k []=ys.getD k []):=fun h=>by rw [← hs,← ht] at h; have:=congrArg (fun z:ByteArray=>z.data.toList) h; exact this
    have HS2:Hid (s≠t→xs≠ys):=fun h h2=>h (by rw [← hs,← ht,h2])
    rw [hs] at hx1
    rw [ht] at hx2
    clear hs ht
    by_cases hst:s=t
    ·have HS3:=Lib.hid (HS.out hst)
     subst hst
     have hq:(s.toList == s.toList)=true:=by simp
     have hq2:(s.toList != s.toList)=false:=by simp
     go_wp2
     go_still (by kernel_rfl)
     have HW2:=Lib.hid HW.out.drew
     go_wp2
     refine ⟨⟨k+1,by omega,by go_num,(fun j hj=>?_),HW2.out⟩,by simp [intOf]; omega⟩
     rcases Nat.lt_or_ge j k with hj1 | hj1
     ·exact HD.out j hj1
     ·obtain rfl:j=k:=by omega
      exact HS3.out
    ·have HS3:=Lib.hid (HS2.out hst)
     have hq:(s.toList == t.toList)=false:=by
      rw [Lib.toList_data,Lib.toList_data,beq_eq_false_iff_ne]
      exact fun h=>hst (by have:=congrArg mk h; exact this)
     have hq2:(s.toList != t.toList)=true:=by rw [bne,hq]; rfl
     clear hst
     go_wp2
     go_still (by kernel_rfl)
     have HW2:=Lib.hid HW.out.drew
     go_wp2
     go_ret
     exact ⟨by rw [sameB_no HS3.out]; rfl,HW2.out⟩
   ·have HF:Hid (sameB xs ys=true):=(sameB_iff xs ys).2 (List.ext_getElem (by rw [HLA.out,HLB.out]) fun j h1 h2=>by
     have:=HD.out j (by rw [HLA.out] at h1; omega)
     simpa [List.getD,List.getElem?_eq_getElem h1,List.getElem?_eq_getElem h2] using this)
    go_wp2
    go_ret
    exact ⟨by rw [HF.out]; rfl,HW.out⟩
 ·have HF:Hid (sameB xs ys=false):=sameB_no fun h=>hab (by rw [← HLA.out,← HLB.out,h])
  have hq:((a:Int) == (b:Int))=false:=by simp; omega
  have hq2:((a:Int) != (b:Int))=true:=by simp; omega
  go_enter Tryd.func27,Tryd.ntmps27
  go_wp2
  go_ret
  exact ⟨by rw [HF.out]; rfl,Below.refl _ _⟩
end Go.Proofs.YtgakcdcfblgagaaDoor.Ident
