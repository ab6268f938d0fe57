/-
  What the theorem of the last text needs of these: IdMem, MemFlat, SpScope, Frame, MoTwo, NumIs, Came, MoSeen. Conditions: as each theorem states.
-/
import Derived.Test.YtgakcdcfblgagaaGreatDoorRoA1
import Derived.Lib.BufferRead
import Derived.Maps.OwnSet
import Derived.Laws.OwnMore
import Derived.Lib.ConvBytes
import Derived.Lib.Bytealg
import Derived.WalkSpells
import Derived.ProofKit
import Derived.OpenShut
import Derived.SliceStrings
import Derived.Maps.OwnOps
set_option maxRecDepth 100000
set_option maxHeartbeats 25600000
namespace Go.Proofs.YtgakcdcfblgagaaGreatDoor.Ident
open Go.RowKit Num

def mk (l:List UInt8):ByteArray:=⟨l.toArray⟩
theorem mk_list (l:List UInt8):(mk l).data.toList=l:=rfl
theorem mk_size (l:List UInt8):(mk l).size=l.length:=rfl

def strs (xs:List (List UInt8)):List Value:=xs.map fun l=>Value.string (mk l)
theorem strs_length (xs:List (List UInt8)):(strs xs).length=xs.length:=by simp [strs]
theorem strs_append (xs ys:List (List UInt8)):strs (xs ++ ys)=strs xs ++ strs ys:=by simp [strs]
theorem strs_one (xs:List (List UInt8)):∀ u ∈ strs xs,u.oneCell'=true:=by
 intro u hu
 simp only [strs,List.mem_map] at hu
 obtain ⟨b,_,rfl⟩:=hu
 rfl
theorem strs_at (xs:List (List UInt8)) (j:Nat) (hj:j<xs.length):(strs xs)[j]?=some (.string (mk (xs.getD j []))):=by
 simp [strs,List.getElem?_eq_getElem hj]

def SRow (w:World) (A:Option Addr) (n:Nat) (xs:List (List UInt8)):Prop :=
 xs.length=n∧(0<n→∃ b o,A=some ⟨b,o,none⟩∧b<w.heap.size∧∀ j,j<n→w.cell? ⟨b,o+j,none⟩=some (.string (mk (xs.getD j []))))

theorem SRow.none_ (w:World) (A:Option Addr):SRow w A 0 []:=⟨rfl,fun h=>by omega⟩
theorem SRow.kept {w w':World} {A:Option Addr} {n:Nat} {xs:List (List UInt8)} (h:SRow w A n xs) (hb:Below w.heap.size w w'):SRow w' A n xs:=by
 refine ⟨h.1,fun h0=>?_⟩
 obtain ⟨b,o,e,hlt,hc⟩:=h.2 h0
 exact ⟨b,o,e,Nat.lt_of_lt_of_le hlt hb.size,fun j hj=>(hb.cell (p:=⟨b,o+j,none⟩) hlt).trans (hc j hj)⟩
theorem SRow.nil {w:World} {n:Nat} {xs:List (List UInt8)} (h:SRow w none n xs):n=0∧xs=[]:=by
 rcases Nat.eq_zero_or_pos n with h0 | h0
 ·exact ⟨h0,List.eq_nil_of_length_eq_zero (by rw [h.1]; exact h0)⟩
 ·obtain ⟨b,o,e,_⟩:=h.2 h0
  cases e
theorem SRow.news {w:World} {ad:Addr} {n:Nat} {xs:List (List UInt8)} (h:SRow w (some ad) n xs):∀ j u,(strs xs)[j]?=some u→w.cell? (ad.add j)=some u:=by
 intro j u hu
 have hj:j<xs.length:=by
  have:=(List.getElem?_eq_some_iff.1 hu).1
  rwa [strs_length] at this
 obtain ⟨b,o,e,_,hc⟩:=h.2 (by have:=h.1; omega)
 injection e with e
 subst e
 rw [strs_at xs j hj] at hu
 injection hu with hu
 rw [add_none,hc j (by rw [← h.1]; exact hj),hu]
theorem SRow.of_own {w:World} {base:Nat} {v:Value} {n:Nat} {xs:List (List UInt8)} (h:w.ownsRow base 9 1 v n (strs xs)) :
  ∃ A c,v=.slice A n c∧n≤c∧SRow w A n xs:=by
 have hl:xs.length=n:=by have:=h.1; rw [strs_length] at this; omega
 have hcs:=fun g=>h.cells (g:=g)
 rcases h.2 with ⟨rfl,rfl⟩ | ⟨g,cap,cur,rfl,_,hg,hnc,hcm,_,_⟩
 ·exact ⟨none,0,rfl,Nat.le_refl _,hl,fun h0=>by omega⟩
 ·refine ⟨_,cap,rfl,hnc,hl,fun h0=>⟨g,0,rfl,(Array.getElem?_eq_some_iff.1 hg).1,fun j hj=>?_⟩⟩
  have:=hcs g rfl j _ (strs_at xs j (by omega))
  rwa [add_none] at this

theorem own_below {w w':World} {base:Nat} {e:TypeId} {size:Nat} {v:Value} {n:Nat} {xs:List Value} (h:w.ownsRow base e size v n xs) (hb:Below w.heap.size w w'):w'.ownsRow base e size v n xs :=
 h.kept (row:=none) ⟨hb.os,hb.tape,hb.output,hb.size,fun i hi _=>hb.block i hi⟩ (by cases v.ownBlock <;> simp)

theorem strInfo:(Tryz.prog.info? 9).map (fun i=>(i.zero,i.size,i.bytes))=some (some (.string ⟨#[]⟩),1,16):=by kernel_rfl

theorem run_append_strs (w:World) (ty:TypeId) (base:Nat) (v:Value) (n:Nat) (xs:List (List UInt8)) (hown:w.ownsRow base 9 1 v n (strs xs))
  (A:Option Addr) (m c:Nat) (ys:List (List UInt8)) (hr:SRow w A m ys) (hnil:A=none→c=0) (hb:(n+m) * 16≤140737488355328) (hbase:base≤w.heap.size) :
  ∃ v' w',(Builtin.append_ #[35,35] ty #[v,.slice A m c]).run Tryz.prog w=.ok v' w'∧w'.ownsRow base 9 1 v' (n+m) (strs (xs ++ ys))∧w.grownBy w' v.ownBlock:=by
 obtain ⟨i,hi,hz,hs,hby⟩:=info_parts strInfo
 cases A with
 | none =>
  obtain ⟨rfl,rfl⟩:=hr.nil
  obtain rfl:=hnil rfl
  exact ⟨v,w,run_append_owned_none (P:=Tryz.prog) (w:=w) base 35 ty 9 i 1 Tryz.underlying35 hi v n _ hown,by simpa using hown,World.grownBy.refl w _⟩
 | some ad =>
  obtain ⟨v',w',h1,h2,h3,_⟩:=run_append_own (P:=Tryz.prog) w base 35 ty 9 i (.string ⟨#[]⟩) 1 16 Tryz.underlying35 hi hz hs hby rfl (by omega) v n _ hown ad m c (strs ys)
   (by rw [strs_length,hr.1]; omega) hr.news (strs_one ys) (by unfold maxLen; omega) hb hbase
  exact ⟨v',w',h1,by rw [strs_append]; exact h2,h3⟩

theorem wpList_append_strs (w:World) {ops:Array Oper} {rest:List Oper} {o:Oper} {a:Act} {Q:Exit→Act→World→Prop} (hgd:o.guard=none) (s x:Operand)
  (ho:o.op=.call { callee:=.builtin .append,args:=#[s,x],argTypes:=#[35,35] })
  (base:Nat) (v:Value) (n:Nat) (xs:List (List UInt8)) (hs:a.eval s=v) (hown:w.ownsRow base 9 1 v n (strs xs))
  (A:Option Addr) (m c:Nat) (ys:List (List UInt8)) (hx:a.eval x=.slice A m c) (hr:SRow w A m ys) (hnil:A=none→c=0) (hb:(n+m) * 16≤140737488355328) (hbase:base≤w.heap.size)
  (h:∀ v' w',w'.ownsRow base 9 1 v' (n+m) (strs (xs ++ ys))→Below base w w'→wpList Tryz.prog ops Q rest (a.put o.dst v') w'):wpList Tryz.prog ops Q (o :: rest) a w:=by
 refine wpList_plain hgd fun K hK=>?_
 obtain ⟨v',w',hrun,h2,h3⟩:=run_append_strs w o.type base v n xs hown A m c ys hr hnil hb hbase
 unfold Oper.wp execOp
 simp only [ho,resolve,invoke,builtin,Sem.run_bind,Sem.run_pure,Result.andThen_ok,List.map_toArray,List.map_cons,List.map_nil,hs,hx,hrun]
 exact hK _ _ (h v' w' h2 ((Below.refl base w).grown h3 hbase fun k hk=>(hown.lt k hk).1))

theorem SRow.one (w:World) (l:List UInt8):SRow (w.alloc (.cells #[.string (mk l)] 9)) (some ⟨w.heap.size,0,none⟩) 1 [l]:=by
 refine ⟨rfl,fun _=>⟨w.heap.size,0,rfl,by simp,fun j hj=>?_⟩⟩
 obtain rfl:j=0:=by omega
 have hh:(w.alloc (.cells #[.string (mk l)] 9)).heap[w.heap.size]?=some (.cells #[.string (mk l)] 9):=by
  show (w.heap.push _)[w.heap.size]?=_
  simp
 exact cell_of_row _ _ _ #[.string (mk l)] _ _ hh


theorem Row.from_ {w:World} {A A':Option Addr} {n:Nat} {l:List UInt8} (h:Row w A n l) (k c:Nat) (hk:k≤n) (hc:n≤c) (hA:(if c=k then A else A.map (fun x=>x.add k))=A'):Row w A' (n - k) (l.drop k):=by
 have:=h.piece (A':=A') k (n - k) (by omega) (fun h0 b o e=>by rw [← hA,if_neg (by omega)]; exact map_add k A b o e)
 rwa [List.take_of_length_le (by rw [List.length_drop,h.1]; exact Nat.le_refl _)] at this

def sameB (xs ys:List (List UInt8)):Bool:=xs == ys
theorem sameB_iff (xs ys:List (List UInt8)):sameB xs ys=true↔xs=ys:=by simp [sameB]
theorem sameB_no {xs ys:List (List UInt8)} (h:xs≠ys):sameB xs ys=false:=by simp [sameB,h]

theorem SRow.set {w:World} {A:Option Addr} {n:Nat} {xs:List (List UInt8)} (h:SRow w A n xs) {p:Addr} {u:Value} (hu:w.cell? p=some u) (hs:∀ s,u≠.string s) (v:Value):SRow (w.setCell p v) A n xs:=by
 refine ⟨h.1,fun h0=>?_⟩
 obtain ⟨b,o,e,hlt,hc⟩:=h.2 h0
 refine ⟨b,o,e,by simpa using hlt,fun j hj=>?_⟩
 rw [World.cell?_setCell_other]
 ·exact hc j hj
 ·intro he
  rw [he,hc j hj] at hu
  injection hu with hu
  exact hs _ hu.symm
theorem cell_beside (w:World) (b i j:Nat) (v:Value) (h:i≠j):(w.setCell ⟨b,i,none⟩ v).cell? ⟨b,j,none⟩=w.cell? ⟨b,j,none⟩ :=
 World.cell?_setCell_other _ _ _ _ (by intro e; injection e with _ e; exact h e)
theorem SRow.set5 {w:World} {A:Option Addr} {n:Nat} {xs:List (List UInt8)} (h:SRow w A n xs) {b:Nat} {u0 u1 u2 u3 u4:Value}
  (h0:w.cell? ⟨b,0,none⟩=some u0) (h1:w.cell? ⟨b,1,none⟩=some u1) (h2:w.cell? ⟨b,2,none⟩=some u2) (h3:w.cell? ⟨b,3,none⟩=some u3) (h4:w.cell? ⟨b,4,none⟩=some u4)
  (s0:∀ s,u0≠.string s) (s1:∀ s,u1≠.string s) (s2:∀ s,u2≠.string s) (s3:∀ s,u3≠.string s) (s4:∀ s,u4≠.string s) (v0 v1 v2 v3 v4:Value) :
  SRow (((((w.setCell ⟨b,0,none⟩ v0).setCell ⟨b,1,none⟩ v1).setCell ⟨b,2,none⟩ v2).setCell ⟨b,3,none⟩ v3).setCell ⟨b,4,none⟩ v4) A n xs:=by
 refine SRow.set (SRow.set (SRow.set (SRow.set (SRow.set h h0 s0 v0) (u:=u1) ?_ s1 v1) (u:=u2) ?_ s2 v2) (u:=u3) ?_ s3 v3) (u:=u4) ?_ s4 v4
 ·exact (cell_beside _ _ _ _ _ (by omega)).trans h1
 ·exact (cell_beside _ _ _ _ _ (by omega)).trans ((cell_beside _ _ _ _ _ (by omega)).trans h2)
 ·exact (cell_beside _ _ _ _ _ (by omega)).trans ((cell_beside _ _ _ _ _ (by omega)).trans ((cell_beside _ _ _ _ _ (by omega)).trans h3))
 ·exact (cell_beside _ _ _ _ _ (by omega)).trans ((cell_beside _ _ _ _ _ (by omega)).trans ((cell_beside _ _ _ _ _ (by omega)).trans ((cell_beside _ _ _ _ _ (by omega)).trans h4)))

def At5 (W:World) (b:Nat) (u0 u1 u2 u3 u4:Value):Prop:=b<W.heap.size∧(∀ o,W.frozen? ⟨b,o,none⟩=false)∧W.cell? ⟨b,0,none⟩=some u0∧W.cell? ⟨b,1,none⟩=some u1∧W.cell? ⟨b,2,none⟩=some u2∧W.cell? ⟨b,3,none⟩=some u3∧W.cell? ⟨b,4,none⟩=some u4
theorem At5.new (w:World) (t:TypeId) (u0 u1 u2 u3 u4:Value):At5 (w.alloc (.cells #[u0,u1,u2,u3,u4] t)) w.heap.size u0 u1 u2 u3 u4:=by
 unfold At5
 refine ⟨by simp,fun o=>by simp [go_sem],?_,?_,?_,?_,?_⟩ <;> simp [go_sem]
theorem At5.kept {W W':World} {b B:Nat} {u0 u1 u2 u3 u4:Value} (h:At5 W b u0 u1 u2 u3 u4) (hb:Below B W W') (hB:b<B):At5 W' b u0 u1 u2 u3 u4:=by
 obtain ⟨h1,h2,c0,c1,c2,c3,c4⟩:=h
 exact ⟨Nat.lt_of_lt_of_le h1 hb.size,fun o=>(hb.frozen (p:=⟨b,o,none⟩) hB).trans (h2 o),(hb.cell (p:=⟨b,0,none⟩) hB).trans c0,(hb.cell (p:=⟨b,1,none⟩) hB).trans c1,(hb.cell (p:=⟨b,2,none⟩) hB).trans c2,(hb.cell (p:=⟨b,3,none⟩) hB).trans c3,(hb.cell (p:=⟨b,4,none⟩) hB).trans c4⟩

def At3 (W:World) (b:Nat) (u0 u1 u2:Value):Prop:=b<W.heap.size∧(∀ o,W.frozen? ⟨b,o,none⟩=false)∧W.cell? ⟨b,0,none⟩=some u0∧W.cell? ⟨b,1,none⟩=some u1∧W.cell? ⟨b,2,none⟩=some u2
theorem At3.new (w:World) (t:TypeId) (u0 u1 u2:Value):At3 (w.alloc (.cells #[u0,u1,u2] t)) w.heap.size u0 u1 u2:=by
 unfold At3
 refine ⟨by simp,fun o=>by simp [go_sem],?_,?_,?_⟩ <;> simp [go_sem]
theorem At3.kept {W W':World} {b B:Nat} {u0 u1 u2:Value} (h:At3 W b u0 u1 u2) (hb:Below B W W') (hB:b<B):At3 W' b u0 u1 u2:=by
 obtain ⟨h1,h2,c0,c1,c2⟩:=h
 exact ⟨Nat.lt_of_lt_of_le h1 hb.size,fun o=>(hb.frozen (p:=⟨b,o,none⟩) hB).trans (h2 o),(hb.cell (p:=⟨b,0,none⟩) hB).trans c0,(hb.cell (p:=⟨b,1,none⟩) hB).trans c1,(hb.cell (p:=⟨b,2,none⟩) hB).trans c2⟩
def set5 (w:World) (b:Nat) (v0 v1 v2 v3 v4:Value):World:=((((w.setCell ⟨b,0,none⟩ v0).setCell ⟨b,1,none⟩ v1).setCell ⟨b,2,none⟩ v2).setCell ⟨b,3,none⟩ v3).setCell ⟨b,4,none⟩ v4
theorem At5.set5 {W:World} {b:Nat} {u0 u1 u2 u3 u4:Value} (h:At5 W b u0 u1 u2 u3 u4) (v0 v1 v2 v3 v4:Value):At5 (set5 W b v0 v1 v2 v3 v4) b v0 v1 v2 v3 v4:=by
 obtain ⟨h1,h2,c0,c1,c2,c3,c4⟩:=h
 unfold Ident.set5
 refine ⟨by simpa using h1,fun o=>by simp [go_sem,h2],?_,?_,?_,?_,?_⟩ <;> simp [go_sem,c0,c1,c2,c3,c4]
end Go.Proofs.YtgakcdcfblgagaaGreatDoor.Ident
namespace Go.Proofs.YtgakcdcfblgagaaGreatDoor.Num
open Go.RowKit

theorem news_new (w:World) (L:List Value) (t:TypeId):∀ j u,L[j]?=some u→(w.alloc (.cells L.toArray t)).cell? ((⟨w.heap.size,0,none⟩:Addr).add j)=some u:=by
 intro j u hu
 have hh:(w.alloc (.cells L.toArray t)).heap[w.heap.size]?=some (.cells L.toArray t):=by
  show (w.heap.push _)[w.heap.size]?=_
  simp
 rw [add_none,cell_of_row _ _ _ L.toArray t (0,0) hh,Nat.zero_add]
 simpa using hu
theorem flat_get {α:Type} [Inhabited α] (f:α→List Value) (k:Nat) (hk:∀ x,(f x).length=k):∀ (l:List α) (j i:Nat),j<l.length→i<k→(l.flatMap f)[j * k+i]?=(f (l.getD j default))[i]?
 | [],j,i,hj,_=>by simp at hj
 | x :: l,0,i,_,hi=>by
  rw [List.flatMap_cons,List.getElem?_append_left (by rw [hk]; omega)]; simp
 | x :: l,j+1,i,hj,hi=>by
  rw [List.flatMap_cons,List.getElem?_append_right (by rw [hk,Nat.succ_mul]; omega),hk,show (j+1) * k+i - k=j * k+i by rw [Nat.succ_mul]; omega,flat_get f k hk l j i (by simpa using hj) hi]; simp
theorem flat_len {α:Type} (f:α→List Value) (k:Nat) (hk:∀ x,(f x).length=k):∀ l:List α,(l.flatMap f).length=l.length * k
 | []=>by simp
 | x :: l=>by rw [List.flatMap_cons,List.length_append,hk,flat_len f k hk l,List.length_cons,Nat.succ_mul]; omega
theorem flat_one {α:Type} (f:α→List Value) (h:∀ x,∀ u ∈ f x,u.oneCell'=true) (l:List α):∀ u ∈ l.flatMap f,u.oneCell'=true:=by
 intro u hu; obtain ⟨x,_,hx⟩:=List.mem_flatMap.1 hu; exact h x u hx
theorem own_cells {α:Type} [Inhabited α] {f:α→List Value} {k:Nat} (hk:∀ x,(f x).length=k) {w:World} {base:Nat} {e:TypeId} {v:Value} {n:Nat} {l:List α} (h:w.ownsRow base e k v n (l.flatMap f)) (hl:l.length=n) :
  ∃ A c,v=.slice A n c∧n≤c∧(A=none→c=0)∧(0<n→∃ g,A=some ⟨g,0,none⟩∧base≤g∧g<w.heap.size∧(∀ o,w.frozen? ⟨g,o,none⟩=false)∧∀ j,j<n→∀ i u,(f (l.getD j default))[i]?=some u→w.cell? ⟨g,0+j * k+i,none⟩=some u):=by
 have hcs:=fun g=>h.cells (g:=g)
 rcases h.2 with ⟨rfl,rfl⟩ | ⟨g,cap,cur,rfl,hg0,hg,hnc,hcm,_,_⟩
 ·exact ⟨none,0,rfl,Nat.le_refl _,fun _=>rfl,fun h0=>by omega⟩
 ·refine ⟨_,cap,rfl,hnc,(fun e=>by cases e),fun h0=>⟨g,rfl,hg0,(Array.getElem?_eq_some_iff.1 hg).1,fun o=>?_,fun j hj i u hu=>?_⟩⟩
  ·simp [World.frozen?,hg]
  ·have hi:i<k:=by have:=(List.getElem?_eq_some_iff.1 hu).1; rwa [hk] at this
   have:=hcs g rfl (j * k+i) u (by rw [flat_get f k hk l j i (by omega) hi]; exact hu)
   rw [add_none] at this
   rw [Nat.add_assoc]; exact this
theorem own_apart {w:World} {B1 B2:Nat} {e1 e2:TypeId} {k1 k2:Nat} {v1 v2:Value} {n1 n2:Nat} {x1 x2:List Value} (h1:w.ownsRow B1 e1 k1 v1 n1 x1) (h2:w.ownsRow B2 e2 k2 v2 n2 x2) (hne:e1≠e2):v1.ownBlock=none∨v1.ownBlock≠v2.ownBlock:=by
 rcases h1.2 with ⟨rfl,_⟩ | ⟨g1,c1,u1,rfl,_,hg1,_⟩
 ·exact .inl rfl
 ·right
  rcases h2.2 with ⟨rfl,_⟩ | ⟨g2,c2,u2,rfl,_,hg2,_⟩
  ·intro h; cases h
  ·intro h
   have e:g1=g2:=by simpa [Value.ownBlock] using h
   subst e
   rw [hg1] at hg2
   injection hg2 with hg2
   injection hg2 with _ h
   exact hne h

end Go.Proofs.YtgakcdcfblgagaaGreatDoor.Num
namespace Go.Proofs.YtgakcdcfblgagaaGreatDoor.Span
open Go.RowKit

def jumps (J:Nat→Act→World→Prop) (Q:Exit→Act→World→Prop):Exit→Act→World→Prop
 | .goto l,a,w=>J l a w
 | e,a,w=>Q e a w
def Less (J0 J1:Act→World→Prop) (m0 m1:Act→World→Nat) (m:Nat) (l:Nat) (a:Act) (w:World):Prop:=(l=0∧J0 a w∧m0 a w<m)∨(l=1∧J1 a w∧m1 a w<m)
theorem wp_two {P:Program} {a:Act} {w:World} {Q:Exit→Act→World→Prop} {c rest0 rest1:Code} (J0 J1:Act→World→Prop) (m0 m1:Act→World→Nat) (hf0:findLabel c 0=some (Code.skip.seq rest0)) (hf1:findLabel c 1=some (Code.skip.seq rest1))
  (pass1:∀ m a w,J1 a w→m1 a w=m→rest1.wp P (jumps (Less J0 J1 m0 m1 m) Q) a w)
  (pass0:Hid (∀ m a w,J1 a w→m1 a w≤m→rest1.wp P (jumps (Less J0 J1 m0 m1 m) Q) a w)→∀ m a w,J0 a w→m0 a w=m→rest0.wp P (jumps (Less J0 J1 m0 m1 m) Q) a w)
  (first:Hid (∀ a w,J0 a w→rest0.wp P (jumps (fun l a w=>(l=0∧J0 a w)∨(l=1∧J1 a w)) Q) a w)→c.wp P (jumps (fun l a w=>(l=0∧J0 a w)∨(l=1∧J1 a w)) Q) a w):(Code.scope c).wp P Q a w:=by
 have mono1:∀ m a w,J1 a w→m1 a w≤m→rest1.wp P (jumps (Less J0 J1 m0 m1 m) Q) a w:=fun m a w h hm =>
  wp_mono (pass1 _ a w h rfl) (fun e _ _ hq=>by
   cases e <;> first | exact hq | (rcases hq with ⟨h1,h2,h3⟩ | ⟨h1,h2,h3⟩; exact .inl ⟨h1,h2,Nat.lt_of_lt_of_le h3 hm⟩; exact .inr ⟨h1,h2,Nat.lt_of_lt_of_le h3 hm⟩))
 have p0:=pass0 mono1
 have first:=first fun a w h=>wp_mono (p0 _ a w h rfl) (fun e _ _ hq=>by
   cases e <;> first | exact hq | (rcases hq with ⟨h1,h2,h3⟩ | ⟨h1,h2,h3⟩; exact .inl ⟨h1,h2⟩; exact .inr ⟨h1,h2⟩))
 intro b k cs
 have hg0:gotoIn 0 (.inScope c :: k)=some (.code (Code.skip.seq rest0) :: .inScope c :: k):=by simp [gotoIn,hf0]
 have hg1:gotoIn 1 (.inScope c :: k)=some (.code (Code.skip.seq rest1) :: .inScope c :: k):=by simp [gotoIn,hf1]
 have key:∀ n,(∀ a w,m0 a w≤n→J0 a w→∃ e a' w',Q e a' w'∧Arrives P (lone (b.at a (.code (Code.skip.seq rest0) :: .inScope c :: k)) cs w) b k cs e a' w')∧(∀ a w,m1 a w≤n→J1 a w→∃ e a' w',Q e a' w'∧Arrives P (lone (b.at a (.code (Code.skip.seq rest1) :: .inScope c :: k)) cs w) b k cs e a' w'):=by
  intro n
  induction n using Nat.strongRecOn with
  | _ n ih =>
   have go:∀ (rest:Code) (m:Nat) (a:Act) (w:World),m≤n→rest.wp P (jumps (Less J0 J1 m0 m1 m) Q) a w→∃ e a' w',Q e a' w'∧Arrives P (lone (b.at a (.code (Code.skip.seq rest) :: .inScope c :: k)) cs w) b k cs e a' w':=by
    intro rest m a w hm hw
    obtain ⟨e,a₁,w₁,hq,harr⟩:=(wp_seq (wp_skip hw):(Code.skip.seq rest).wp P _ a w) b (.inScope c :: k) cs
    cases e with
    | normal=>exact ⟨.normal,a₁,w₁,hq,Steps.trans harr (.one step_inScope)⟩
    | exit id=>exact ⟨.exit id,a₁,w₁,hq,fun k' hk=>harr k' (by simp [exitTo,hk])⟩
    | goto l' =>
     rcases hq with ⟨rfl,hJ',hlt⟩ | ⟨rfl,hJ',hlt⟩
     ·obtain ⟨e₂,a₂,w₂,hq₂,harr₂⟩:=(ih _ (Nat.lt_of_lt_of_le hlt hm)).1 a₁ w₁ (Nat.le_refl _) hJ'
      exact ⟨e₂,a₂,w₂,hq₂,.of_steps (harr _ hg0) harr₂⟩
     ·obtain ⟨e₂,a₂,w₂,hq₂,harr₂⟩:=(ih _ (Nat.lt_of_lt_of_le hlt hm)).2 a₁ w₁ (Nat.le_refl _) hJ'
      exact ⟨e₂,a₂,w₂,hq₂,.of_steps (harr _ hg1) harr₂⟩
    | ret=>exact ⟨_,a₁,w₁,hq,harr⟩
    | panic ch=>exact ⟨_,a₁,w₁,hq,harr⟩
    | outgrown=>exact ⟨_,a₁,w₁,hq,harr⟩
   exact ⟨fun a w hm hJ=>go rest0 _ a w hm (p0 _ a w hJ rfl),fun a w hm hJ=>go rest1 _ a w hm (pass1 _ a w hJ rfl)⟩
 obtain ⟨e,a₁,w₁,hq,harr⟩:=first b (.inScope c :: k) cs
 cases e with
 | normal=>exact ⟨.normal,a₁,w₁,hq,.head step_scope (Steps.trans harr (.one step_inScope))⟩
 | exit id=>exact ⟨.exit id,a₁,w₁,hq,fun k' hk=>.head step_scope (harr k' (by simp [exitTo,hk]))⟩
 | goto l' =>
  rcases hq with ⟨rfl,hJ'⟩ | ⟨rfl,hJ'⟩
  ·obtain ⟨e₂,a₂,w₂,hq₂,harr₂⟩:=(key _).1 a₁ w₁ (Nat.le_refl _) hJ'
   exact ⟨e₂,a₂,w₂,hq₂,.of_steps (.head step_scope (harr _ hg0)) harr₂⟩
  ·obtain ⟨e₂,a₂,w₂,hq₂,harr₂⟩:=(key _).2 a₁ w₁ (Nat.le_refl _) hJ'
   exact ⟨e₂,a₂,w₂,hq₂,.of_steps (.head step_scope (harr _ hg1)) harr₂⟩
 | ret=>exact ⟨_,a₁,w₁,hq,.of_steps (.one step_scope) harr⟩
 | panic ch=>exact ⟨_,a₁,w₁,hq,.of_steps (.one step_scope) harr⟩
 | outgrown=>exact ⟨_,a₁,w₁,hq,.of_steps (.one step_scope) harr⟩
end Go.Proofs.YtgakcdcfblgagaaGreatDoor.Span
namespace Go.Proofs.YtgakcdcfblgagaaGreatDoor.Fr
open Go.RowKit Num

structure But (T:Nat→Prop) (w w':World):Prop where
 os:w'.os=w.os
 tape:w'.tape=w.tape
 output:w'.output=w.output
 size:w.heap.size≤w'.heap.size
 block:∀ k,k<w.heap.size→¬ T k→w'.heap[k]?=w.heap[k]?
theorem But.refl (T:Nat→Prop) (w:World):But T w w:=⟨rfl,rfl,rfl,Nat.le_refl _,fun _ _ _=>rfl⟩
theorem But.mono {T T':Nat→Prop} {w w':World} (h:But T w w') (ht:∀ k,T k→T' k):But T' w w':=⟨h.os,h.tape,h.output,h.size,fun k hk hn=>h.block k hk fun g=>hn (ht k g)⟩
theorem But.trans {T T':Nat→Prop} {a b c:World} (h:But T a b) (k:But T' b c) (ht:∀ i,T' i→T i∨a.heap.size≤i):But T a c :=
 ⟨k.os.trans h.os,k.tape.trans h.tape,k.output.trans h.output,Nat.le_trans h.size k.size,fun i hi hn=>(k.block i (Nat.lt_of_lt_of_le hi h.size) fun g=>by
  rcases ht i g with g | g
  ·exact hn g
  ·omega).trans (h.block i hi hn)⟩
theorem But.drew {T:Nat→Prop} {a w:World} (h:But T a w):But T a w.drew:=⟨h.os,h.tape,h.output,h.size,h.block⟩
theorem But.of_below {T:Nat→Prop} {B:Nat} {w w':World} (h:Below B w w') (ht:∀ k,k<w.heap.size→¬ T k→k<B):But T w w':=⟨h.os,h.tape,h.output,h.size,fun k hk hn=>h.block k (ht k hk hn)⟩
theorem But.of_same {w w':World} (h:Below w.heap.size w w') (T:Nat→Prop):But T w w':=.of_below h fun _ hk _=>hk
theorem But.of_grown {T:Nat→Prop} {w w':World} {row:Option Nat} (h:w.grownBy w' row) (ht:∀ b,row=some b→T b):But T w w' :=
 ⟨h.os,h.tape,h.output,h.size,fun k hk hn=>h.block k hk fun e=>hn (ht k e.symm)⟩
theorem But.alloc {T:Nat→Prop} {a w:World} (h:But T a w) (o:Obj):But T a (w.alloc o) :=
 h.trans (But.of_same ((Below.refl _ _).alloc (Nat.le_refl _) o) fun _=>False) fun _ g=>g.elim
theorem But.set {T:Nat→Prop} {a w:World} (h:But T a w) (b o:Nat) (v:Value) (hb:T b∨a.heap.size≤b):But T a (w.setCell ⟨b,o,none⟩ v) :=
 h.trans (T':=fun k=>k=b) ⟨rfl,rfl,rfl,by simp [World.setCell],fun k _ hn=>Below.heap_setCell _ _ _ _ hn⟩ fun i e=>by rw [e]; exact hb
theorem But.below {T:Nat→Prop} {B:Nat} {w w':World} (h:But T w w') (ht:∀ k,T k→B≤k) (hB:B≤w.heap.size):Below B w w' :=
 ⟨h.os,h.tape,h.output,h.size,fun k hk=>h.block k (Nat.lt_of_lt_of_le hk hB) fun g=>by have:=ht k g; omega⟩
theorem But.cell {T:Nat→Prop} {w w':World} {b o:Nat} (h:But T w w') (hb:b<w.heap.size) (hn:¬ T b):w'.cell? ⟨b,o,none⟩=w.cell? ⟨b,o,none⟩:=World.cell?_of_block (a:=⟨b,o,none⟩) (h.block b hb hn)
theorem But.frozen {T:Nat→Prop} {w w':World} {b o:Nat} (h:But T w w') (hb:b<w.heap.size) (hn:¬ T b):w'.frozen? ⟨b,o,none⟩=w.frozen? ⟨b,o,none⟩:=World.frozen?_of_block (a:=⟨b,o,none⟩) (h.block b hb hn)
theorem own_lt {w:World} {base:Nat} {e:TypeId} {size:Nat} {v:Value} {n:Nat} {xs:List Value} (h:w.ownsRow base e size v n xs) {b:Nat} (hb:v.ownBlock=some b):b<w.heap.size:=(h.lt b hb).2
theorem own_but {T:Nat→Prop} {w w':World} {base:Nat} {e:TypeId} {size:Nat} {v:Value} {n:Nat} {xs:List Value} (h:w.ownsRow base e size v n xs) (hb:But T w w') (hn:∀ b,v.ownBlock=some b→¬ T b):w'.ownsRow base e size v n xs:=by
 have hlt:=fun b g=>own_lt h (b:=b) g
 rcases h with ⟨hl,h | ⟨g,cap,cur,rfl,hbg,hg,r⟩⟩
 ·exact ⟨hl,.inl h⟩
 ·exact ⟨hl,.inr ⟨g,cap,cur,rfl,hbg,(hb.block g (hlt g rfl) (hn g rfl)).trans hg,r⟩⟩
theorem map_but {H:Type} {P:Program} {k:TypeId} {R:Value→Option (DataW H × List MemPlace)} {T:Nat→Prop} {w w':World} {b n:Nat} {D:DataW H} (h:w.ownsMap P k R b n D) (hb:But T w w') (hn:¬ T b):w'.ownsMap P k R b n D:=by
 have hlt:=h.lt
 obtain ⟨es,clock,h1,r⟩:=h
 exact ⟨es,clock,(hb.block b hlt hn).trans h1,r⟩

structure At2 (W:World) (b:Nat) (u0 u1:Value):Prop where
 lt:b<W.heap.size
 fr:∀ o,W.frozen? ⟨b,o,none⟩=false
 c0:W.cell? ⟨b,0,none⟩=some u0
 c1:W.cell? ⟨b,1,none⟩=some u1
end Go.Proofs.YtgakcdcfblgagaaGreatDoor.Fr
namespace Go.Proofs.YtgakcdcfblgagaaGreatDoor.Model
open Go.RowKit

def jumps (J:Nat→Act→World→Prop) (Q:Exit→Act→World→Prop):Exit→Act→World→Prop
 | .goto l,a,w=>J l a w
 | e,a,w=>Q e a w
def Less (la lb:Nat) (J0 J1:Act→World→Prop) (m0 m1:Act→World→Nat) (m:Nat) (l:Nat) (a:Act) (w:World):Prop:=(l=la∧J0 a w∧m0 a w<m)∨(l=lb∧J1 a w∧m1 a w<m)
theorem wp_two {P:Program} {a:Act} {w:World} {Q:Exit→Act→World→Prop} {c rest0 rest1:Code} (la lb:Nat) (J0 J1:Act→World→Prop) (m0 m1:Act→World→Nat) (hf0:findLabel c la=some (Code.skip.seq rest0)) (hf1:findLabel c lb=some (Code.skip.seq rest1))
  (pass1:∀ m a w,J1 a w→m1 a w=m→rest1.wp P (jumps (Less la lb J0 J1 m0 m1 m) Q) a w)
  (pass0:Hid (∀ m a w,J1 a w→m1 a w≤m→rest1.wp P (jumps (Less la lb J0 J1 m0 m1 m) Q) a w)→∀ m a w,J0 a w→m0 a w=m→rest0.wp P (jumps (Less la lb J0 J1 m0 m1 m) Q) a w)
  (first:Hid (∀ a w,J0 a w→rest0.wp P (jumps (fun l a w=>(l=la∧J0 a w)∨(l=lb∧J1 a w)) Q) a w)→c.wp P (jumps (fun l a w=>(l=la∧J0 a w)∨(l=lb∧J1 a w)) Q) a w):(Code.scope c).wp P Q a w:=by
 have mono1:∀ m a w,J1 a w→m1 a w≤m→rest1.wp P (jumps (Less la lb J0 J1 m0 m1 m) Q) a w:=fun m a w h hm =>
  wp_mono (pass1 _ a w h rfl) (fun e _ _ hq=>by
   cases e <;> first | exact hq | (rcases hq with ⟨h1,h2,h3⟩ | ⟨h1,h2,h3⟩; exact .inl ⟨h1,h2,Nat.lt_of_lt_of_le h3 hm⟩; exact .inr ⟨h1,h2,Nat.lt_of_lt_of_le h3 hm⟩))
 have p0:=pass0 mono1
 have first:=first fun a w h=>wp_mono (p0 _ a w h rfl) (fun e _ _ hq=>by
   cases e <;> first | exact hq | (rcases hq with ⟨h1,h2,h3⟩ | ⟨h1,h2,h3⟩; exact .inl ⟨h1,h2⟩; exact .inr ⟨h1,h2⟩))
 intro b k cs
 have hg0:gotoIn la (.inScope c :: k)=some (.code (Code.skip.seq rest0) :: .inScope c :: k):=by simp [gotoIn,hf0]
 have hg1:gotoIn lb (.inScope c :: k)=some (.code (Code.skip.seq rest1) :: .inScope c :: k):=by simp [gotoIn,hf1]
 have key:∀ n,(∀ a w,m0 a w≤n→J0 a w→∃ e a' w',Q e a' w'∧Arrives P (lone (b.at a (.code (Code.skip.seq rest0) :: .inScope c :: k)) cs w) b k cs e a' w')∧(∀ a w,m1 a w≤n→J1 a w→∃ e a' w',Q e a' w'∧Arrives P (lone (b.at a (.code (Code.skip.seq rest1) :: .inScope c :: k)) cs w) b k cs e a' w'):=by
  intro n
  induction n using Nat.strongRecOn with
  | _ n ih =>
   have go:∀ (rest:Code) (m:Nat) (a:Act) (w:World),m≤n→rest.wp P (jumps (Less la lb J0 J1 m0 m1 m) Q) a w→∃ e a' w',Q e a' w'∧Arrives P (lone (b.at a (.code (Code.skip.seq rest) :: .inScope c :: k)) cs w) b k cs e a' w':=by
    intro rest m a w hm hw
    obtain ⟨e,a₁,w₁,hq,harr⟩:=(wp_seq (wp_skip hw):(Code.skip.seq rest).wp P _ a w) b (.inScope c :: k) cs
    cases e with
    | normal=>exact ⟨.normal,a₁,w₁,hq,Steps.trans harr (.one step_inScope)⟩
    | exit id=>exact ⟨.exit id,a₁,w₁,hq,fun k' hk=>harr k' (by simp [exitTo,hk])⟩
    | goto l' =>
     rcases hq with ⟨rfl,hJ',hlt⟩ | ⟨rfl,hJ',hlt⟩
     ·obtain ⟨e₂,a₂,w₂,hq₂,harr₂⟩:=(ih _ (Nat.lt_of_lt_of_le hlt hm)).1 a₁ w₁ (Nat.le_refl _) hJ'
      exact ⟨e₂,a₂,w₂,hq₂,.of_steps (harr _ hg0) harr₂⟩
     ·obtain ⟨e₂,a₂,w₂,hq₂,harr₂⟩:=(ih _ (Nat.lt_of_lt_of_le hlt hm)).2 a₁ w₁ (Nat.le_refl _) hJ'
      exact ⟨e₂,a₂,w₂,hq₂,.of_steps (harr _ hg1) harr₂⟩
    | ret=>exact ⟨_,a₁,w₁,hq,harr⟩
    | panic ch=>exact ⟨_,a₁,w₁,hq,harr⟩
    | outgrown=>exact ⟨_,a₁,w₁,hq,harr⟩
   exact ⟨fun a w hm hJ=>go rest0 _ a w hm (p0 _ a w hJ rfl),fun a w hm hJ=>go rest1 _ a w hm (pass1 _ a w hJ rfl)⟩
 obtain ⟨e,a₁,w₁,hq,harr⟩:=first b (.inScope c :: k) cs
 cases e with
 | normal=>exact ⟨.normal,a₁,w₁,hq,.head step_scope (Steps.trans harr (.one step_inScope))⟩
 | exit id=>exact ⟨.exit id,a₁,w₁,hq,fun k' hk=>.head step_scope (harr k' (by simp [exitTo,hk]))⟩
 | goto l' =>
  rcases hq with ⟨rfl,hJ'⟩ | ⟨rfl,hJ'⟩
  ·obtain ⟨e₂,a₂,w₂,hq₂,harr₂⟩:=(key _).1 a₁ w₁ (Nat.le_refl _) hJ'
   exact ⟨e₂,a₂,w₂,hq₂,.of_steps (.head step_scope (harr _ hg0)) harr₂⟩
  ·obtain ⟨e₂,a₂,w₂,hq₂,harr₂⟩:=(key _).2 a₁ w₁ (Nat.le_refl _) hJ'
   exact ⟨e₂,a₂,w₂,hq₂,.of_steps (.head step_scope (harr _ hg1)) harr₂⟩
 | ret=>exact ⟨_,a₁,w₁,hq,.of_steps (.one step_scope) harr⟩
 | panic ch=>exact ⟨_,a₁,w₁,hq,.of_steps (.one step_scope) harr⟩
 | outgrown=>exact ⟨_,a₁,w₁,hq,.of_steps (.one step_scope) harr⟩
end Go.Proofs.YtgakcdcfblgagaaGreatDoor.Model
namespace Go.Proofs.YtgakcdcfblgagaaGreatDoor.Num
open Go.RowKit

def isNum (l:List UInt8):Bool:=decide (0<l.length∧run l=l.length∧pad l=false)
theorem isNum_iff (l:List UInt8):isNum l=true↔0<l.length∧run l=l.length∧pad l=false:=by simp [isNum]
theorem isNum_no (l:List UInt8):isNum l=false↔¬ (0<l.length∧run l=l.length∧pad l=false):=by
 rw [← isNum_iff]; cases isNum l <;> simp

theorem is_anyD (s:ByteArray) (w:World) (hs:s.size≤maxLen) :
  Calls Tryz.prog 268 #[.string s] w fun e w'=>e=.returned (.bool (isNum s.data.toList))∧BelowD w.heap.size w w':=by
 obtain ⟨c,W,hc,hcv,hr,hb⟩:=run_bytesD w s hs
 unfold maxLen at hs
 have HR:=Lib.hid hr; clear hr
 have HB:=Lib.hid hb; clear hb
 have HL:=Lib.hid (Lib.size_eq s)
 by_cases h0:0<s.size
 ·by_cases h1:run s.data.toList=s.size
  ·have hb1:((run s.data.toList:Int) == (s.size:Int))=true:=by rw [h1]; simp
   have HF:Hid (isNum s.data.toList=!pad s.data.toList):=by
    unfold Hid
    rw [Bool.eq_iff_iff,isNum_iff,← HL.out]; simp [h0,h1]
   have H1:=Lib.hid h1; clear h1
   go_enter Tryz.func268,Tryz.ntmps268
   go_wp2_with fail
   refine (digits_any _ _ _ _ _ HR.out).mono ?_
   rintro e w' ⟨rfl,rfl⟩
   go_wp2_with fail
   refine (padded_any _ _ _ _ _ HR.out).mono ?_
   rintro e w' ⟨rfl,rfl⟩
   go_wp2
   go_ret
   exact ⟨by rw [HF.out]; rfl,HB.out⟩
  ·have hb1:((run s.data.toList:Int) == (s.size:Int))=false:=by simp; omega
   have HF:Hid (isNum s.data.toList=false):=(isNum_no _).2 fun hh=>h1 (by rw [HL.out]; exact hh.2.1)
   have H1:=Lib.hid h1; clear h1
   go_enter Tryz.func268,Tryz.ntmps268
   go_wp2_with fail
   refine (digits_any _ _ _ _ _ HR.out).mono ?_
   rintro e w' ⟨rfl,rfl⟩
   go_wp2
   go_ret
   exact ⟨by rw [HF.out]; rfl,HB.out⟩
 ·have HF:Hid (isNum s.data.toList=false):=(isNum_no _).2 fun hh=>h0 (by rw [HL.out]; exact hh.1)
  go_enter Tryz.func268,Tryz.ntmps268
  go_wp2
  go_ret
  exact ⟨by rw [HF.out]; rfl,HB.out⟩

theorem is_any (s:ByteArray) (w:World) (hs:s.size≤maxLen) :
  Calls Tryz.prog 268 #[.string s] w fun e w'=>e=.returned (.bool (isNum s.data.toList))∧Below w.heap.size w w':=dropD (is_anyD s w hs)

def ordN (x y:Nat):Int:=if x<y then -1 else if y<x then 1 else 0
theorem ordN_lt {x y:Nat} (h:x<y):ordN x y=-1:=by unfold ordN; rw [if_pos h]
theorem ordN_gt {x y:Nat} (h:y<x):ordN x y=1:=by unfold ordN; rw [if_neg (by omega),if_pos h]
theorem ordN_eq {x y:Nat} (h:x=y):ordN x y=0:=by unfold ordN; rw [if_neg (by omega),if_neg (by omega)]
theorem ordN_flip (x y:Nat):ordN y x=0 - ordN x y:=by
 rcases Nat.lt_trichotomy x y with h | h | h
 ·rw [ordN_lt h,ordN_gt h]; rfl
 ·rw [ordN_eq h,ordN_eq h.symm]; rfl
 ·rw [ordN_gt h,ordN_lt h]; rfl

theorem compare_val:∀ (x y:List UInt8),AllDig x→AllDig y→x.length=y.length→Lib.compareBytes x y=ordN (val x) (val y):=by
 intro x
 induction x with
 | nil =>
  intro y _ _ h
  have:y=[]:=List.eq_nil_of_length_eq_zero (by simpa using h.symm)
  subst this
  rw [ordN_eq rfl]; simp [Lib.compareBytes]
 | cons a x ih =>
  intro y hx hy h
  cases y with
  | nil=>simp at h
  | cons b y =>
   have hl:x.length=y.length:=by simpa using h
   have h1:=less_val (a :: x) (b :: y) hx hy h
   have h2:=less_val (b :: y) (a :: x) hy hx h.symm
   rw [allDig_cons] at hx hy
   have h3:=ih y hx.2 hy.2 hl
   unfold Op.bytesLess at h1 h2
   rw [Bool.or_eq_true,decide_eq_true_eq] at h1 h2
   unfold Lib.compareBytes
   by_cases hab:a<b
   ·rw [if_pos hab,ordN_lt (h1.1 (.inl hab))]
   ·rw [if_neg hab]
    by_cases hba:b<a
    ·rw [if_pos hba,ordN_gt (h2.1 (.inl hba))]
    ·rw [if_neg hba,h3]
     have e:a=b:=by
      rw [UInt8.lt_iff_toNat_lt] at hab hba
      exact UInt8.toNat_inj.1 (by omega)
     subst e
     rw [val_cons,val_cons,hl]
     rcases Nat.lt_trichotomy (val x) (val y) with hh | hh | hh
     ·rw [ordN_lt hh,ordN_lt (by omega)]
     ·rw [ordN_eq hh,ordN_eq (by omega)]
     ·rw [ordN_gt hh,ordN_gt (by omega)]

theorem shorter {x y:List UInt8} (hx:isNum x=true) (hy:isNum y=true) (h:x.length<y.length):val x<val y:=by
 rw [isNum_iff] at hx hy
 have ax:=all_of_run hx.2.1
 have ay:=all_of_run hy.2.1
 have vx:=val_lt ax
 cases y with
 | nil=>simp at h
 | cons b r =>
  have hp:=(pad_no _).1 hy.2.2
  have hb:=(isDig_iff b).1 (allDig_cons.1 ay).1
  have h48:b.toNat≠48:=fun e=>hp ⟨by omega,by simpa using e⟩
  have h1:=le_val (b:=b) (r:=r) (by omega)
  have h2:10 ^ x.length≤10 ^ r.length:=Nat.pow_le_pow_right (by omega) (by simp at h; omega)
  omega

theorem alike_val {x y:List UInt8} (hx:isNum x=true) (hy:isNum y=true) (h:x.length=y.length):Lib.compareBytes x y=ordN (val x) (val y):=by
 rw [isNum_iff] at hx hy
 exact compare_val x y (all_of_run hx.2.1) (all_of_run hy.2.1) h

def cmpNum (a b:List UInt8):Int:=if isNum a=true∧isNum b=true then ordN (val a) (val b) else 0
theorem cmpNum_yes {a b:List UInt8} (ha:isNum a=true) (hb:isNum b=true):cmpNum a b=ordN (val a) (val b):=by unfold cmpNum; rw [if_pos ⟨ha,hb⟩]
theorem cmpNum_no {a b:List UInt8} (h:isNum a=false∨isNum b=false):cmpNum a b=0:=by
 unfold cmpNum; rw [if_neg]
 rintro ⟨ha,hb⟩
 rcases h with h | h
 ·rw [ha] at h; cases h
 ·rw [hb] at h; cases h

end Go.Proofs.YtgakcdcfblgagaaGreatDoor.Num
namespace Go.Proofs.YtgakcdcfblgagaaGreatDoor.Came
open Go.ChangeShapes Go.WideShapes Go.RowKit


theorem texts_at {H:Type} {enc:TypeId × Value→H} {W:World} {fuel:Nat} {cs:List Value} {y:DataW H × List MemPlace}
  (hf:DataW.trod enc Tryz.prog W 0 (fun _=>true) true fuel 35 cs=some y) :
  ∃ (a:Option Addr) (len cap:Nat) (xs:List (List UInt8)),cs=[.slice a len cap]∧Ident.SRow W a len xs∧len≤cap∧cap≤maxLen∧(a=none→cap=0)∧∀ x ∈ xs,x.length≤maxLen:=by
 rcases open_strings Tryz.underlying35 Tryz.underlying9 (by kernel_rfl) hf with ⟨hcs,_⟩ | ⟨x,len,cap,ss,hcs,_,hl,hm,hz,_,hcell,hsz⟩
 ·exact ⟨none,0,0,[],hcs,Ident.SRow.none_ _ _,Nat.le_refl _,by unfold maxLen; omega,fun _=>rfl,fun x hx=>by cases hx⟩
 ·have hz:ss.length=cap:=by simpa using hz
  refine ⟨some x,len,cap,(ss.take len).map fun s=>s.data.toList,hcs,⟨by simp; omega,fun h0=>?_⟩,hl,hm,(fun e=>by cases e),fun y hy=>?_⟩
  ·obtain ⟨b,o,spot⟩:=x
   have h0c:=hcell 0 (by omega)
   have hspot:spot=none:=by simpa [Addr.add] using World.cell?_spot h0c
   subst hspot
   refine ⟨b,o,rfl,?_,fun j hj=>?_⟩
   ·have:=World.block_lt_of_cell? W _ h0c
    rwa [Num.add_none] at this
   ·have hj2:j<ss.length:=by omega
    have e:=hcell j hj2
    rw [Num.add_none] at e
    rw [e]
    simp [hj,List.getElem?_eq_getElem hj2,Ident.mk]
  ·simp only [List.mem_map] at hy
   obtain ⟨s,hs,rfl⟩:=hy
   rw [← Lib.size_eq]
   exact hsz s (List.mem_of_mem_take hs)
end Go.Proofs.YtgakcdcfblgagaaGreatDoor.Came
namespace Go.Proofs.YtgakcdcfblgagaaGreatDoor.Model
open Go.RowKit Num Ident Fr
open Go.Maps (Keyed IsMap)

theorem strKeyed:Keyed Tryz.prog 9:=Go.Maps.string_keyed Tryz.underlying9
theorem strKey {s:ByteArray} (h:s.size≤maxLen):keyOf Tryz.prog 9 (.string s)=some (.string s.data.toList):=Go.WideMaps.keyOf_string_mk Tryz.underlying9 h
theorem zeroUnit (w:World):(zeroValue 241).run Tryz.prog w=.ok (.agg #[]) w:=by kernel_rfl
def SeenAt (W:World) (mb:Nat) (x:List (List UInt8)):Prop :=
 ∃ D:DataW Unit,W.ownsMap Tryz.prog 9 (unitElem (H:=Unit)) mb x.length D∧IsMap D∧∀ s,Maps.has D (.string s)=decide (s ∈ x)
theorem SeenAt.lt {W:World} {mb:Nat} {x:List (List UInt8)} (h:SeenAt W mb x):mb<W.heap.size:=by obtain ⟨D,h,_⟩:=h; exact h.lt
theorem SeenAt.made (w:World):SeenAt (w.alloc (.map #[] 0)) w.heap.size [] :=
 ⟨.map [],World.ownsMap_made (H:=Unit) w _ _ _,Go.Maps.isMap_empty,fun s=>by simp [Maps.has]⟩
theorem SeenAt.but {T:Nat→Prop} {W W':World} {mb:Nat} {x:List (List UInt8)} (h:SeenAt W mb x) (hb:But T W W') (hn:¬ T mb):SeenAt W' mb x:=by
 obtain ⟨D,h1,h2,h3⟩:=h
 exact ⟨D,map_but h1 hb hn,h2,h3⟩
theorem SeenAt.kept {B:Nat} {W W':World} {mb:Nat} {x:List (List UInt8)} (h:SeenAt W mb x) (hb:Below B W W') (hB:mb<B):SeenAt W' mb x :=
 h.but (T:=fun k=>B≤k) (But.of_below hb fun k _ hk=>by omega) (by omega)
theorem again_any (mb:Nat) (x:List (List UInt8)) (s:ByteArray) (w:World) (h:SeenAt w mb x) (hs:s.size≤maxLen) (hx:x.length≤100000) :
  Calls Tryz.prog 107 #[.map (some mb),.string s] w fun e w'=>e=.returned (.bool (decide (s.data.toList ∈ x)))∧SeenAt w' mb (x ++ [s.data.toList])∧But (fun k=>k=mb) w w':=by
 obtain ⟨D,hown,hmap,hhas⟩:=h
 have hkey:=strKey hs
 have HMP:=Lib.hid hmap
 have HH:=Lib.hid hhas
 have HM:=Lib.hid hown
 have HS:=Lib.hid hs
 have hok:Maps.has D (.string s.data.toList)=decide (s.data.toList ∈ x):=hhas _
 obtain ⟨b,hb⟩:∃ b,decide (s.data.toList ∈ x)=b:=⟨_,rfl⟩
 rw [hb] at hok ⊢
 have HAd:Hid (IsMap (D.put (.string s.data.toList) (.agg []))∧∀ t,Maps.has (D.put (.string s.data.toList) (.agg [])) (.string t)=decide (t ∈ x ++ [s.data.toList])):=⟨hmap.put _ _,fun t=>by
  by_cases e:t=s.data.toList
  ·rw [e,Go.Maps.has_put_same hmap (show WideAt.IsKeyLit (.string s.data.toList) from by simp [WideAt.IsKeyLit])]; simp
  ·rw [Go.Maps.has_put_other (fun e2=>e (by injection e2)),hhas]; simp [e]⟩
 clear hmap hhas hown hs hb
 have HB0:Hid (But (fun k=>k=mb) w w):=But.refl _ _
 go_enter Tryz.func107,Tryz.ntmps107
 go_wp2_with (first
  | (at_lookup; refine wpList_lookup_own_unit _ rfl _ _ 178 rfl 9 241 strKeyed Tryz.underlying178 (zeroUnit _) mb x.length D rfl HM.out _ _ rfl hkey ?_; rw [hok])
  | (at_mapUpdate; refine wpList_mapUpdate_own _ rfl _ _ _ 178 rfl 9 241 strKeyed Tryz.underlying178 (unitElem (H:=Unit)) mb x.length D rfl (map_but HM.out ((But.refl (fun _=>False) _).alloc _) (fun g=>g)) (by unfold maxLen; omega) _ _ _ rfl rfl hkey (.agg []) [] unitElem_mk ?_)
  | go_in)
 intro w3 hown3 hgrow3
 have HM3:Hid (SeenAt w3 mb (x ++ [s.data.toList])):=⟨_,by rw [List.length_append,List.length_singleton]; exact hown3,HAd.out.1,HAd.out.2⟩
 have HB3:Hid (But (fun k=>k=mb) w w3):=(HB0.out.alloc (.cells #[] 241)).trans (But.of_grown (T:=fun k=>k=mb) hgrow3 fun b e=>by cases e; rfl) fun i g=>.inl g
 clear hown3 hgrow3 hok hkey
 go_wp2
 go_ret
 exact ⟨rfl,HM3.out,HB3.out⟩
end Go.Proofs.YtgakcdcfblgagaaGreatDoor.Model
