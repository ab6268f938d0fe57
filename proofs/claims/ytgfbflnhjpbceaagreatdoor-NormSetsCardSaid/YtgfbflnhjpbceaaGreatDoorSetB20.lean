/-
  What the theorem of the last text needs of these: RgWeak, RgTextMem, RgExpr, NmMath, RgGood. Conditions: as each theorem states.
-/
import Derived.Test.YtgfbflnhjpbceaaGreatDoorSetB1
import Derived.Test.YtgfbflnhjpbceaaGreatDoorSetB7
import Derived.Test.YtgfbflnhjpbceaaGreatDoorSetB9
import Derived.Test.YtgfbflnhjpbceaaGreatDoorSetB14
import Derived.Test.YtgfbflnhjpbceaaGreatDoorSetB16
import Derived.Test.YtgfbflnhjpbceaaGreatDoorSetB18
import Derived.Test.YtgfbflnhjpbceaaGreatDoorSetB19
import Derived.Laws.OwnMore
import Derived.OneCell
set_option maxRecDepth 100000
set_option maxHeartbeats 25600000
namespace Go.Proofs.YtgfbflnhjpbceaaGreatDoor.Range
open Go.RowKit Num Ident Semver
inductive Weak (w:World) (S:Nat→Prop):Rng→RV→Prop
 | mk (x:RV) (l:List Rng) (f:Nat→RV) (hn:x.n=l.length) (pre:SRow w x.A x.v.pre.length x.v.pre) (build:SRow w x.B x.v.build.length x.v.build) (ip:InS S x.A x.v.pre.length) (ib:InS S x.B x.v.build.length)
   (fp:x.v.pre.length≤maxLen) (fb:x.v.build.length≤maxLen)
   (cells:0<x.n→∃ b o,x.L=some ⟨b,o,none⟩∧S b∧∀ j,j<x.n→CellsAt w b (o+j * 7) (f j)) (subs:∀ j,j<x.n→Weak w S (l.getD j noRng) (f j)):Weak w S (.mk x.kind x.v l) x
theorem Lies.weak {w:World} {S:Nat→Prop} {r:Rng} {x:RV} (h:Lies w S r x):Weak w S r x:=by
 induction h with
 | mk x l f hn he pre build ip ib cp cb fit nil cells _ ih=>exact Weak.mk x l f hn pre build ip ib fit.pre fit.build cells ih
theorem Weak.keep {w w':World} {S:Nat→Prop} {r:Rng} {x:RV} (h:Weak w S r x) (k:KeepS S w w'):Weak w' S r x:=by
 induction h with
 | mk x l f hn pre build ip ib fp fb cells _ ih =>
  refine Weak.mk x l f hn (srow_keepS pre k ip) (srow_keepS build k ib) ip ib fp fb (fun h0=>?_) ih
  obtain ⟨b,o,e,hb,hc⟩:=cells h0
  exact ⟨b,o,e,hb,fun j hj=>(hc j hj).keep k hb⟩
theorem Weak.mono {w:World} {S S':Nat→Prop} {r:Rng} {x:RV} (h:Weak w S r x) (hS:∀ b,S b→b<w.heap.size→S' b):Weak w S' r x:=by
 induction h with
 | mk x l f hn pre build ip ib fp fb cells _ ih =>
  refine Weak.mk x l f hn pre build (ip.mono pre hS) (ib.mono build hS) fp fb (fun h0=>?_) ih
  obtain ⟨b,o,e,hb,hc⟩:=cells h0
  exact ⟨b,o,e,hS b hb (hc 0 h0).lt,hc⟩
def WRow (w:World) (S:Nat→Prop) (L:Option Addr) (n:Nat) (l:List Rng):Prop :=
 ∃ f:Nat→RV,l.length=n∧(0<n→∃ b o,L=some ⟨b,o,none⟩∧S b∧∀ j,j<n→CellsAt w b (o+j * 7) (f j))∧∀ j,j<n→Weak w S (l.getD j noRng) (f j)
theorem WRow.keep {w w':World} {S:Nat→Prop} {L:Option Addr} {n:Nat} {l:List Rng} (h:WRow w S L n l) (k:KeepS S w w'):WRow w' S L n l:=by
 obtain ⟨f,h1,h2,h3⟩:=h
 refine ⟨f,h1,fun h0=>?_,fun j hj=>(h3 j hj).keep k⟩
 obtain ⟨b,o,e,hb,hc⟩:=h2 h0
 exact ⟨b,o,e,hb,fun j hj=>(hc j hj).keep k hb⟩
theorem WRow.one {w:World} {S:Nat→Prop} {L:Option Addr} {n:Nat} {l:List Rng} (h:WRow w S L n l) {j:Nat} (hj:j<n):∃ b o x,L=some ⟨b,o,none⟩∧S b∧CellsAt w b (o+j * 7) x∧Weak w S (l.getD j noRng) x:=by
 obtain ⟨f,_,h2,h3⟩:=h
 obtain ⟨b,o,e,hb,hc⟩:=h2 (by omega)
 exact ⟨b,o,f j,e,hb,hc j hj,h3 j hj⟩
structure WSays (w:World) (S:Nat→Prop) (r:Rng) (x:RV):Prop where
 kind:r.kind=x.kind
 ver:r.ver=x.v
 pre:SRow w x.A x.v.pre.length x.v.pre
 build:SRow w x.B x.v.build.length x.v.build
 fp:x.v.pre.length≤maxLen
 fb:x.v.build.length≤maxLen
 subs:WRow w S x.L x.n r.subs
theorem Weak.says {w:World} {S:Nat→Prop} {r:Rng} {x:RV} (h:Weak w S r x):WSays w S r x:=by
 cases h with
 | mk x l f hn pre build ip ib fp fb cells subs=>exact ⟨rfl,rfl,pre,build,fp,fb,⟨f,hn.symm,cells,subs⟩⟩
theorem Weak.version {w:World} {S:Nat→Prop} (kind:Int) (v:Ver) (A:Option Addr) (c:Nat) (B:Option Addr) (d:Nat) (pre:SRow w A v.pre.length v.pre) (build:SRow w B v.build.length v.build) (ip:InS S A v.pre.length) (ib:InS S B v.build.length) (fp:v.pre.length≤maxLen) (fb:v.build.length≤maxLen) :
  Weak w S (.mk kind v []) ⟨kind,v,A,c,B,d,none,0,0⟩ :=
 Weak.mk ⟨kind,v,A,c,B,d,none,0,0⟩ [] (fun _=>default) rfl pre build ip ib fp fb (fun h=>absurd h (Nat.lt_irrefl _)) (fun _ hj=>absurd hj (Nat.not_lt_zero _))
theorem Weak.zero (w:World) (S:Nat→Prop) (kind:Int):Weak w S (.mk kind noVer []) (zeroRV kind) :=
 Weak.version kind noVer none 0 none 0 (SRow.none_ _ _) (SRow.none_ _ _) (InS.none_ _ _) (InS.none_ _ _) (Nat.zero_le _) (Nat.zero_le _)
theorem Weak.many {w:World} {S:Nat→Prop} (kind:Int) {L:Option Addr} {n e:Nat} {l:List Rng} (h:WRow w S L n l):Weak w S (.mk kind noVer l) ⟨kind,noVer,none,0,none,0,L,n,e⟩:=by
 obtain ⟨f,h1,h2,h3⟩:=h
 exact Weak.mk ⟨kind,noVer,none,0,none,0,L,n,e⟩ l f h1.symm (SRow.none_ _ _) (SRow.none_ _ _) (InS.none_ _ _) (InS.none_ _ _) (Nat.zero_le _) (Nat.zero_le _) h2 h3
theorem WRow.of_own {w:World} {S:Nat→Prop} {base:Nat} {v:Value} {n:Nat} {xs:List RV} {l:List Rng} (h:w.ownsRow base 28 7 v n (xs.flatMap RV.vals)) (hB:∀ g,base≤g→S g) (hx:xs.length=n) (hl:l.length=n) (hs:∀ j,j<n→Weak w S (l.getD j noRng) (xs.getD j default)) :
  ∃ L e,v=.slice L n e∧WRow w S L n l:=by
 obtain ⟨L,e,h1,h2,h3,h4⟩:=own_cells rv_len h hx
 refine ⟨L,e,h1,fun j=>xs.getD j default,hl,fun h0=>?_,hs⟩
 obtain ⟨g,e1,hg,_,_,hc⟩:=h4 h0
 exact ⟨g,0,e1,hB g hg,fun j hj i u hu=>hc j hj i u hu⟩
end Go.Proofs.YtgfbflnhjpbceaaGreatDoor.Range
namespace Go.Proofs.YtgfbflnhjpbceaaGreatDoor.Range
open Go.RowKit Num Ident Semver

structure Lv where
 b:Nat
 o:Nat
 r:Rng
 x:RV
 d:Nat
 told:Nat
 e:List UInt8
instance:Inhabited Lv:=⟨⟨0,0,noRng,default,0,0,[]⟩⟩
def Lv.vals (y:Lv):List Value:=[.pointer (some ⟨y.b,y.o,none⟩),.int .i64 y.told,.string (Ident.mk y.e)]
theorem lv_len (y:Lv):y.vals.length=3:=rfl
theorem lv_one (y:Lv):∀ u ∈ y.vals,u.oneCell'=true:=by
 intro u hu; simp only [Lv.vals,List.mem_cons,List.mem_nil_iff,or_false] at hu
 rcases hu with rfl | rfl | rfl <;> rfl
structure LvOk (W:World) (B:Nat) (y:Lv):Prop where
 cells:CellsAt W y.b y.o y.x
 lt:y.b<B
 lies:Lies W (LtB B) y.r y.x
 good:goodR y.r y.d=true
 told:y.told≤y.r.subs.length
 few:wt y.r≤4000000
theorem LvOk.kept {W W':World} {B:Nat} {y:Lv} (h:LvOk W B y) (k:KeepS (LtB B) W W'):LvOk W' B y:=⟨h.cells.keep k h.lt,h.lt,h.lies.keep k,h.good,h.told,h.few⟩
def lvRest (y:Lv):List UInt8:=textL y.r.kind y.r.subs.length (y.r.subs.drop y.told) y.told ++ y.e
def restT:List Lv→List UInt8
 | []=>[]
 | y :: T=>restT T ++ lvRest y
theorem restT_more:∀ (T:List Lv) (y:Lv),restT (T ++ [y])=lvRest y ++ restT T
 | [],y=>by simp [restT]
 | z :: T,y=>by rw [List.cons_append,restT,restT_more T y,restT,List.append_assoc]
def lvW (y:Lv):Nat:=2 * wtL (y.r.subs.drop y.told)+1
def lsum:List Lv→Nat
 | []=>0
 | y :: T=>lvW y+lsum T
theorem lsum_more:∀ (T:List Lv) (y:Lv),lsum (T ++ [y])=lsum T+lvW y
 | [],y=>by simp [lsum]
 | z :: T,y=>by rw [List.cons_append,lsum,lsum_more T y,lsum]; omega
theorem lsum_len:∀ T:List Lv,T.length≤lsum T
 | []=>Nat.le_refl _
 | y :: T=>by rw [List.length_cons,lsum]; have:=lsum_len T; unfold lvW; omega
theorem most_good {r:Rng} {d:Nat} (h:goodR r d=true):most r.kind r.subs.length=r.subs.length:=by
 obtain ⟨kind,v,l⟩:=r
 obtain ⟨_,_,h⟩:=good_cases h
 simp only [Rng.kind,Rng.subs]
 unfold most
 rcases h with ⟨h1,h2,_,rfl⟩ | ⟨_,⟨rfl,rfl⟩ | ⟨h1,_⟩ | ⟨rfl,y,rfl⟩⟩
 ·simp
 ·simp
 ·rw [if_pos h1]
 ·simp
theorem text_good {r:Rng} {d:Nat} (h:goodR r d=true):textR r=markR r.kind r.ver ++ textL r.kind r.subs.length r.subs 0:=by
 have:=most_good h
 obtain ⟨kind,v,l⟩:=r
 rw [textR_eq]
 simp only [Rng.kind,Rng.ver,Rng.subs] at this ⊢
 rw [this]
theorem lvRest_next (y:Lv) (h:y.told<y.r.subs.length) (b o d:Nat) (x:RV) (hg:goodR (y.r.subs.getD y.told noRng) d=true) :
  lvRest y=aheadR y.r.kind (y.r.subs.getD y.told noRng).kind y.told ++ (openR y.r.kind (y.r.subs.getD y.told noRng).kind ++ (markR (y.r.subs.getD y.told noRng).kind (y.r.subs.getD y.told noRng).ver ++ (lvRest ⟨b,o,y.r.subs.getD y.told noRng,x,d,0,shutR y.r.kind (y.r.subs.getD y.told noRng).kind⟩ ++ lvRest { y with told:=y.told+1 }))):=by
 have e:y.r.subs.drop y.told=y.r.subs.getD y.told noRng :: y.r.subs.drop (y.told+1):=by
  rw [List.drop_eq_getElem_cons h]
  simp [List.getD,List.getElem?_eq_getElem h]
 unfold lvRest
 rw [e,textL_cons,if_pos h,text_good hg,List.drop_zero]
 simp only [List.append_assoc]
theorem lvW_next (y:Lv) (h:y.told<y.r.subs.length) (b o d:Nat) (x:RV) (e:List UInt8) :
  lvW ⟨b,o,y.r.subs.getD y.told noRng,x,d,0,e⟩+lvW { y with told:=y.told+1 }<lvW y:=by
 have hw:=wtL_drop y.r.subs y.told h
 unfold lvW
 simp only [List.drop_zero]
 omega
theorem bld_block {W:World} {B b:Nat} {l:List UInt8} (h:Bld W B b l):∃ c,W.heap[b]?=some (.cells c 71 (0,0)):=by
 rcases h with ⟨_,v,h,_⟩ | ⟨_,v,h,_⟩ <;> exact ⟨_,h⟩
theorem own_kind {w:World} {B:Nat} {e:TypeId} {size:Nat} {v:Value} {n:Nat} {xs:List Value} (h:w.ownsRow B e size v n xs):∀ g,v.ownBlock=some g→∃ c,w.heap[g]?=some (.cells c e (0,0)):=by
 intro g hg
 rcases h.2 with ⟨rfl,_⟩ | ⟨g',cap,cur,rfl,_,hgg,_⟩
 ·simp [Value.ownBlock] at hg
 ·simp [Value.ownBlock] at hg
  subst hg
  exact ⟨cur,hgg⟩
theorem own_wrote {W W':World} {B C b k n:Nat} {v:Value} {xs:List Value} {l l':List UInt8} (h:W.ownsRow C 78 k v n xs) (hb:Bld W B b l) (hw:Wrote W B b l' W'):W'.ownsRow C 78 k v n xs:=by
 obtain ⟨_,_,hk⟩:=hw
 obtain ⟨c0,hc0⟩:=bld_block hb
 refine ⟨h.1,?_⟩
 rcases h.2 with h2 | ⟨g,cap,cur,hv,hg,hh,r⟩
 ·exact .inl h2
 ·refine .inr ⟨g,cap,cur,hv,hg,hk g _ hh (fun e=>?_) (fun c fz e=>?_),r⟩
  ·injection e with e
   subst e
   rw [hh] at hc0
   injection hc0 with hc0
   injection hc0 with _ e _
   exact absurd e (by decide)
  ·injection e with _ e
   exact absurd e (by decide)
theorem atF_grown {W W':World} {B C b k n:Nat} {p v:Value} {xs bs:List Value} (h:Lib.BuilderAtF 71 5 B b p bs W) (ho:W.ownsRow C 78 k v n xs) (hg:W.grownBy W' v.ownBlock):Lib.BuilderAtF 71 5 B b p bs W':=by
 obtain ⟨h1,u,h2,h3,h4⟩:=h
 have lt:∀ k o,W.heap[k]?=some o→k<W.heap.size:=fun k o hk=>(Array.getElem?_eq_some_iff.1 hk).1
 refine ⟨h1,u,(hg.block b (lt b _ h2) fun e=>?_).trans h2,⟨h3.1,?_⟩,h4⟩
 ·obtain ⟨c,hc⟩:=own_kind ho b e.symm
  rw [h2] at hc
  injection hc with hc
  injection hc with _ e _
  exact absurd e (by decide)
 ·rcases h3.2 with h5 | ⟨g,cap,cur,fz,e1,e2,e3,e4⟩
  ·exact .inl h5
  ·refine .inr ⟨g,cap,cur,fz,e1,e2,(hg.block g (lt g _ e3) fun e=>?_).trans e3,e4⟩
   obtain ⟨c,hc⟩:=own_kind ho g e.symm
   rw [e3] at hc
   injection hc with hc
   injection hc with _ e _
   exact absurd e (by decide)
theorem bld_grown {W W':World} {B C b k n:Nat} {v:Value} {xs:List Value} {l:List UInt8} (h:Bld W B b l) (ho:W.ownsRow C 78 k v n xs) (hg:W.grownBy W' v.ownBlock):Bld W' B b l :=
 h.elim (fun x=>.inl (atF_grown x ho hg)) (fun x=>.inr (atF_grown x ho hg))
structure TxW (base:Nat) (W:World) (v:Value) (T:List Lv) (bs:List UInt8):Prop where
 own:W.ownsRow (base+2) 78 3 v T.length (T.flatMap Lv.vals)
 bld:Bld W (base+1) (base+1) bs
 ok:∀ y ∈ T,LvOk W (base+1) y
 sz:base+2≤W.heap.size
theorem TxW.below {base:Nat} {W W':World} {v:Value} {T:List Lv} {bs:List UInt8} (h:TxW base W v T bs) (hb:Below W.heap.size W W'):TxW base W' v T bs :=
 ⟨own_below h.own hb,h.bld.kept hb,fun y hy=>(h.ok y hy).kept (KeepS.of_below hb),Nat.le_trans h.sz hb.size⟩
theorem TxW.wrote {base:Nat} {W W':World} {v:Value} {T:List Lv} {bs bs':List UInt8} (h:TxW base W v T bs) (hw:Wrote W (base+1) (base+1) bs' W'):TxW base W' v T bs' :=
 ⟨own_wrote h.own h.bld hw,hw.1,fun y hy=>(h.ok y hy).kept (KeepS.lt hw.2.1),Nat.le_trans h.sz hw.2.1.size⟩
theorem lv_more (R:List Lv) (y:Lv):(R ++ [y]).flatMap Lv.vals=R.flatMap Lv.vals ++ y.vals:=by rw [List.flatMap_append]; simp
theorem lv_length (R:List Lv) (y:Lv):(R ++ [y]).length=R.length+1:=by rw [List.length_append]; rfl
theorem TxW.last {base:Nat} {W:World} {v:Value} {R:List Lv} {y:Lv} {bs:List UInt8} (h:TxW base W v (R ++ [y]) bs):∃ g cp,v=.slice (some ⟨g,0,none⟩) (R.length+1) cp∧base+2≤g∧g<W.heap.size∧R.length+1≤cp ∧
  W.cell? ⟨g,R.length * 3,none⟩=some (.pointer (some ⟨y.b,y.o,none⟩))∧W.cell? ⟨g,R.length * 3+1,none⟩=some (.int .i64 y.told)∧W.cell? ⟨g,R.length * 3+2,none⟩=some (.string (Ident.mk y.e))∧∀ o,W.frozen? ⟨g,o,none⟩=false:=by
 have ho:=h.own
 have hlen:=lv_length R y
 rw [lv_length] at ho
 rcases ho.2 with ⟨_,h0⟩ | ⟨g,cp,cur,rfl,hg,hh,hn,_⟩
 ·exact absurd h0 (Nat.succ_ne_zero _)
 ·have hgt:∀ i,i<3→W.cell? ⟨g,R.length * 3+i,none⟩=y.vals[i]?:=fun i hi=>by
   rw [ho.cellAt (R.length * 3+i) (by omega),flat_get Lv.vals 3 lv_len _ _ _ (by omega) hi]
   simp [List.getD]
  exact ⟨g,cp,rfl,hg,(Array.getElem?_eq_some_iff.1 hh).1,hn,hgt 0 (by omega),hgt 1 (by omega),hgt 2 (by omega),fun o=>ho.frozenAt o⟩
theorem TxW.pop {base:Nat} {W:World} {g cp:Nat} {R:List Lv} {y:Lv} {bs:List UInt8} (h:TxW base W (.slice (some ⟨g,0,none⟩) (R.length+1) cp) (R ++ [y]) bs):TxW base W (.slice (some ⟨g,0,none⟩) R.length cp) R bs:=by
 refine ⟨?_,h.bld,fun z hz=>h.ok z (by simp [hz]),h.sz⟩
 have ho:=h.own
 rw [lv_length,lv_more] at ho
 exact ownsRow_pop (by rw [flat_len Lv.vals 3 lv_len]) ho
theorem TxW.next {base:Nat} {W:World} {g cp:Nat} {R:List Lv} {y:Lv} {bs:List UInt8} (h:TxW base W (.slice (some ⟨g,0,none⟩) (R.length+1) cp) (R ++ [y]) bs) (ht:y.told<y.r.subs.length) (hg:base+2≤g) :
  TxW base (W.setCell ⟨g,R.length * 3+1,none⟩ (.int .i64 ((y.told+1:Nat):Int))) (.slice (some ⟨g,0,none⟩) (R.length+1) cp) (R ++ [{ y with told:=y.told+1 }]) bs:=by
 have ho:=h.own
 rw [lv_length,lv_more] at ho
 obtain ⟨h1,h2⟩:=ho.stored (R.length * 3+1) (.int .i64 ((y.told+1:Nat):Int))
 have hK:KeepS (LtB (base+1)) W (W.setCell ⟨g,R.length * 3+1,none⟩ (.int .i64 ((y.told+1:Nat):Int))):=KeepS.set (by unfold LtB; omega) _
 refine ⟨?_,bld_grown h.bld ho h2,fun z hz=>?_,by simpa using h.sz⟩
 ·rw [lv_length,lv_more]
  rw [List.set_append_right _ _ (by rw [flat_len Lv.vals 3 lv_len]; omega),flat_len Lv.vals 3 lv_len,show R.length * 3+1 - R.length * 3=1 by omega] at h1
  exact h1
 ·rcases List.mem_append.1 hz with hz | hz
  ·exact (h.ok z (by simp [hz])).kept hK
  ·rw [List.mem_singleton] at hz
   subst hz
   have:=(h.ok y (by simp)).kept hK
   exact ⟨this.cells,this.lt,this.lies,this.good,ht,this.few⟩
theorem TxW.lastAt {base:Nat} {W:World} {g cp:Nat} {R:List Lv} {y:Lv} {bs:List UInt8} (h:TxW base W (.slice (some ⟨g,0,none⟩) (R.length+1) cp) (R ++ [y]) bs):base+2≤g∧g<W.heap.size ∧
  W.cell? ⟨g,R.length * 3,none⟩=some (.pointer (some ⟨y.b,y.o,none⟩))∧W.cell? ⟨g,R.length * 3+1,none⟩=some (.int .i64 y.told)∧W.cell? ⟨g,R.length * 3+2,none⟩=some (.string (Ident.mk y.e))∧∀ o,W.frozen? ⟨g,o,none⟩=false:=by
 obtain ⟨g',cp',e,h1,h2,_,h3⟩:=h.last
 injection e with e
 injection e with e
 injection e with e
 subst e
 exact ⟨h1,h2,h3⟩
def Inn (base:Nat) (W:World) (nb b o:Nat) (e:List UInt8):Prop:=W.ownsRow (base+2) 78 3 (.slice (some ⟨nb,0,none⟩) 1 1) 1 [.pointer (some ⟨b,o,none⟩),.int .i64 0,.string (Ident.mk e)]
theorem Inn.new {base:Nat} {W:World} (b o:Nat) (h:base+2≤W.heap.size):Inn base (W.alloc (.cells #[.pointer (some ⟨b,o,none⟩),.int .i64 0,.string ⟨#[]⟩] 78)) W.heap.size b o [] :=
 World.ownsRow_lit (base:=base+2) (e:=78) (size:=3) W #[.pointer (some ⟨b,o,none⟩),.int .i64 0,.string ⟨#[]⟩] 1 h (by decide) rfl
theorem Inn.below {base:Nat} {W W':World} {nb b o:Nat} {e:List UInt8} (h:Inn base W nb b o e) (hb:Below W.heap.size W W'):Inn base W' nb b o e:=own_below h hb
theorem Inn.wrote {base:Nat} {W W':World} {nb b o:Nat} {e:List UInt8} (h:Inn base W nb b o e) {v:Value} {T:List Lv} {bs bs':List UInt8} (hT:TxW base W v T bs) (hw:Wrote W (base+1) (base+1) bs' W'):Inn base W' nb b o e:=own_wrote h hT.bld hw
theorem Inn.cells {base:Nat} {W:World} {nb b o:Nat} {e:List UInt8} (h:Inn base W nb b o e):W.cell? ⟨nb,0,none⟩=some (.pointer (some ⟨b,o,none⟩))∧W.cell? ⟨nb,1,none⟩=some (.int .i64 0)∧W.cell? ⟨nb,2,none⟩=some (.string (Ident.mk e))∧(∀ i,W.frozen? ⟨nb,i,none⟩=false)∧base+2≤nb:=by
 have h1:=h
 unfold Inn at h1
 exact ⟨h1.cellAt 0 (by omega),h1.cellAt 1 (by omega),h1.cellAt 2 (by omega),fun i=>h1.frozenAt i,(h1.lt nb rfl).1⟩
theorem Inn.shut {base:Nat} {W:World} {nb b o:Nat} {e:List UInt8} (h:Inn base W nb b o e) (e':List UInt8) {v:Value} {T:List Lv} {bs:List UInt8} (hT:TxW base W v T bs) (hne:v.ownBlock≠some nb) :
  Inn base (W.setCell ⟨nb,2,none⟩ (.string (Ident.mk e'))) nb b o e'∧TxW base (W.setCell ⟨nb,2,none⟩ (.string (Ident.mk e'))) v T bs∧Below (base+2) W (W.setCell ⟨nb,2,none⟩ (.string (Ident.mk e'))):=by
 have hb:=h.cells.2.2.2.2
 have h1:=h
 unfold Inn at h1
 obtain ⟨h2,h3⟩:=h1.stored 2 (.string (Ident.mk e'))
 have hK:KeepS (LtB (base+1)) W (W.setCell ⟨nb,2,none⟩ (.string (Ident.mk e'))):=KeepS.set (by unfold LtB; omega) _
 exact ⟨h2,⟨ownsRow_setCell_other hT.own hne _,bld_grown hT.bld h1 h3,fun y hy=>(hT.ok y hy).kept hK,by simpa using hT.sz⟩,(Below.refl _ _).setCell hb _⟩
theorem lvInfo:(Tryz.prog.info? 78).map (fun i=>(i.zero,i.size,i.bytes))=some (some (.agg #[.pointer none,.int .i64 0,.string ⟨#[]⟩]),3,32):=by kernel_rfl
theorem wpList_append_lv (w:World) {ops:Array Oper} {rest:List Oper} {o:Oper} {a:Act} {Q:Exit→Act→World→Prop} (hgd:o.guard=none) (s x:Operand)
  (ho:o.op=.call { callee:=.builtin .append,args:=#[s,x],argTypes:=#[79,79] })
  (base:Nat) (v:Value) (T:List Lv) (bs:List UInt8) (hs:a.eval s=v) (hT:TxW base w v T bs)
  (ad:Addr) (y:Lv) (hx:a.eval x=.slice (some ad) 1 1) (hnews:∀ j u,y.vals[j]?=some u→w.cell? (ad.add j)=some u) (hok:LvOk w (base+1) y) (hb:T.length≤5000000)
  (h:∀ v' w',TxW base w' v' (T ++ [y]) bs→Below (base+2) w w'→wpList Tryz.prog ops Q rest (a.put o.dst v') w'):wpList Tryz.prog ops Q (o :: rest) a w:=by
 obtain ⟨i,hi,hz,hsz,hby⟩:=info_parts lvInfo
 refine wpList_append_own_at w hgd s x 79 ho (base+2) 78 i _ 3 32 Tryz.underlying79 hi hz hsz hby rfl (by omega) v T.length _ hs hT.own ad 1 1 y.vals hx rfl hnews (lv_one y) (by unfold maxLen; omega) (by omega) hT.sz (fun v' w' h2 h3 _ h5=>?_)
 have hB:Below (base+2) w w':=⟨h3.os,h3.tape,h3.output,h3.size,fun k hk=>h3.block k (by have:=hT.sz; omega) (fun e2=>by have:=(hT.own.lt k e2.symm).1; omega)⟩
 have hK:KeepS (LtB (base+1)) w w':=KeepS.lt (hB.mono (by omega))
 refine h v' w' ⟨by rw [lv_length,lv_more]; exact h2,bld_grown hT.bld hT.own h3,fun z hz=>?_,Nat.le_trans hT.sz h3.size⟩ hB
 rcases List.mem_append.1 hz with hz | hz
 ·exact (hT.ok z hz).kept hK
 ·rw [List.mem_singleton] at hz
  subst hz
  exact hok.kept hK
end Go.Proofs.YtgfbflnhjpbceaaGreatDoor.Range
namespace Go.Proofs.YtgfbflnhjpbceaaGreatDoor.Range
open Go.RowKit Num Ident Semver

def PartOK (f:FuncId) (b:Nat) (A:Option Addr) (n c:Nat) (l:List UInt8) (deep:Int) (pf:List UInt8→Out):Prop :=
 ∀ (W:World) (q:Nat) (t:List UInt8),Rd W b A n c q→Row W A n l→OpsTab W→Pl l q t→Calls Tryz.prog f #[.pointer (some ⟨b,0,none⟩),.int .i64 deep] W (RgPost b A n c l W (pf t))
theorem every_ok (b:Nat) (A:Option Addr) (n c:Nat) (l:List UInt8) (deep:Int) (pf:List UInt8→Out) (hn:n≤30000000) (hc:n≤c) (hpr:Prog pf) (hpc:Pieces pf) (ho:PartOK 142 b A n c l deep pf):PartOK 114 b A n c l deep (fun s=>sev pf furO 9 (s.length+1) [] s):=by
 intro w p s hR hr ht hs
 have HS:Hid (∀ W,Rd W b A n c p→Row W A n l→OpsTab W→Calls Tryz.prog 113 #[.int .i64 9,.int .i64 deep,.func (.func 142) #[.pointer (some ⟨b,0,none⟩)] #[],.func (.func 143) #[.pointer (some ⟨b,0,none⟩)] #[]] W (RgPost b A n c l W (sev pf furO 9 (s.length+1) [] s))):=fun W h1 h2 h3 =>
  severalO b A n c p l s 9 deep pf furO W h1 h2 hn hs h3 hpr furO_piece.falls hpc ho (fun W q t h1 h2 h3=>furO_any b A n c q l t W h1 h2 hc h3)
 clear ho
 obtain ⟨t,htt⟩:∃ t,sev pf furO 9 (s.length+1) [] s=t:=⟨_,rfl⟩
 rw [htt] at HS
 show Calls _ _ _ _ (RgPost b A n c l w (sev pf furO 9 (s.length+1) [] s))
 rw [htt]
 clear htt
 have hbw:=hR.lt
 have HP:=Lib.hid hs
 have HL:=Lib.hid hr.1
 have HR:=Lib.hid hR
 have HRow:=Lib.hid hr
 have HT:=Lib.hid ht
 have H7:Hid (RAt (w.alloc ()) w.heap.size (zeroRV 0)):=RAt.new w 28 (zeroRV 0)
 have HM:Hid (Moved b w (w.alloc ())):=(Moved.refl b w).alloc hbw _
 have HR0:Hid (Rd (w.alloc ()) b A n c p):=hR.alloc _
 have HRow0:Hid (Row (w.alloc ()) A n l):=hr.kept ((Below.refl _ _).alloc (Nat.le_refl _) _)
 have HT0:Hid (OpsTab (w.alloc ())):=ht.keep (Keep.of_below ((Below.refl _ _).alloc (Nat.le_refl _) _))
 have hne:w.heap.size≠b:=by omega
 have hmf:∀ (fn:Fn) (first cap:Array Value) (w:World),(Instr.makeFunc fn first cap).run Tryz.prog w=.ok (.func fn first cap) w:=fun _ _ _ _=>rfl
 clear hR hr hs ht
 go_enter Tryz.func114,Tryz.ntmps114
 go_wp2_with fail
 refine (HS.out _ HR0.out HRow0.out HT0.out).mono ?_
 rintro e W1 ⟨x,q1,rfl,hx,hP1,hR1,hM1⟩
 unfold RV.agg
 have HX:=Lib.hid hx
 rw [size_alloc] at HX
 have HP1:=Lib.hid hP1
 have HR1:=Lib.hid hR1
 have HM1:=Lib.hid (HM.out.trans hM1)
 have H71:=Lib.hid (H7.out.moved hM1 hne)
 clear hx hP1 hR1 hM1
 obtain ⟨y1,y2,c0,c1,c2,c3,c4,c5,c6⟩:=H71.out
 go_wp2
 exact bodyPost_ret (v:=.tuple #[.agg #[x.kind,x.v.a,x.v.b,x.v.c,.slice x.A x.v.pre.length x.c,.slice x.B x.v.build.length x.d,.slice x.L x.n x.e],.int .i64 t.1]) (by simp [results,Tryz.results114,go_sem,c0,c1,c2,c3,c4,c5,c6]) rfl (rg_end (x:=x) (f:=t.1) (s:=t.2.1) (r:=t.2.2) hbw HX.out HP1.out HR1.out HM1.out)
theorem expr_ok (b:Nat) (A:Option Addr) (n c:Nat) (l:List UInt8) (deep:Int) (pf:List UInt8→Out) (hn:n≤30000000) (hc:n≤c) (hpr:Prog pf) (hpc:Pieces pf) (ho:PartOK 114 b A n c l deep pf):PartOK 88 b A n c l deep (fun s=>sev pf furE 10 (s.length+1) [] s):=by
 intro w p s hR hr ht hs
 have HS:Hid (∀ W,Rd W b A n c p→Row W A n l→OpsTab W→Calls Tryz.prog 113 #[.int .i64 10,.int .i64 deep,.func (.func 114) #[.pointer (some ⟨b,0,none⟩)] #[],.func (.func 115) #[.pointer (some ⟨b,0,none⟩)] #[]] W (RgPost b A n c l W (sev pf furE 10 (s.length+1) [] s))):=fun W h1 h2 h3 =>
  severalE b A n c p l s 10 deep pf furE W h1 h2 hn hs h3 hpr furE_piece.falls hpc ho (fun W q t h1 h2 h3=>furE_any b A n c q l t W h1 h2 hc h3)
 clear ho
 obtain ⟨t,htt⟩:∃ t,sev pf furE 10 (s.length+1) [] s=t:=⟨_,rfl⟩
 rw [htt] at HS
 show Calls _ _ _ _ (RgPost b A n c l w (sev pf furE 10 (s.length+1) [] s))
 rw [htt]
 clear htt
 have hbw:=hR.lt
 have HP:=Lib.hid hs
 have HL:=Lib.hid hr.1
 have HR:=Lib.hid hR
 have HRow:=Lib.hid hr
 have HT:=Lib.hid ht
 have H7:Hid (RAt (w.alloc ()) w.heap.size (zeroRV 0)):=RAt.new w 28 (zeroRV 0)
 have HM:Hid (Moved b w (w.alloc ())):=(Moved.refl b w).alloc hbw _
 have HR0:Hid (Rd (w.alloc ()) b A n c p):=hR.alloc _
 have HRow0:Hid (Row (w.alloc ()) A n l):=hr.kept ((Below.refl _ _).alloc (Nat.le_refl _) _)
 have HT0:Hid (OpsTab (w.alloc ())):=ht.keep (Keep.of_below ((Below.refl _ _).alloc (Nat.le_refl _) _))
 have hne:w.heap.size≠b:=by omega
 have hmf:∀ (fn:Fn) (first cap:Array Value) (w:World),(Instr.makeFunc fn first cap).run Tryz.prog w=.ok (.func fn first cap) w:=fun _ _ _ _=>rfl
 clear hR hr hs ht
 go_enter Tryz.func88,Tryz.ntmps88
 go_wp2_with fail
 refine (HS.out _ HR0.out HRow0.out HT0.out).mono ?_
 rintro e W1 ⟨x,q1,rfl,hx,hP1,hR1,hM1⟩
 unfold RV.agg
 have HX:=Lib.hid hx
 rw [size_alloc] at HX
 have HP1:=Lib.hid hP1
 have HR1:=Lib.hid hR1
 have HM1:=Lib.hid (HM.out.trans hM1)
 have H71:=Lib.hid (H7.out.moved hM1 hne)
 clear hx hP1 hR1 hM1
 obtain ⟨y1,y2,c0,c1,c2,c3,c4,c5,c6⟩:=H71.out
 go_wp2
 exact bodyPost_ret (v:=.tuple #[.agg #[x.kind,x.v.a,x.v.b,x.v.c,.slice x.A x.v.pre.length x.c,.slice x.B x.v.build.length x.d,.slice x.L x.n x.e],.int .i64 t.1]) (by simp [results,Tryz.results88,go_sem,c0,c1,c2,c3,c4,c5,c6]) rfl (rg_end (x:=x) (f:=t.1) (s:=t.2.1) (r:=t.2.2) hbw HX.out HP1.out HR1.out HM1.out)
end Go.Proofs.YtgfbflnhjpbceaaGreatDoor.Range
namespace Go.Proofs.YtgfbflnhjpbceaaGreatDoor.Nrm
open Go.RowKit Num Ident Semver Prec Span
open Range (Rng noRng goodR goodL fits)

theorem bytes_eq:∀ {a b:List UInt8},Lib.compareBytes a b=0→a=b
 | [],[],_=>rfl
 | [],y :: b,h=>by simp [Lib.compareBytes] at h
 | x :: a,[],h=>by simp [Lib.compareBytes] at h
 | x :: a,y :: b,h=>by
  unfold Lib.compareBytes at h
  simp only [UInt8.lt_iff_toNat_lt] at h
  by_cases h1:x.toNat<y.toNat
  ·rw [if_pos h1] at h; omega
  ·by_cases h2:y.toNat<x.toNat
   ·rw [if_neg h1,if_pos h2] at h; omega
   ·rw [if_neg h1,if_neg h2] at h
    have e:x=y:=UInt8.toNat_inj.1 (by omega)
    rw [e,bytes_eq h]
theorem two_digits {m p q r s:Nat} (hr:r<m) (hs:s<m) (h:p * m+r=q * m+s):p=q∧r=s:=by
 have e1:(p * m+r) / m=p:=by rw [Nat.mul_comm,Nat.mul_add_div (by omega),Nat.div_eq_of_lt hr]; rfl
 have e2:(q * m+s) / m=q:=by rw [Nat.mul_comm,Nat.mul_add_div (by omega),Nat.div_eq_of_lt hs]; rfl
 have e3:p=q:=by rw [← e1,h,e2]
 subst e3
 exact ⟨rfl,by omega⟩
theorem dig_eq:∀ {a b:List UInt8},AllDig a→AllDig b→a.length=b.length→val a=val b→a=b
 | [],[],_,_,_,_=>rfl
 | [],y :: b,_,_,h,_=>by simp at h
 | x :: a,[],_,_,h,_=>by simp at h
 | x :: a,y :: b,ha,hb,hl,hv=>by
  have ha':=allDig_cons.1 ha
  have hb':=allDig_cons.1 hb
  have hl':a.length=b.length:=by simpa using hl
  rw [val_cons,val_cons,hl'] at hv
  have h1:=val_lt ha'.2
  rw [hl'] at h1
  obtain ⟨e1,e2⟩:=two_digits h1 (val_lt hb'.2) hv
  have hx:=(isDig_iff x).1 ha'.1
  have hy:=(isDig_iff y).1 hb'.1
  have e:x=y:=UInt8.toNat_inj.1 (by omega)
  rw [e,dig_eq ha'.2 hb'.2 hl' e2]
theorem id_eq {a b:List UInt8} (h:cmpId a b=0):a=b:=by
 unfold cmpId at h
 by_cases ha:numeric a=true
 ·rw [if_pos ha] at h
  by_cases hb:numeric b=true
  ·rw [if_pos hb] at h
   by_cases hv:ordN (val a) (val b)=0
   ·rw [if_pos hv] at h
    have da:=all_of_run ((numeric_iff a).1 ha).2
    have db:=all_of_run ((numeric_iff b).1 hb).2
    exact dig_eq da db ((ordN_zero_iff _ _).1 h) ((ordN_zero_iff _ _).1 hv)
   ·rw [if_neg hv] at h; exact absurd h hv
  ·rw [if_neg hb] at h; omega
 ·rw [if_neg ha] at h
  by_cases hb:numeric b=true
  ·rw [if_pos hb] at h; omega
  ·rw [if_neg hb] at h; exact bytes_eq h
theorem rows_eq:∀ {r s:List (List UInt8)},cmpRows r s=0→r=s
 | [],s,h=>by
  rw [cmpRows_nil] at h
  have:=(ordN_zero_iff _ _).1 h
  exact (List.eq_nil_of_length_eq_zero this.symm).symm
 | a :: r,[],h=>by
  rw [cmpRows_nil'] at h
  have:=(ordN_zero_iff _ _).1 h
  simp at this
 | a :: r,b :: s,h=>by
  by_cases hi:cmpId a b=0
  ·rw [cmpRows_same hi] at h
   rw [id_eq hi,rows_eq h]
  ·rw [cmpRows_diff hi] at h; exact absurd h hi
theorem pre_eq {x y:List (List UInt8)} (h:cmpPre x y=0):x=y:=by
 unfold cmpPre lex at h
 by_cases h0:ordN (noneN x) (noneN y)=0
 ·rw [if_pos h0] at h; exact rows_eq h
 ·rw [if_neg h0] at h; exact absurd h h0
theorem core_eq {u v:Ver} (h:cmpCore u v=0):u.a=v.a∧u.b=v.b∧u.c=v.c:=by
 by_cases h1:u.a=v.a
 ·by_cases h2:u.b=v.b
  ·rw [cmpCore_3 h1 h2] at h; exact ⟨h1,h2,(ordN_zero_iff _ _).1 h⟩
  ·rw [cmpCore_2 h1 h2] at h; exact absurd ((ordN_zero_iff _ _).1 h) h2
 ·rw [cmpCore_1 h1] at h; exact absurd ((ordN_zero_iff _ _).1 h) h1
theorem ver_eq {u v:Ver} (h:cmpV u v=0):u.a=v.a∧u.b=v.b∧u.c=v.c∧u.pre=v.pre:=by
 unfold cmpV lex at h
 by_cases h0:cmpCore u v=0
 ·rw [if_pos h0] at h
  obtain ⟨a,b,c⟩:=core_eq h0
  exact ⟨a,b,c,pre_eq h⟩
 ·rw [if_neg h0] at h; exact absurd h h0
theorem ver_same {u v:Ver} (h:cmpV u v=0) (hu:u.build=[]) (hv:v.build=[]):u=v:=by
 obtain ⟨a,b,c,d⟩:=ver_eq h
 cases u; cases v
 simp only at *
 subst a; subst b; subst c; subst d; subst hu; subst hv; rfl
theorem cut_eq {a b:Cut} (ha:Span.right a=true) (hb:Span.right b=true) (h:stand a b=0):a=b:=by
 obtain ⟨hk,hv⟩:=stand_zero h
 have fa:=(right_few ha).2
 have fb:=(right_few hb).2
 have key:a.v=b.v:=by
  by_cases h1:a.kind=0∨a.kind=3
  ·rw [right_ends h1] at ha
   rw [right_ends (hk ▸ h1)] at hb
   rw [sameV_none ha,sameV_none hb]
  ·have h2:=right_kind ha
   have h3:ofVer a=true:=(ofVer_iff a).2 (by omega)
   have h4:ofVer b=true:=(ofVer_iff b).2 (by omega)
   exact ver_same (hv h3 h4) fa fb
 cases a; cases b
 simp only at *
 subst hk; subst key; rfl
theorem like_eq:∀ {l m:List Sp},Like l m→Rights l→Rights m→l=m:=by
 intro l m h
 induction h with
 | nil=>intro _ _; rfl
 | @cons s t l m h1 h2 _ ih =>
  intro hl hm
  obtain ⟨a1,a2⟩:=hl s (List.mem_cons_self ..)
  obtain ⟨b1,b2⟩:=hm t (List.mem_cons_self ..)
  have e1:=cut_eq a1 b1 h1
  have e2:=cut_eq a2 b2 h2
  rw [ih (fun x hx=>hl x (List.mem_cons_of_mem _ hx)) (fun x hx=>hm x (List.mem_cons_of_mem _ hx))]
  cases s; cases t
  simp only at *
  subst e1; subst e2; rfl
theorem uniq {l m:List Sp} (hl:Norm l) (hm:Norm m) (h:∀ c,inS l c↔inS m c):l=m:=like_eq (unique hl hm h) hl.rights hm.rights

def endCut (o:Option Ver):Cut:=match o with
 | none=>high
 | some e=>⟨1,e⟩
def loOf (k:Int) (v:Ver):Cut:=if k=1∨k=5∨k=7∨k=8 then aheadOf v else if k=2 then behindOf v else low
def hiOf (k:Int) (v:Ver):Cut:=if k=3∨k=5 then behindOf v else if k=4 then aheadOf v else if k=7 then endCut (caretV v) else if k=8 then endCut (tildeV v) else high
def inK (k:Int) (v:Ver) (c:Cut):Prop:=if k=6 then ¬ inOne ⟨aheadOf v,behindOf v⟩ c else inOne ⟨loOf k v,hiOf k v⟩ c
mutual
def inC:Rng→Cut→Prop
 | .mk k v l,c=>inOne ⟨low,high⟩ c∧(if k=9 then allC l c else if k=10 then anyC l c else if k=11 then ¬ headC l c else inK k v c)
def allC:List Rng→Cut→Prop
 | [],_=>True
 | r :: rs,c=>inC r c∧allC rs c
def anyC:List Rng→Cut→Prop
 | [],_=>False
 | r :: rs,c=>inC r c∨anyC rs c
def headC:List Rng→Cut→Prop
 | [],_=>False
 | r :: _,c=>inC r c
end
theorem inC_eq (k:Int) (v:Ver) (l:List Rng) (c:Cut):inC (.mk k v l) c=(inOne ⟨low,high⟩ c∧(if k=9 then allC l c else if k=10 then anyC l c else if k=11 then ¬ headC l c else inK k v c)):=by rw [inC]
theorem allC_iff {c:Cut}:∀ {l:List Rng},allC l c↔∀ x ∈ l,inC x c
 | []=>by rw [allC]; simp
 | r :: rs=>by rw [allC,allC_iff]; simp
theorem anyC_iff {c:Cut}:∀ {l:List Rng},anyC l c↔∃ x ∈ l,inC x c
 | []=>by rw [anyC]; simp
 | r :: rs=>by rw [anyC,anyC_iff]; simp
theorem headC_one (r:Rng) (c:Cut):headC [r] c↔inC r c:=by rw [headC]
theorem inC_all {r:Rng} {c:Cut} (h:inC r c):inOne ⟨low,high⟩ c:=by
 obtain ⟨k,v,l⟩:=r
 rw [inC_eq] at h; exact h.1
theorem inC_and (v:Ver) (l:List Rng) (c:Cut):inC (.mk 9 v l) c↔inOne ⟨low,high⟩ c∧∀ x ∈ l,inC x c:=by rw [inC_eq,if_pos rfl,allC_iff]
theorem inC_or (v:Ver) (l:List Rng) (c:Cut):inC (.mk 10 v l) c↔∃ x ∈ l,inC x c:=by
 rw [inC_eq,if_neg (by omega),if_pos rfl,anyC_iff]
 exact ⟨fun h=>h.2,fun ⟨x,hx,h⟩=>⟨inC_all h,x,hx,h⟩⟩
theorem inC_not (v:Ver) (r:Rng) (c:Cut):inC (.mk 11 v [r]) c↔inOne ⟨low,high⟩ c∧¬ inC r c:=by
 rw [inC_eq,if_neg (by omega),if_neg (by omega),if_pos rfl,headC_one]
theorem inC_ver {k:Int} (h1:0≤k) (h2:k≤8) (v:Ver) (l:List Rng) (c:Cut):inC (.mk k v l) c↔inOne ⟨low,high⟩ c∧inK k v c:=by
 rw [inC_eq,if_neg (by omega),if_neg (by omega),if_neg (by omega)]
theorem good_bare {v:Ver} (h:goodV v=true):goodV (bare v)=true:=by
 unfold goodV bare at *
 rw [Bool.and_eq_true,Bool.and_eq_true] at h ⊢
 exact ⟨h.1,h.2.1,rfl⟩
theorem ahead_right {v:Ver} (h:goodV v=true):Span.right (aheadOf v)=true:=by
 rw [right_ver (.inl rfl),Bool.and_eq_true,decide_eq_true_eq]
 exact ⟨good_bare h,rfl⟩
theorem end_good {v e:Ver} {i:Nat} (hv:goodV v=true) (h:endV v.a v.b v.c i=some e):goodV e=true∧e.build=[]:=by
 unfold goodV at hv
 rw [Bool.and_eq_true] at hv
 have hh:=of_decide_eq_true hv.1
 have key:∀ x y z,x≤maxField→y≤maxField→z≤maxField→goodV (firstV x y z)=true∧(firstV x y z).build=[]:=fun x y z h1 h2 h3=>by
  refine ⟨?_,rfl⟩
  unfold goodV
  rw [Bool.and_eq_true]
  exact ⟨decide_eq_true ⟨h1,h2,h3⟩,show (goodFrom true [[48]] 0 && goodFrom false [] 0)=true by decide⟩
 have hm:maxField=9223372036854775807:=rfl
 unfold endV at h
 split at h
 ·split at h
  ·cases h
  ·injection h with h; subst h; exact key _ _ _ (by omega) (Nat.zero_le _) (Nat.zero_le _)
 ·split at h
  ·split at h
   ·cases h
   ·injection h with h; subst h; exact key _ _ _ hh.1 (by omega) (Nat.zero_le _)
  ·split at h
   ·cases h
   ·injection h with h; subst h; exact key _ _ _ hh.1 hh.2.1 (by omega)
theorem endCut_right {v:Ver} {i:Nat} (hv:goodV v=true):Span.right (endCut (endV v.a v.b v.c i))=true∧stand (aheadOf v) (endCut (endV v.a v.b v.c i))<0:=by
 cases h:endV v.a v.b v.c i with
 | none =>
  refine ⟨high_right,?_⟩
  exact lt_le (ahead_behind v) (Int.le_of_lt (behind_high v))
 | some e =>
  obtain ⟨h1,h2⟩:=end_good hv h
  refine ⟨?_,?_⟩
  ·show Span.right ⟨1,e⟩=true
   rw [right_ver (.inl rfl),Bool.and_eq_true,decide_eq_true_eq]
   exact ⟨h1,by show e.build.length=0; rw [h2]; rfl⟩
  ·have h3:=end_ahead h
   show stand (aheadOf v) ⟨1,e⟩<0
   have h4:cmpV (bare v) e=-1:=h3
   unfold stand
   rw [if_pos ⟨rfl,rfl,by show cmpV (bare v) e≠0; rw [h4]; decide⟩]
   show cmpV (bare v) e<0
   rw [h4]; decide
theorem lohi {k:Int} {v:Ver} (hk:k=0∨goodV v=true):Span.right (loOf k v)=true∧Span.right (hiOf k v)=true∧stand (loOf k v) (hiOf k v)<0:=by
 rcases hk with rfl | hv
 ·exact ⟨low_right,high_right,low_high⟩
 ·have ha:=ahead_right hv
  have hb:=right_behind ha
  have e1:=ahead_behind v
  have e2:=behind_high v
  have e3:=low_ahead v
  unfold loOf hiOf
  by_cases h1:k=1
  ·subst h1; exact ⟨ha,high_right,lt_lt e1 e2⟩
  by_cases h2:k=2
  ·subst h2; exact ⟨hb,high_right,e2⟩
  by_cases h3:k=3
  ·subst h3; exact ⟨low_right,hb,lt_lt e3 e1⟩
  by_cases h4:k=4
  ·subst h4; exact ⟨low_right,ha,e3⟩
  by_cases h5:k=5
  ·subst h5; exact ⟨ha,hb,e1⟩
  by_cases h7:k=7
  ·subst h7; exact ⟨ha,(endCut_right hv).1,(endCut_right hv).2⟩
  by_cases h8:k=8
  ·subst h8; exact ⟨ha,(endCut_right hv).1,(endCut_right hv).2⟩
  rw [if_neg (by omega),if_neg (by omega),if_neg (by omega),if_neg (by omega),if_neg (by omega),if_neg (by omega)]
  exact ⟨low_right,high_right,low_high⟩
theorem within {s:Sp} {c:Cut} (h1:Span.right s.lo=true) (h2:Span.right s.hi=true) (h:inOne s c):inOne ⟨low,high⟩ c:=⟨le_le (low_le h1) h.1,lt_le h.2 (le_high h2)⟩

def SetOf (r:Rng) (o:List Sp):Prop:=Norm o∧∀ c,inS o c↔inC r c
def RestOf (r:Rng) (o:List Sp):Prop:=Norm o∧∀ c,inS o c↔inOne ⟨low,high⟩ c∧¬ inC r c
theorem SetOf.one {r:Rng} {o p:List Sp} (h:SetOf r o) (k:SetOf r p):o=p:=uniq h.1 k.1 fun c=>(h.2 c).trans (k.2 c).symm
theorem inR_one {s:Sp} (h:Span.cnt s=true) (c:Cut):inR [s] c↔inOne s c :=
 ⟨fun ⟨x,hx,_,hi⟩=>by rw [List.mem_singleton] at hx; subst hx; exact hi,fun hi=>⟨s,List.mem_singleton.2 rfl,h,hi⟩⟩
theorem set_span {k:Int} {v:Ver} (h0:0≤k) (h8:k≤8) (h6:k≠6) (hk:k=0∨goodV v=true) (l:List Rng) {o:List Sp} (h:NormalOf [⟨loOf k v,hiOf k v⟩] o):SetOf (.mk k v l) o:=by
 obtain ⟨h1,h2,h3⟩:=lohi (k:=k) hk
 refine ⟨h.1,fun c=>?_⟩
 rw [h.2,inR_one ((cnt_iff _).2 ⟨h1,h2,h3⟩),inC_ver h0 h8]
 unfold inK
 rw [if_neg h6]
 exact ⟨fun g=>⟨within h1 h2 g,g⟩,fun g=>g.2⟩
theorem set_ne {v:Ver} (hv:goodV v=true) (l:List Rng) {n o:List Sp} (hn:NormalOf [⟨aheadOf v,behindOf v⟩] n) (h:NotOf n o):SetOf (.mk 6 v l) o:=by
 have ha:=ahead_right hv
 refine ⟨h.1,fun c=>?_⟩
 rw [h.2,hn.1.inR,hn.2,inR_one ((cnt_iff _).2 ⟨ha,right_behind ha,ahead_behind v⟩),inC_ver (by omega) (by omega)]
 unfold inK
 rw [if_pos rfl]
theorem rest_of {r:Rng} {n o:List Sp} (hn:SetOf r n) (h:NotOf n o):RestOf r o:=⟨h.1,fun c=>by rw [h.2,hn.1.inR,hn.2]⟩
theorem set_not {v:Ver} {r:Rng} {o:List Sp} (h:RestOf r o):SetOf (.mk 11 v [r]) o:=⟨h.1,fun c=>by rw [h.2,inC_not]⟩
theorem set_or {v:Ver} {l:List Rng} {a o:List Sp} (ha:∀ c,inR a c↔∃ x ∈ l,inC x c) (h:NormalOf a o):SetOf (.mk 10 v l) o:=⟨h.1,fun c=>by rw [h.2,ha,inC_or]⟩
theorem set_and {v:Ver} {l:List Rng} {a o:List Sp} (ha:∀ c,inR a c↔∃ x ∈ l,inOne ⟨low,high⟩ c∧¬ inC x c) (h:NotOf a o):SetOf (.mk 9 v l) o:=⟨h.1,fun c=>by
 rw [h.2,ha,inC_and]
 refine and_congr_right fun hc=>⟨fun k x hx=>Classical.byContradiction fun hn=>k ⟨x,hx,hc,hn⟩,?_⟩
 rintro k ⟨x,hx,_,hn⟩
 exact hn (k x hx)⟩
theorem inR_append (a b:List Sp) (c:Cut):inR (a ++ b) c↔inR a c∨inR b c:=by
 constructor
 ·rintro ⟨s,hs,h⟩
  rcases List.mem_append.1 hs with hs | hs
  ·exact .inl ⟨s,hs,h⟩
  ·exact .inr ⟨s,hs,h⟩
 ·rintro (⟨s,hs,h⟩ | ⟨s,hs,h⟩)
  ·exact ⟨s,List.mem_append_left _ hs,h⟩
  ·exact ⟨s,List.mem_append_right _ hs,h⟩

/-! What a version's range has, version by version. -/
end Go.Proofs.YtgfbflnhjpbceaaGreatDoor.Nrm
namespace Go.Proofs.YtgfbflnhjpbceaaGreatDoor.Range
open Go.RowKit Num Ident Semver
theorem srow_none (w:World) (A:Option Addr):SRow w A 0 []:=⟨rfl,fun h=>absurd h (Nat.lt_irrefl _)⟩
theorem wtL_len:∀ l:List Rng,l.length≤wtL l
 | []=>Nat.le_refl _
 | r :: l=>by rw [wtL_cons,wt_eq,List.length_cons]; have:=wtL_len l; omega
theorem wt_mem {x:Rng}:∀ {l:List Rng},x ∈ l→wt x≤wtL l
 | [],h=>by cases h
 | y :: l,h=>by
  rw [wtL_cons]
  rcases List.mem_cons.1 h with rfl | h
  ·omega
  ·have:=wt_mem h; omega
theorem right_at {w:World} {S:Nat→Prop} {r:Rng} {x:RV} {d:Nat} (hx:Lies w S r x) (hg:goodR r d=true):d≤64∧goodL r.kind r.subs d=true∧r.subs.length=x.n∧r.kind=x.kind ∧
  ((1≤x.kind∧x.kind≤8∧goodV x.v=true∧x.n=0)∨(x.v=noVer∧((x.kind=0∧x.n=0)∨((x.kind=9∨x.kind=10)∧2≤x.n)∨(x.kind=11∧x.n=1)))):=by
 have hs:=hx.says
 obtain ⟨f,hl,_,_⟩:=hs.subs
 have hk:=hs.kind
 have hv:=hs.ver
 obtain ⟨kind,v,l⟩:=r
 obtain ⟨h1,h2,h3⟩:=good_cases hg
 simp only [Rng.kind,Rng.ver,Rng.subs] at hl hk hv ⊢
 subst hk; subst hv
 refine ⟨h1,h2,hl,rfl,?_⟩
 rcases h3 with ⟨a,b,c,rfl⟩ | ⟨a,⟨b,rfl⟩ | ⟨b,c⟩ | ⟨b,y,rfl⟩⟩
 ·exact .inl ⟨a,b,c,hl.symm⟩
 ·exact .inr ⟨a,.inl ⟨b,hl.symm⟩⟩
 ·exact .inr ⟨a,.inr (.inl ⟨b,hl ▸ c⟩)⟩
 ·exact .inr ⟨a,.inr (.inr ⟨b,hl.symm⟩)⟩
end Go.Proofs.YtgfbflnhjpbceaaGreatDoor.Range
