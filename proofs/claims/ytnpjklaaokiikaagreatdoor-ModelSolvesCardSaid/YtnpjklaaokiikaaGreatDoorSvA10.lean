/-
  What the theorem of the last text needs of these: RgFore, RgLt, KRow, RgGood, PrCmp, PrEnds. Conditions: as each theorem states.
-/
import Derived.Test.YtnpjklaaokiikaaGreatDoorSvA1
import Derived.Test.YtnpjklaaokiikaaGreatDoorSvA2
import Derived.Test.YtnpjklaaokiikaaGreatDoorSvA5
import Derived.Test.YtnpjklaaokiikaaGreatDoorSvA6
import Derived.Test.YtnpjklaaokiikaaGreatDoorSvA8
import Derived.Test.YtnpjklaaokiikaaGreatDoorSvA9
import Derived.WalkSmall
import Derived.Laws.OwnMore
import Derived.StillTailTactics
import Derived.Deep.CutBlock
import Derived.Deep.DeepCutAuto
import Derived.Deep.RegionHeld3
import Derived.Lib.SliceRun
set_option maxRecDepth 100000
set_option maxHeartbeats 25600000
namespace Go.Proofs.YtnpjklaaokiikaaGreatDoor.Range
open Num Ident Semver

theorem sameV_eq {u v:Ver} (h:sameV u v=true):u=v:=by
 unfold sameV at h
 rw [Bool.and_eq_true,Bool.and_eq_true,decide_eq_true_eq,sameB_iff,sameB_iff] at h
 obtain ⟨a,b,c,p,q⟩:=u
 obtain ⟨a',b',c',p',q'⟩:=v
 obtain ⟨⟨h1,h2,h3⟩,h4,h5⟩:=h
 simp only at h1 h2 h3 h4 h5
 rw [h1,h2,h3,h4,h5]
theorem good_cases {kind:Int} {v:Ver} {l:List Rng} {d:Nat} (h:goodR (.mk kind v l) d=true) :
  d≤64∧goodL kind l d=true∧((1≤kind∧kind≤8∧goodV v=true∧l=[])∨(v=noVer∧((kind=0∧l=[])∨((kind=9∨kind=10)∧2≤l.length)∨(kind=11∧∃ x,l=[x])))):=by
 rw [goodR_eq,Bool.and_eq_true,Bool.and_eq_true,decide_eq_true_eq] at h
 refine ⟨h.1.1,h.2,?_⟩
 have hf:=h.1.2
 unfold fits at hf
 by_cases h1:ofVersion kind=true
 ·rw [if_pos h1,Bool.and_eq_true,decide_eq_true_eq] at hf
  unfold ofVersion at h1
  rw [decide_eq_true_eq] at h1
  exact .inl ⟨h1.1,h1.2,hf.1,List.eq_nil_of_length_eq_zero hf.2⟩
 ·rw [if_neg h1] at hf
  by_cases h2:sameV v noVer=false
  ·rw [if_pos h2] at hf; cases hf
  ·rw [if_neg h2] at hf
   refine .inr ⟨sameV_eq (by simpa using h2),?_⟩
   by_cases h3:kind=0
   ·rw [if_pos h3,decide_eq_true_eq] at hf; exact .inl ⟨h3,List.eq_nil_of_length_eq_zero hf⟩
   ·rw [if_neg h3] at hf
    by_cases h4:kind=9∨kind=10
    ·rw [if_pos h4,decide_eq_true_eq] at hf; exact .inr (.inl ⟨h4,hf⟩)
    ·rw [if_neg h4] at hf
     by_cases h5:kind=11
     ·rw [if_pos h5,decide_eq_true_eq] at hf
      exact .inr (.inr ⟨h5,List.length_eq_one_iff.1 hf⟩)
     ·rw [if_neg h5] at hf; cases hf
theorem size_mem {x:Rng} {kind:Int} {v:Ver} {l:List Rng} (h:x ∈ l):SizeOf.sizeOf x<SizeOf.sizeOf (Rng.mk kind v l):=by
 have:=List.sizeOf_lt_of_mem h
 rw [Rng.mk.sizeOf_spec]; omega
theorem goodL_mem {o:Int} {x:Rng}:∀ {l:List Rng} {d:Nat},goodL o l d=true→x ∈ l→goodR x (d+opens o x.kind)=true
 | [],_,_,h=>by cases h
 | r :: rs,d,hg,h=>by
  rw [goodL_cons,Bool.and_eq_true] at hg
  rcases List.mem_cons.1 h with rfl | h
  ·exact hg.1
  ·exact goodL_mem hg.2 h

structure Reads (r:Rng) (k:Nat) (rest:List UInt8):Prop where
 one:r.kind≠9→r.kind≠10→pone k (textR r ++ rest)=(0,blanks rest,r)
 every:r.kind≠10→furO (blanks rest)=none→everyF (pone k) (textR r ++ rest)=(0,blanks rest,r)
 expr:furO (blanks rest)=none→furE (blanks rest)=none→exprF (pone k) (textR r ++ rest)=(0,blanks rest,r)
end Go.Proofs.YtnpjklaaokiikaaGreatDoor.Range
namespace Go.Proofs.YtnpjklaaokiikaaGreatDoor.Range
open Go.RowKit Num Ident Semver
def LtB (B g:Nat):Prop:=g<B
theorem RgRow.one {w:World} {S:Nat→Prop} {L:Option Addr} {n:Nat} {l:List Rng} (h:RgRow w S L n l) {j:Nat} (hj:j<n):∃ b o x,L=some ⟨b,o,none⟩∧S b∧CellsAt w b (o+j * 7) x∧Lies w S (l.getD j noRng) x:=by
 obtain ⟨f,_,h2,h3⟩:=h
 obtain ⟨b,o,e,hb,hc⟩:=h2 (by omega)
 exact ⟨b,o,f j,e,hb,hc j hj,h3 j hj⟩
theorem arr_lit (t:Array Value) (n:Nat) (h:t.size=n):t=((List.range n).map fun i=>t.getD i undef).toArray:=by
 apply Array.ext
 ·simp [h]
 ·intro i h1 h2
  simp [Array.getD,h1]
end Go.Proofs.YtnpjklaaokiikaaGreatDoor.Range
namespace Go.Proofs.YtnpjklaaokiikaaGreatDoor.KR
open Go.RowKit Num
open Range (KeepS LtB InS)

def KRow {α:Type} [Inhabited α] (vals:α→List Value) (k:Nat) (w:World) (S:Nat→Prop) (A:Option Addr) (n:Nat) (l:List α):Prop :=
 l.length=n∧(0<n→∃ b o,A=some ⟨b,o,none⟩∧S b∧b<w.heap.size∧∀ j,j<n→∀ i u,(vals (l.getD j default))[i]?=some u→w.cell? ⟨b,o+j * k+i,none⟩=some u)
section
variable {α:Type} [Inhabited α] {vals:α→List Value} {k:Nat} {w w':World} {S:Nat→Prop} {A:Option Addr} {n:Nat} {l:List α}
theorem KRow.none_ (w:World) (S:Nat→Prop) (A:Option Addr):KRow vals k w S A 0 []:=⟨rfl,fun h=>absurd h (Nat.lt_irrefl _)⟩
theorem KRow.keep (h:KRow vals k w S A n l) (q:KeepS S w w'):KRow vals k w' S A n l:=by
 refine ⟨h.1,fun h0=>?_⟩
 obtain ⟨b,o,e,hb,hlt,hc⟩:=h.2 h0
 exact ⟨b,o,e,hb,Nat.lt_of_lt_of_le hlt q.size,fun j hj i u hu=>q.cell _ _ _ hb (hc j hj i u hu)⟩
theorem KRow.mono {S':Nat→Prop} (h:KRow vals k w S A n l) (hS:∀ b,S b→b<w.heap.size→S' b):KRow vals k w S' A n l:=by
 refine ⟨h.1,fun h0=>?_⟩
 obtain ⟨b,o,e,hb,hlt,hc⟩:=h.2 h0
 exact ⟨b,o,e,hS b hb hlt,hlt,hc⟩
theorem KRow.nil (h:KRow vals k w S none n l):n=0∧l=[]:=by
 rcases Nat.eq_zero_or_pos n with h0 | h0
 ·exact ⟨h0,List.eq_nil_of_length_eq_zero (by rw [h.1]; exact h0)⟩
 ·obtain ⟨b,o,e,_⟩:=h.2 h0
  cases e
theorem KRow.at_ (h:KRow vals k w S A n l) {j:Nat} (hj:j<n):∃ b o,A=some ⟨b,o,none⟩∧S b∧b<w.heap.size∧∀ i u,(vals (l.getD j default))[i]?=some u→w.cell? ⟨b,o+j * k+i,none⟩=some u:=by
 obtain ⟨b,o,e,hb,hlt,hc⟩:=h.2 (by omega)
 exact ⟨b,o,e,hb,hlt,hc j hj⟩
theorem KRow.mem (h:KRow vals k w S A n l) {j:Nat} (hj:j<n):l.getD j default ∈ l:=by
 rw [List.getD_eq_getElem?_getD,List.getElem?_eq_getElem (by rw [h.1]; exact hj)]; exact List.getElem_mem _
theorem KRow.news {ad:Addr} (hk:∀ x,(vals x).length=k) (hk0:0<k) (h:KRow vals k w S (some ad) n l):∀ j u,(l.flatMap vals)[j]?=some u→w.cell? (ad.add j)=some u:=by
 intro j u hu
 have hj:j<l.length * k:=by have:=(List.getElem?_eq_some_iff.1 hu).1; rwa [flat_len vals k hk] at this
 have hd:j / k<l.length:=Nat.div_lt_of_lt_mul (by rw [Nat.mul_comm]; exact hj)
 obtain ⟨b,o,e,_,_,hc⟩:=h.2 (Nat.lt_of_le_of_lt (Nat.zero_le _) (h.1 ▸ hd))
 injection e with e
 subst e
 have hs:j=(j / k) * k+j % k:=by rw [Nat.mul_comm]; exact (Nat.div_add_mod j k).symm
 rw [hs,flat_get vals k hk l (j / k) (j % k) hd (Nat.mod_lt _ hk0)] at hu
 have:=hc (j / k) (by rw [← h.1]; exact hd) (j % k) u hu
 rw [add_none]
 rw [Nat.add_assoc,← hs] at this
 exact this
theorem KRow.of_own {base:Nat} {e:TypeId} {v:Value} (hk:∀ x,(vals x).length=k) (h:w.ownsRow base e k v n (l.flatMap vals)) (hl:l.length=n) (hS:∀ g,base≤g→g<w.heap.size→S g) :
  ∃ A c,v=.slice A n c∧n≤c∧(A=none→c=0)∧KRow vals k w S A n l:=by
 obtain ⟨A,c,h1,h2,h3,h4⟩:=own_cells hk h hl
 refine ⟨A,c,h1,h2,h3,hl,fun h0=>?_⟩
 obtain ⟨g,e1,hg,hlt,_,hc⟩:=h4 h0
 exact ⟨g,0,e1,hS g hg hlt,hlt,hc⟩
end
theorem run_append_k {α:Type} [Inhabited α] {vals:α→List Value} {k bytes:Nat} {T E:TypeId} {z:Value} (hT:Tryz.prog.underlying T=some (.slice E)) (hI:(Tryz.prog.info? E).map (fun i=>(i.zero,i.size,i.bytes))=some (some z,k,bytes)) (hz:z.cells.size=k) (hk:∀ x,(vals x).length=k) (hk0:0<k) (h1:∀ x,∀ u ∈ vals x,u.oneCell'=true)
  (w:World) (ty:TypeId) (base:Nat) (v:Value) (n:Nat) (l:List α) (hown:w.ownsRow base E k v n (l.flatMap vals)) {S:Nat→Prop} (A:Option Addr) (m c:Nat) (r:List α) (hr:KRow vals k w S A m r) (hnil:A=none→c=0) (hm:n+m≤maxLen) (hb:(n+m) * bytes≤140737488355328) (hbase:base≤w.heap.size) :
  ∃ v' w',(Builtin.append_ #[T,T] ty #[v,.slice A m c]).run Tryz.prog w=.ok v' w'∧w'.ownsRow base E k v' (n+m) ((l ++ r).flatMap vals)∧w.grownBy w' v.ownBlock:=by
 obtain ⟨i,hi,hzi,hs,hby⟩:=info_parts hI
 cases A with
 | none =>
  obtain rfl:=hnil rfl
  obtain ⟨rfl,rfl⟩:=hr.nil
  exact ⟨v,w,run_append_owned_none (P:=Tryz.prog) (w:=w) base T ty E i k hT hi v n _ hown,by simpa using hown,World.grownBy.refl w _⟩
 | some ad =>
  obtain ⟨v',w',h3,h4,h5,_⟩:=run_append_own (P:=Tryz.prog) w base T ty E i z k bytes hT hi hzi hs hby hz hk0 v n _ hown ad m c (r.flatMap vals)
   (by rw [flat_len _ k hk,hr.1]) (hr.news hk hk0) (flat_one _ h1 r) hm hb hbase
  exact ⟨v',w',h3,by rw [List.flatMap_append]; exact h4,h5⟩
theorem region_append {T:TypeId} {yl:Nat→Option Bool} {o:Oper} {a:Act} {w w':World} {K:Act→World→Prop} {Q:Exit→Act→World→Prop} {v v' y:Value} (hw:Region.wanted o yl=true) (s x:Operand)
  (ho:o.op=.call { callee:=.builtin .append,args:=#[s,x],argTypes:=#[T,T] }) (hs:a.eval s=v) (hx:a.eval x=y)
  (hrun:(Builtin.append_ #[T,T] o.type #[v,y]).run Tryz.prog w=.ok v' w') (h:K (a.put o.dst v') w'):if Region.wanted o yl=true then Oper.wp Tryz.prog o a w K Q else K (a.put o.dst undef) w:=by
 rw [if_pos hw]
 unfold Oper.wp execOp
 simp only [ho,resolve,invoke,builtin,Sem.run_bind,Sem.run_pure,Result.andThen_ok,List.map_toArray,List.map_cons,List.map_nil,hs,hx,hrun]
 exact h
structure AtV (W:World) (b:Nat) (L:List Value):Prop where
 lt:b<W.heap.size
 fr:∀ o,W.frozen? ⟨b,o,none⟩=false
 at_:∀ i u,L[i]?=some u→W.cell? ⟨b,i,none⟩=some u
theorem AtV.new (w:World) (t:TypeId) (L:List Value):AtV (w.alloc (.cells L.toArray t)) w.heap.size L :=
 ⟨by simp,fun o=>by simp [go_sem],fun i u hu=>by have:=news_new w L t i u hu; rwa [add_none,Nat.zero_add] at this⟩
theorem AtV.kept {W W':World} {b B:Nat} {L:List Value} (h:AtV W b L) (hb:Below B W W') (hB:b<B):AtV W' b L :=
 ⟨Nat.lt_of_lt_of_le h.lt hb.size,fun o=>(hb.frozen (p:=⟨b,o,none⟩) hB).trans (h.fr o),fun i u hu=>(hb.cell (p:=⟨b,i,none⟩) hB).trans (h.at_ i u hu)⟩
theorem list_of {α:Type} [Inhabited α] {P:Nat→α→Prop}:∀ (n:Nat),(∀ i,i<n→∃ x,P i x)→∃ l:List α,l.length=n∧∀ i,i<n→P i (l.getD i default)
 | 0,_=>⟨[],rfl,fun i hi=>by omega⟩
 | n+1,h=>by
  obtain ⟨l,hl,hp⟩:=list_of n fun i hi=>h i (by omega)
  obtain ⟨x,hx⟩:=h n (by omega)
  refine ⟨l ++ [x],by simp [hl],fun i hi=>?_⟩
  rcases Nat.lt_or_ge i n with h1 | h1
  ·have e:(l ++ [x]).getD i default=l.getD i default:=by simp [List.getD,List.getElem?_append_left (show i<l.length by omega)]
   rw [e]; exact hp i h1
  ·obtain rfl:i=n:=by omega
   have e:(l ++ [x]).getD i default=x:=by simp [List.getD,← hl]
   rw [e]; exact hx
theorem KRow.came {α:Type} [Inhabited α] {vals:α→List Value} {k:Nat} {H:Type} {enc:TypeId × Value→H} {W:World} {T E:TypeId} {P:α→Prop} (hu:Tryz.prog.underlying T=some (.slice E)) (hC:Tryz.prog.cellsOf E=k) (hk:∀ x,(vals x).length=k) (hk0:0<k)
  (hel:∀ (fuel:Nat) (cs:List Value) (y:DataW H × List MemPlace),DataW.trod enc Tryz.prog W 0 (fun _=>true) true fuel E cs=some y→Came.Sized E y.1→∃ x,cs=vals x∧P x)
  {fuel:Nat} {cs:List Value} {y:DataW H × List MemPlace} (hf:DataW.trod enc Tryz.prog W 0 (fun _=>true) true fuel T cs=some y) (hs:Came.Sized T y.1) :
  ∃ (A:Option Addr) (len cap:Nat) (l:List α),cs=[.slice A len cap]∧KRow vals k W (LtB W.heap.size) A len l∧(∀ x ∈ l,P x)∧len≤cap∧cap≤maxLen∧(A=none→cap=0):=by
 rcases DataW.trod_slice hu hf with ⟨hz,_⟩ | ⟨a,len,cap,elems,rest,n2,_,hz,hy,_,hlc,hcm,hle,hi,_,_⟩
 ·exact ⟨none,0,0,[],hz,KRow.none_ _ _ _,fun x hx=>(List.not_mem_nil hx).elim,Nat.le_refl _,by unfold maxLen; omega,fun _=>rfl⟩
 ·rw [hC] at hi
  obtain ⟨ps,hpl,hp⟩:=list_of (α:=α) (P:=fun i (p:α)=>P p∧∀ j u,(vals p)[j]?=some u→W.cell? ((a.add (i * k)).add j)=some u) len fun i hi'=>by
   have h0:=hi i hi'
   rw [List.getElem?_eq_getElem (show i<elems.length by omega),Option.bind_eq_some_iff] at h0
   obtain ⟨cs,hc,ht⟩:=h0
   obtain ⟨_,hcl,hat⟩:=World.cells?_some hc
   obtain ⟨x,e,ho⟩:=hel n2 cs _ ht (by rw [hy] at hs; exact hs.elem hu (i:=i) (List.getElem?_eq_getElem (show i<elems.length by omega)))
   refine ⟨x,ho,fun j u hu=>?_⟩
   have hj:j<k:=by have:=(List.getElem?_eq_some_iff.1 hu).1; rwa [hk] at this
   rw [hat j hj,e]; exact hu
  refine ⟨some a,len,cap,ps,hz,⟨hpl,fun h0=>?_⟩,fun x hx=>?_,hlc,hcm,fun e=>by cases e⟩
  ·obtain ⟨b,o,spot⟩:=a
   obtain ⟨u,hu⟩:∃ u,(vals (ps.getD 0 default))[0]?=some u:=⟨(vals (ps.getD 0 default))[0]'(by rw [hk]; exact hk0),List.getElem?_eq_getElem _⟩
   have h0c:=(hp 0 h0).2 0 u hu
   have hspot:spot=none:=by simpa [Addr.add] using World.cell?_spot h0c
   subst hspot
   have hblk:=World.block_lt_of_cell? W _ h0c
   rw [Num.add_none,Num.add_none] at hblk
   refine ⟨b,o,rfl,hblk,hblk,fun j hj i u hu=>?_⟩
   have e:=(hp j hj).2 i u hu
   rwa [Num.add_none,Num.add_none] at e
  ·obtain ⟨j,hj,rfl⟩:=List.getElem_of_mem hx
   have:=(hp j (by omega)).1
   simpa [List.getD,List.getElem?_eq_getElem hj] using this
end Go.Proofs.YtnpjklaaokiikaaGreatDoor.KR
namespace Go.Proofs.YtnpjklaaokiikaaGreatDoor.Range
open Go.RowKit Num Ident Semver
theorem srow_none (w:World) (A:Option Addr):SRow w A 0 []:=⟨rfl,fun h=>absurd h (Nat.lt_irrefl _)⟩
theorem wtL_len:∀ l:List Rng,l.length≤wtL l
 | []=>Nat.le_refl _
 | r :: l=>by rw [wtL_cons,wt_eq,List.length_cons]; have:=wtL_len l; omega
theorem wt_mem {x:Rng}:∀ {l:List Rng},x ∈ l→wt x≤wtL l
 | [],h=>by cases h
 | y :: l,h=>by
  rw [wtL_cons]
  rcases List.mem_cons.1 h with rfl | h
  ·omega
  ·have:=wt_mem h; omega
theorem right_at {w:World} {S:Nat→Prop} {r:Rng} {x:RV} {d:Nat} (hx:Lies w S r x) (hg:goodR r d=true):d≤64∧goodL r.kind r.subs d=true∧r.subs.length=x.n∧r.kind=x.kind ∧
  ((1≤x.kind∧x.kind≤8∧goodV x.v=true∧x.n=0)∨(x.v=noVer∧((x.kind=0∧x.n=0)∨((x.kind=9∨x.kind=10)∧2≤x.n)∨(x.kind=11∧x.n=1)))):=by
 have hs:=hx.says
 obtain ⟨f,hl,_,_⟩:=hs.subs
 have hk:=hs.kind
 have hv:=hs.ver
 obtain ⟨kind,v,l⟩:=r
 obtain ⟨h1,h2,h3⟩:=good_cases hg
 simp only [Rng.kind,Rng.ver,Rng.subs] at hl hk hv ⊢
 subst hk; subst hv
 refine ⟨h1,h2,hl,rfl,?_⟩
 rcases h3 with ⟨a,b,c,rfl⟩ | ⟨a,⟨b,rfl⟩ | ⟨b,c⟩ | ⟨b,y,rfl⟩⟩
 ·exact .inl ⟨a,b,c,hl.symm⟩
 ·exact .inr ⟨a,.inl ⟨b,hl.symm⟩⟩
 ·exact .inr ⟨a,.inr (.inl ⟨b,hl ▸ c⟩)⟩
 ·exact .inr ⟨a,.inr (.inr ⟨b,hl.symm⟩)⟩
end Go.Proofs.YtnpjklaaokiikaaGreatDoor.Range
namespace Go.Proofs.YtnpjklaaokiikaaGreatDoor.Prec
open Go.RowKit Num Ident Semver

def Fit (xs:List (List UInt8)):Prop:=xs.length≤maxLen∧∀ x ∈ xs,x.length≤maxLen
theorem Fit.nil:Fit []:=⟨by unfold maxLen; simp,fun x hx=>by simp at hx⟩
theorem Fit.zero:Fit [[48]]:=⟨by unfold maxLen; simp,fun x hx=>by simp at hx; subst hx; unfold maxLen; simp⟩
theorem releases_anyD (A:Option Addr) (ca:Nat) (xs:List (List UInt8)) (B:Option Addr) (cb:Nat) (ys:List (List UInt8)) (w:World) (hA:SRow w A xs.length xs) (hB:SRow w B ys.length ys) (fx:Fit xs) (fy:Fit ys) :
  Calls Tryz.prog 197 #[.slice A xs.length ca,.slice B ys.length cb] w fun e w'=>e=.returned (.int .i64 (cmpPre xs ys))∧BelowD w.heap.size w w':=by
 have HA:=Lib.hid hA
 have HB:=Lib.hid hB
 have FX:=Lib.hid fx
 have FY:=Lib.hid fy
 have hx:=fx.1
 have hy:=fy.1
 unfold maxLen at hx hy
 clear hA hB fx fy
 by_cases h1:xs.length=0
 ·by_cases h2:ys.length=0
  ·have HF:=Lib.hid (cmpPre_rows (x:=xs) (y:=ys) ⟨fun _=>h2,fun _=>h1⟩)
   have K:Hid (∀ W,W=w→Calls Tryz.prog 146 #[.slice A xs.length ca,.slice B ys.length cb] W fun e w'=>e=.returned (.int .i64 (cmpPre xs ys))∧BelowD w.heap.size w w'):=by
    rintro W rfl; rw [HF.out]; exact rows_anyD A _ ca xs B _ cb ys W HA.out HB.out FX.out.1 FY.out.1 FX.out.2 FY.out.2
   rw [h1,h2] at K
   clear HF
   go_enter Tryz.func197,Tryz.ntmps197
   go_wp2_with fail
   refine (K.out _ rfl).mono ?_
   rintro e w1 ⟨rfl,hb1⟩
   go_wp2
   go_ret
   exact ⟨rfl,hb1⟩
  ·have HF:=Lib.hid (cmpPre_one h1 h2)
   have h3:0<ys.length:=by omega
   go_enter Tryz.func197,Tryz.ntmps197
   go_wp2
   go_ret
   exact ⟨by rw [HF.out]; rfl,BelowD.refl _ _⟩
 ·have h3:0<xs.length:=by omega
  by_cases h2:ys.length=0
  ·have HF:=Lib.hid (cmpPre_two h1 h2)
   go_enter Tryz.func197,Tryz.ntmps197
   go_wp2
   go_ret
   exact ⟨by rw [HF.out]; rfl,BelowD.refl _ _⟩
  ·have h4:0<ys.length:=by omega
   have HF:=Lib.hid (cmpPre_rows (x:=xs) (y:=ys) ⟨fun h=>absurd h h1,fun h=>absurd h h2⟩)
   have K:Hid (∀ W,W=w→Calls Tryz.prog 146 #[.slice A xs.length ca,.slice B ys.length cb] W fun e w'=>e=.returned (.int .i64 (cmpPre xs ys))∧BelowD w.heap.size w w'):=by
    rintro W rfl; rw [HF.out]; exact rows_anyD A _ ca xs B _ cb ys W HA.out HB.out FX.out.1 FY.out.1 FX.out.2 FY.out.2
   clear HF
   go_enter Tryz.func197,Tryz.ntmps197
   go_wp2_with fail
   refine (K.out _ rfl).mono ?_
   rintro e w1 ⟨rfl,hb1⟩
   go_wp2
   go_ret
   exact ⟨rfl,hb1⟩
theorem compare_anyD (u v:Ver) (A1 A2 B1 B2:Option Addr) (c1 c2 d1 d2:Nat) (w:World) (r1:SRow w A1 u.pre.length u.pre) (q1:SRow w B1 v.pre.length v.pre) (f1:Fit u.pre) (g1:Fit v.pre) :
  Calls Tryz.prog 145 #[.agg #[u.a,u.b,u.c,.slice A1 u.pre.length c1,.slice A2 u.build.length c2],.agg #[v.a,v.b,v.c,.slice B1 v.pre.length d1,.slice B2 v.build.length d2]] w fun e w'=>e=.returned (.int .i64 (cmpV u v))∧BelowD w.heap.size w w':=by
 have HB0:Hid (BelowD w.heap.size w ((w.alloc (.cells #[u.a,u.b,u.c,.slice A1 u.pre.length c1,.slice A2 u.build.length c2] 34)).alloc (.cells #[v.a,v.b,v.c,.slice B1 v.pre.length d1,.slice B2 v.build.length d2] 34))):=((BelowD.refl _ _).alloc (Nat.le_refl _) _).alloc (by simp) _
 have K1:Hid (At5 ((w.alloc (.cells #[u.a,u.b,u.c,.slice A1 u.pre.length c1,.slice A2 u.build.length c2] 34)).alloc (.cells #[v.a,v.b,v.c,.slice B1 v.pre.length d1,.slice B2 v.build.length d2] 34)) w.heap.size u.a u.b u.c (.slice A1 u.pre.length c1) (.slice A2 u.build.length c2)):=(At5.new w 34 _ _ _ _ _).kept ((Below.refl _ _).alloc (Nat.le_refl _) _) (by simp)
 have K2:Hid (At5 ((w.alloc (.cells #[u.a,u.b,u.c,.slice A1 u.pre.length c1,.slice A2 u.build.length c2] 34)).alloc (.cells #[v.a,v.b,v.c,.slice B1 v.pre.length d1,.slice B2 v.build.length d2] 34)) (w.heap.size+1) v.a v.b v.c (.slice B1 v.pre.length d1) (.slice B2 v.build.length d2)):=by
  have:=At5.new (w.alloc (.cells #[u.a,u.b,u.c,.slice A1 u.pre.length c1,.slice A2 u.build.length c2] 34)) 34 v.a v.b v.c (.slice B1 v.pre.length d1) (.slice B2 v.build.length d2)
  rw [size_alloc] at this; exact this
 have R1:=Lib.hid r1
 have Q1:=Lib.hid q1
 have F1:=Lib.hid f1
 have G1:=Lib.hid g1
 clear r1 q1 f1 g1
 have HF:Hid (cmpV u v=if cmpCore u v=0 then cmpPre u.pre v.pre else cmpCore u v):=rfl
 have HC:Hid (∀ W,Calls Tryz.prog 195 #[.agg #[u.a,u.b,u.c],.agg #[v.a,v.b,v.c]] W fun e w'=>e=.returned (.int .i64 (cmpCore u v))∧BelowD W.heap.size W w'):=fun W=>cores_anyD u v W
 generalize cmpCore u v=c at HF HC
 go_enter Tryz.func145,Tryz.ntmps145
 go_upto_region 1 with (fail)
 generalize ((w.alloc (.cells #[u.a,u.b,u.c,.slice A1 u.pre.length c1,.slice A2 u.build.length c2] 34)).alloc (.cells #[v.a,v.b,v.c,.slice B1 v.pre.length d1,.slice B2 v.build.length d2] 34))=W at HB0 K1 K2 ⊢
 have hz:=K2.out.1
 have hw:=HB0.out.size
 have D0:=Lib.hid (BelowD.refl W.heap.size W).drew
 have D1:=Lib.hid (D0.out.mono (B':=w.heap.size) hw)
 refine wp_region_held_drew (S:=fun w'=>(w'.cell? ⟨w.heap.size,0,none⟩=some (.int .u64 u.a)∧w'.cell? ⟨w.heap.size,1,none⟩=some (.int .u64 u.b)∧w'.cell? ⟨w.heap.size,2,none⟩=some (.int .u64 u.c)∧w'.cell? ⟨w.heap.size,3,none⟩=some (.slice A1 u.pre.length c1)∧w'.cell? ⟨w.heap.size,4,none⟩=some (.slice A2 u.build.length c2))∧(w'.cell? ⟨(w.heap.size+1),0,none⟩=some (.int .u64 v.a)∧w'.cell? ⟨(w.heap.size+1),1,none⟩=some (.int .u64 v.b)∧w'.cell? ⟨(w.heap.size+1),2,none⟩=some (.int .u64 v.c)∧w'.cell? ⟨(w.heap.size+1),3,none⟩=some (.slice B1 v.pre.length d1)∧w'.cell? ⟨(w.heap.size+1),4,none⟩=some (.slice B2 v.build.length d2))) (by kernel_rfl) ⟨K1.out.2.2,K2.out.2.2⟩ (fun hHeld=>?_)
 refine tk 0 rfl (.agg #[u.a,u.b,u.c,.slice A1 u.pre.length c1,.slice A2 u.build.length c2]) ?_
 refine tk 2 rfl (.agg #[v.a,v.b,v.c,.slice B1 v.pre.length d1,.slice B2 v.build.length d2]) ?_
 refine cl 1 rfl fun K hK=>?_
 go_simp
 refine (coreOf_anyD _ _ _ _ _ _).mono ?_
 rintro e w2 ⟨rfl,hb2⟩
 have L1:=Lib.hid ((K1.out.kept D0.out.toBelow (by omega)).kept hb2.toBelow (by simp; omega))
 have L2:=Lib.hid ((K2.out.kept D0.out.toBelow (by omega)).kept hb2.toBelow (by simp; omega))
 have B2:=Lib.hid ((HB0.out.trans D1.out).trans (hb2.mono (by simp; omega)))
 have hz2:W.heap.size≤w2.heap.size:=by have:=hb2.size; simpa using this
 clear hb2
 refine hK.out _ _ ⟨L1.out.2.2,L2.out.2.2⟩ (fun hHeld=>?_)
 clear hK K
 try simp only [Act.put,p1,p2,p3]
 refine cl 3 rfl fun K hK=>?_
 go_simp
 refine (coreOf_anyD _ _ _ _ _ _).mono ?_
 rintro e w3 ⟨rfl,hb3⟩
 have M1:=Lib.hid (L1.out.kept hb3.toBelow (by omega))
 have M2:=Lib.hid (L2.out.kept hb3.toBelow (by omega))
 have B3:=Lib.hid (B2.out.trans (hb3.mono (by omega)))
 have hz3:=hb3.size
 clear hb3
 refine hK.out _ _ ⟨M1.out.2.2,M2.out.2.2⟩ (fun hHeld=>?_)
 clear hK K
 try simp only [Act.put,p1,p2,p3]
 refine cl 4 rfl fun K hK=>?_
 go_simp
 refine (HC.out _).mono ?_
 rintro e w4 ⟨rfl,hb4⟩
 have N1:=Lib.hid (M1.out.kept hb4.toBelow (by omega))
 have N2:=Lib.hid (M2.out.kept hb4.toBelow (by omega))
 have B4:=Lib.hid (B3.out.trans (hb4.mono (by omega)))
 have hz4:=hb4.size
 clear hb4
 refine hK.out _ _ ⟨N1.out.2.2,N2.out.2.2⟩ (fun hHeld=>?_)
 clear hK K
 try simp only [Act.put,p1,p2,p3]
 refine tk 5 rfl (.int .i64 c) ?_
 refine wpAnyH_done (by kernel_rfl) ?_ _
 clear hHeld
 by_cases hc:c=0
 ·have HF2:Hid (cmpPre u.pre v.pre=cmpV u v):=by have:=HF.out; rw [if_pos hc] at this; exact this.symm
  have KR:Hid (∀ W',W'=w4→Calls Tryz.prog 197 #[.slice A1 u.pre.length c1,.slice B1 v.pre.length d1] W' fun e w'=>e=.returned (.int .i64 (cmpV u v))∧BelowD w4.heap.size w4 w'):=by
   rintro W' rfl; rw [← HF2.out]; exact releases_anyD A1 c1 u.pre B1 d1 v.pre W' (R1.out.kept B4.out.toBelow) (Q1.out.kept B4.out.toBelow) F1.out G1.out
  subst hc
  obtain ⟨_,_,x0,x1,x2,x3,x4⟩:=N1.out
  obtain ⟨_,_,y0,y1,y2,y3,y4⟩:=N2.out
  clear HF HF2
  go_wp2_with fail
  refine (KR.out _ rfl).mono ?_
  rintro e w5 ⟨rfl,hb5⟩
  have B5:=Lib.hid (B4.out.trans (hb5.mono (by omega)))
  clear hb5
  go_wp2
  go_ret
  exact ⟨rfl,B5.out⟩
 ·have HF2:Hid (cmpV u v=c):=by have:=HF.out; rw [if_neg hc] at this; exact this
  have hn:(c == 0)=false:=by simp [hc]
  have hn2:(c != 0)=true:=by simp [hc]
  clear HF hc
  go_wp2
  go_ret
  exact ⟨by rw [HF2.out]; rfl,B4.out⟩
end Go.Proofs.YtnpjklaaokiikaaGreatDoor.Prec
namespace Go.Proofs.YtnpjklaaokiikaaGreatDoor.Prec
open Go.RowKit Num Ident Semver

def FirstPost (w:World) (x:Ver) (e:Ending) (w':World):Prop :=
 ∃ A c,e=.returned (.agg #[x.a,x.b,x.c,.slice A x.pre.length c,.slice none x.build.length 0])∧SRow w' A x.pre.length x.pre∧x.build=[]∧Below w.heap.size w w'
def EndPost (w:World) (o:Option Ver) (e:Ending) (w':World):Prop :=
 ∃ A c,e=.returned (.tuple #[.agg #[.int .u64 ((verOf o).a),.int .u64 ((verOf o).b),.int .u64 ((verOf o).c),.slice A (verOf o).pre.length c,.slice none (verOf o).build.length 0],.bool o.isSome])∧SRow w' A (verOf o).pre.length (verOf o).pre∧(verOf o).build=[]∧Below w.heap.size w w'

theorem zeroU:∀ w,(zeroValue 31).run Tryz.prog w=.ok (.int .u64 0) w:=fun w=>by kernel_rfl
theorem clear2 (W:World) (b:Nat) (u0 u1 u2:Value) (h:At3 W b u0 u1 u2) (ty:TypeId) :
  (Builtin.clear_ #[311] ty #[.slice (some ⟨b,1,none⟩) 2 2]).run Tryz.prog W=.ok (.tuple #[]) ((W.setCell ⟨b,1,none⟩ (.int .u64 0)).setCell ⟨b,2,none⟩ (.int .u64 0)) :=
 Lib.run_clear_slice W 311 31 ty (.int .u64 0) Tryz.underlying311 zeroU rfl rfl b 1 2 2 (by omega) (fun j hj=>by
  obtain ⟨_,_,c0,c1,c2⟩:=h
  match j,hj with
  | 0,_=>rw [show (1+0)=1 from rfl,c1]; rfl
  | 1,_=>rw [show (1+1)=2 from rfl,c2]; rfl) (fun j _=>h.2.1 _)
theorem clear1 (W:World) (b:Nat) (u0 u1 u2:Value) (h:At3 W b u0 u1 u2) (ty:TypeId) :
  (Builtin.clear_ #[311] ty #[.slice (some ⟨b,2,none⟩) 1 1]).run Tryz.prog W=.ok (.tuple #[]) (W.setCell ⟨b,2,none⟩ (.int .u64 0)) :=
 Lib.run_clear_slice W 311 31 ty (.int .u64 0) Tryz.underlying311 zeroU rfl rfl b 2 1 1 (by omega) (fun j hj=>by
  obtain ⟨_,_,c0,c1,c2⟩:=h
  match j,hj with
  | 0,_=>rw [show (2+0)=2 from rfl,c2]; rfl) (fun j _=>h.2.1 _)
theorem clear0 (W:World) (A:Option Addr) (ty:TypeId) :
  (Builtin.clear_ #[311] ty #[.slice A 0 0]).run Tryz.prog W=.ok (.tuple #[]) W:=by
 cases A <;> simp [Builtin.clear_,run_underlying Tryz.underlying311]

def FirstZ (w:World) (p q r:Int) (e:Ending) (w':World):Prop :=
 ∃ A,e=.returned (.agg #[.int .u64 p,.int .u64 q,.int .u64 r,.slice A 1 1,.slice none 0 0])∧SRow w' A 1 [[48]]∧Below w.heap.size w w'
def EndZ (w:World) (p q r:Int) (e:Ending) (w':World):Prop :=
 ∃ A,e=.returned (.tuple #[.agg #[.int .u64 p,.int .u64 q,.int .u64 r,.slice A 1 1,.slice none 0 0],.bool true])∧SRow w' A 1 [[48]]∧Below w.heap.size w w'
def NoneZ (w:World) (e:Ending) (w':World):Prop :=
 e=.returned (.tuple #[.agg #[.int .u64 0,.int .u64 0,.int .u64 0,.slice none 0 0,.slice none 0 0],.bool false])∧Below w.heap.size w w'

theorem first_int (p q r:Int) (w:World) :
  Calls Tryz.prog 274 #[.int .u64 p,.int .u64 q,.int .u64 r] w (FirstZ w p q r):=by
 go_enter Tryz.func274,Tryz.ntmps274
 go_wp2
 refine bodyPost_ret (v:=.agg #[.int .u64 p,.int .u64 q,.int .u64 r,.slice (some ⟨w.heap.size+1,0,none⟩) 1 1,.slice none 0 0]) (by simp [results,Tryz.results274,go_sem]) rfl ?_
 refine ⟨some ⟨w.heap.size+1,0,none⟩,rfl,?_,((Below.refl _ _).alloc (Nat.le_refl _) _).alloc (by simp) _⟩
 have:=SRow.one (w.alloc (.cells #[.int .u64 p,.int .u64 q,.int .u64 r,.slice (some ⟨w.heap.size+1,0,none⟩) 1 1,.slice none 0 0] 34)) [48]
 rw [size_alloc] at this; exact this

/-! The end at each place. -/

theorem At5.beside {W:World} {b b' o:Nat} {u0 u1 u2 u3 u4:Value} (h:At5 W b u0 u1 u2 u3 u4) (hb:b≠b') (v:Value):At5 (W.setCell ⟨b',o,none⟩ v) b u0 u1 u2 u3 u4:=by
 obtain ⟨h1,h2,c0,c1,c2,c3,c4⟩:=h
 have k:∀ j,(W.setCell ⟨b',o,none⟩ v).cell? ⟨b,j,none⟩=W.cell? ⟨b,j,none⟩:=fun j=>World.cell?_setCell_other _ _ _ _ (by intro e; injection e with e; exact hb e.symm)
 exact ⟨by simpa using h1,fun o=>by simp [go_sem,h2],(k 0).trans c0,(k 1).trans c1,(k 2).trans c2,(k 3).trans c3,(k 4).trans c4⟩

theorem endAt0 (p q r:Int) (w:World) (h0:0≤p) (h1:p<9223372036854775807) :
  Calls Tryz.prog 252 #[.agg #[.int .u64 p,.int .u64 q,.int .u64 r],.int .i64 0] w (EndZ w (p+1) 0 0):=by
 have HB0:Hid (Below w.heap.size w ((w.alloc (.cells #[.int .u64 (p+1),.int .u64 q,.int .u64 r] 248)).alloc false)):=((Below.refl _ _).alloc (Nat.le_refl _) _).alloc (by simp) _
 have K1:Hid (At3 ((w.alloc (.cells #[.int .u64 (p+1),.int .u64 q,.int .u64 r] 248)).alloc false) w.heap.size (.int .u64 (p+1)) (.int .u64 q) (.int .u64 r)):=(At3.new w 248 _ _ _).kept ((Below.refl _ _).alloc (Nat.le_refl _) _) (by simp)
 have K2:Hid (At5 ((w.alloc (.cells #[.int .u64 (p+1),.int .u64 q,.int .u64 r] 248)).alloc false) (w.heap.size+1) (.int .u64 0) (.int .u64 0) (.int .u64 0) (.slice none 0 0) (.slice none 0 0)):=by
  have:=At5.new (w.alloc (.cells #[.int .u64 (p+1),.int .u64 q,.int .u64 r] 248)) 34 (.int .u64 0) (.int .u64 0) (.int .u64 0) (.slice none 0 0) (.slice none 0 0)
  rw [size_alloc] at this; exact this
 go_enter Tryz.func252,Tryz.ntmps252
 go_upto_region 4 with (fail)
 generalize ((w.alloc (.cells #[.int .u64 (p+1),.int .u64 q,.int .u64 r] 248)).alloc false)=W at HB0 K1 K2 ⊢
 have hcl:=clear2 W w.heap.size _ _ _ K1.out
 go_upto_region 5 with (simp only [hcl])
 have L1:Hid (At3 ((W.setCell ⟨w.heap.size,1,none⟩ (.int .u64 0)).setCell ⟨w.heap.size,2,none⟩ (.int .u64 0)) w.heap.size (.int .u64 (p+1)) (.int .u64 0) (.int .u64 0)):=(At3.set2 (At3.set1 K1.out (.int .u64 0)) (.int .u64 0))
 have L2:Hid (At5 ((W.setCell ⟨w.heap.size,1,none⟩ (.int .u64 0)).setCell ⟨w.heap.size,2,none⟩ (.int .u64 0)) (w.heap.size+1) (.int .u64 0) (.int .u64 0) (.int .u64 0) (.slice none 0 0) (.slice none 0 0)):=(At5.beside (At5.beside K2.out (b':=w.heap.size) (o:=1) (by omega) (.int .u64 0)) (b':=w.heap.size) (o:=2) (by omega) (.int .u64 0))
 have B1:Hid (Below w.heap.size w ((W.setCell ⟨w.heap.size,1,none⟩ (.int .u64 0)).setCell ⟨w.heap.size,2,none⟩ (.int .u64 0))):=((HB0.out.setCell (by simp) _).setCell (by simp) _)
 generalize ((W.setCell ⟨w.heap.size,1,none⟩ (.int .u64 0)).setCell ⟨w.heap.size,2,none⟩ (.int .u64 0))=W1 at L1 L2 B1 ⊢
 clear hcl
 clear K1 K2 HB0
 obtain ⟨hz1,_,x0,x1,x2⟩:=L1.out
 obtain ⟨hz2,_,y0,y1,y2,y3,y4⟩:=L2.out
 go_wp2_with fail
 refine (first_int _ _ _ _).mono ?_
 rintro e w3 ⟨A,rfl,hr,hb3⟩
 have N2:=Lib.hid (L2.out.kept hb3 hz2)
 have B3:=Lib.hid (B1.out.trans (hb3.mono (by omega)))
 obtain ⟨hz3,hf,g0,g1,g2,g3,g4⟩:=N2.out
 have R:=Lib.hid (hr.set5 g0 g1 g2 g3 g4 (by simp) (by simp) (by simp) (by simp) (by simp) (.int .u64 (p+1)) (.int .u64 0) (.int .u64 0) (.slice A 1 1) (.slice none 0 0))
 have B4:Hid (Below w.heap.size w (set5 w3 (w.heap.size+1) (.int .u64 (p+1)) (.int .u64 0) (.int .u64 0) (.slice A 1 1) (.slice none 0 0))):=(((((B3.out.setCell (by simp) _).setCell (by simp) _).setCell (by simp) _).setCell (by simp) _).setCell (by simp) _)
 have N3:=Lib.hid (N2.out.set5 (.int .u64 (p+1)) (.int .u64 0) (.int .u64 0) (.slice A 1 1) (.slice none 0 0))
 clear hr hb3 x0 x1 x2 y0 y1 y2 y3 y4
 unfold set5 at B4 N3
 go_wp2
 generalize (((((w3.setCell ⟨w.heap.size+1,0,none⟩ (.int .u64 (p+1))).setCell ⟨w.heap.size+1,1,none⟩ (.int .u64 0)).setCell ⟨w.heap.size+1,2,none⟩ (.int .u64 0)).setCell ⟨w.heap.size+1,3,none⟩ (.slice A 1 1)).setCell ⟨w.heap.size+1,4,none⟩ (.slice none 0 0))=w4 at R B4 N3 ⊢
 obtain ⟨_,_,z0,z1,z2,z3,z4⟩:=N3.out
 exact bodyPost_ret (v:=.tuple #[.agg #[.int .u64 (p+1),.int .u64 0,.int .u64 0,.slice A 1 1,.slice none 0 0],.bool true]) (by simp [results,Tryz.results252,go_sem,z0,z1,z2,z3,z4]) rfl ⟨A,rfl,R.out,B4.out⟩

theorem endNo0 (p q r:Int) (w:World) (h1:9223372036854775807≤p) :
  Calls Tryz.prog 252 #[.agg #[.int .u64 p,.int .u64 q,.int .u64 r],.int .i64 0] w (NoneZ w):=by
 have HB0:Hid (Below w.heap.size w ((w.alloc (.cells #[.int .u64 p,.int .u64 q,.int .u64 r] 248)).alloc false)):=((Below.refl _ _).alloc (Nat.le_refl _) _).alloc (by simp) _
 go_enter Tryz.func252,Tryz.ntmps252
 go_wp2
 exact bodyPost_ret (v:=.tuple #[.agg #[.int .u64 0,.int .u64 0,.int .u64 0,.slice none 0 0,.slice none 0 0],.bool false]) (by simp [results,Tryz.results252,go_sem]) rfl ⟨rfl,HB0.out⟩

theorem endAt1 (p q r:Int) (w:World) (h0:0≤q) (h1:q<9223372036854775807) :
  Calls Tryz.prog 252 #[.agg #[.int .u64 p,.int .u64 q,.int .u64 r],.int .i64 1] w (EndZ w p (q+1) 0):=by
 have HB0:Hid (Below w.heap.size w ((w.alloc (.cells #[.int .u64 p,.int .u64 (q+1),.int .u64 r] 248)).alloc false)):=((Below.refl _ _).alloc (Nat.le_refl _) _).alloc (by simp) _
 have K1:Hid (At3 ((w.alloc (.cells #[.int .u64 p,.int .u64 (q+1),.int .u64 r] 248)).alloc false) w.heap.size (.int .u64 p) (.int .u64 (q+1)) (.int .u64 r)):=(At3.new w 248 _ _ _).kept ((Below.refl _ _).alloc (Nat.le_refl _) _) (by simp)
 have K2:Hid (At5 ((w.alloc (.cells #[.int .u64 p,.int .u64 (q+1),.int .u64 r] 248)).alloc false) (w.heap.size+1) (.int .u64 0) (.int .u64 0) (.int .u64 0) (.slice none 0 0) (.slice none 0 0)):=by
  have:=At5.new (w.alloc (.cells #[.int .u64 p,.int .u64 (q+1),.int .u64 r] 248)) 34 (.int .u64 0) (.int .u64 0) (.int .u64 0) (.slice none 0 0) (.slice none 0 0)
  rw [size_alloc] at this; exact this
 go_enter Tryz.func252,Tryz.ntmps252
 go_upto_region 4 with (fail)
 generalize ((w.alloc (.cells #[.int .u64 p,.int .u64 (q+1),.int .u64 r] 248)).alloc false)=W at HB0 K1 K2 ⊢
 have hcl:=clear1 W w.heap.size _ _ _ K1.out
 go_upto_region 5 with (simp only [hcl])
 have L1:Hid (At3 (W.setCell ⟨w.heap.size,2,none⟩ (.int .u64 0)) w.heap.size (.int .u64 p) (.int .u64 (q+1)) (.int .u64 0)):=(At3.set2 K1.out (.int .u64 0))
 have L2:Hid (At5 (W.setCell ⟨w.heap.size,2,none⟩ (.int .u64 0)) (w.heap.size+1) (.int .u64 0) (.int .u64 0) (.int .u64 0) (.slice none 0 0) (.slice none 0 0)):=(At5.beside K2.out (b':=w.heap.size) (o:=2) (by omega) (.int .u64 0))
 have B1:Hid (Below w.heap.size w (W.setCell ⟨w.heap.size,2,none⟩ (.int .u64 0))):=(HB0.out.setCell (by simp) _)
 generalize (W.setCell ⟨w.heap.size,2,none⟩ (.int .u64 0))=W1 at L1 L2 B1 ⊢
 clear hcl
 clear K1 K2 HB0
 obtain ⟨hz1,_,x0,x1,x2⟩:=L1.out
 obtain ⟨hz2,_,y0,y1,y2,y3,y4⟩:=L2.out
 go_wp2_with fail
 refine (first_int _ _ _ _).mono ?_
 rintro e w3 ⟨A,rfl,hr,hb3⟩
 have N2:=Lib.hid (L2.out.kept hb3 hz2)
 have B3:=Lib.hid (B1.out.trans (hb3.mono (by omega)))
 obtain ⟨hz3,hf,g0,g1,g2,g3,g4⟩:=N2.out
 have R:=Lib.hid (hr.set5 g0 g1 g2 g3 g4 (by simp) (by simp) (by simp) (by simp) (by simp) (.int .u64 p) (.int .u64 (q+1)) (.int .u64 0) (.slice A 1 1) (.slice none 0 0))
 have B4:Hid (Below w.heap.size w (set5 w3 (w.heap.size+1) (.int .u64 p) (.int .u64 (q+1)) (.int .u64 0) (.slice A 1 1) (.slice none 0 0))):=(((((B3.out.setCell (by simp) _).setCell (by simp) _).setCell (by simp) _).setCell (by simp) _).setCell (by simp) _)
 have N3:=Lib.hid (N2.out.set5 (.int .u64 p) (.int .u64 (q+1)) (.int .u64 0) (.slice A 1 1) (.slice none 0 0))
 clear hr hb3 x0 x1 x2 y0 y1 y2 y3 y4
 unfold set5 at B4 N3
 go_wp2
 generalize (((((w3.setCell ⟨w.heap.size+1,0,none⟩ (.int .u64 p)).setCell ⟨w.heap.size+1,1,none⟩ (.int .u64 (q+1))).setCell ⟨w.heap.size+1,2,none⟩ (.int .u64 0)).setCell ⟨w.heap.size+1,3,none⟩ (.slice A 1 1)).setCell ⟨w.heap.size+1,4,none⟩ (.slice none 0 0))=w4 at R B4 N3 ⊢
 obtain ⟨_,_,z0,z1,z2,z3,z4⟩:=N3.out
 exact bodyPost_ret (v:=.tuple #[.agg #[.int .u64 p,.int .u64 (q+1),.int .u64 0,.slice A 1 1,.slice none 0 0],.bool true]) (by simp [results,Tryz.results252,go_sem,z0,z1,z2,z3,z4]) rfl ⟨A,rfl,R.out,B4.out⟩

theorem endNo1 (p q r:Int) (w:World) (h1:9223372036854775807≤q) :
  Calls Tryz.prog 252 #[.agg #[.int .u64 p,.int .u64 q,.int .u64 r],.int .i64 1] w (NoneZ w):=by
 have HB0:Hid (Below w.heap.size w ((w.alloc (.cells #[.int .u64 p,.int .u64 q,.int .u64 r] 248)).alloc false)):=((Below.refl _ _).alloc (Nat.le_refl _) _).alloc (by simp) _
 go_enter Tryz.func252,Tryz.ntmps252
 go_wp2
 exact bodyPost_ret (v:=.tuple #[.agg #[.int .u64 0,.int .u64 0,.int .u64 0,.slice none 0 0,.slice none 0 0],.bool false]) (by simp [results,Tryz.results252,go_sem]) rfl ⟨rfl,HB0.out⟩

theorem endAt2 (p q r:Int) (w:World) (h0:0≤r) (h1:r<9223372036854775807) :
  Calls Tryz.prog 252 #[.agg #[.int .u64 p,.int .u64 q,.int .u64 r],.int .i64 2] w (EndZ w p q (r+1)):=by
 have HB0:Hid (Below w.heap.size w ((w.alloc (.cells #[.int .u64 p,.int .u64 q,.int .u64 (r+1)] 248)).alloc false)):=((Below.refl _ _).alloc (Nat.le_refl _) _).alloc (by simp) _
 have K1:Hid (At3 ((w.alloc (.cells #[.int .u64 p,.int .u64 q,.int .u64 (r+1)] 248)).alloc false) w.heap.size (.int .u64 p) (.int .u64 q) (.int .u64 (r+1))):=(At3.new w 248 _ _ _).kept ((Below.refl _ _).alloc (Nat.le_refl _) _) (by simp)
 have K2:Hid (At5 ((w.alloc (.cells #[.int .u64 p,.int .u64 q,.int .u64 (r+1)] 248)).alloc false) (w.heap.size+1) (.int .u64 0) (.int .u64 0) (.int .u64 0) (.slice none 0 0) (.slice none 0 0)):=by
  have:=At5.new (w.alloc (.cells #[.int .u64 p,.int .u64 q,.int .u64 (r+1)] 248)) 34 (.int .u64 0) (.int .u64 0) (.int .u64 0) (.slice none 0 0) (.slice none 0 0)
  rw [size_alloc] at this; exact this
 go_enter Tryz.func252,Tryz.ntmps252
 go_upto_region 4 with (fail)
 generalize ((w.alloc (.cells #[.int .u64 p,.int .u64 q,.int .u64 (r+1)] 248)).alloc false)=W at HB0 K1 K2 ⊢
 have hcl:=clear0 W
 go_upto_region 5 with (simp only [hcl])
 have L1:=K1
 have L2:=K2
 have B1:=HB0
 have:∃ W1,W1=W:=⟨_,rfl⟩
 obtain ⟨W1,hW1⟩:=this
 rw [← hW1] at L1 L2 B1 ⊢
 clear hW1
 clear hcl
 clear K1 K2 HB0
 obtain ⟨hz1,_,x0,x1,x2⟩:=L1.out
 obtain ⟨hz2,_,y0,y1,y2,y3,y4⟩:=L2.out
 go_wp2_with fail
 refine (first_int _ _ _ _).mono ?_
 rintro e w3 ⟨A,rfl,hr,hb3⟩
 have N2:=Lib.hid (L2.out.kept hb3 hz2)
 have B3:=Lib.hid (B1.out.trans (hb3.mono (by omega)))
 obtain ⟨hz3,hf,g0,g1,g2,g3,g4⟩:=N2.out
 have R:=Lib.hid (hr.set5 g0 g1 g2 g3 g4 (by simp) (by simp) (by simp) (by simp) (by simp) (.int .u64 p) (.int .u64 q) (.int .u64 (r+1)) (.slice A 1 1) (.slice none 0 0))
 have B4:Hid (Below w.heap.size w (set5 w3 (w.heap.size+1) (.int .u64 p) (.int .u64 q) (.int .u64 (r+1)) (.slice A 1 1) (.slice none 0 0))):=(((((B3.out.setCell (by simp) _).setCell (by simp) _).setCell (by simp) _).setCell (by simp) _).setCell (by simp) _)
 have N3:=Lib.hid (N2.out.set5 (.int .u64 p) (.int .u64 q) (.int .u64 (r+1)) (.slice A 1 1) (.slice none 0 0))
 clear hr hb3 x0 x1 x2 y0 y1 y2 y3 y4
 unfold set5 at B4 N3
 go_wp2
 generalize (((((w3.setCell ⟨w.heap.size+1,0,none⟩ (.int .u64 p)).setCell ⟨w.heap.size+1,1,none⟩ (.int .u64 q)).setCell ⟨w.heap.size+1,2,none⟩ (.int .u64 (r+1))).setCell ⟨w.heap.size+1,3,none⟩ (.slice A 1 1)).setCell ⟨w.heap.size+1,4,none⟩ (.slice none 0 0))=w4 at R B4 N3 ⊢
 obtain ⟨_,_,z0,z1,z2,z3,z4⟩:=N3.out
 exact bodyPost_ret (v:=.tuple #[.agg #[.int .u64 p,.int .u64 q,.int .u64 (r+1),.slice A 1 1,.slice none 0 0],.bool true]) (by simp [results,Tryz.results252,go_sem,z0,z1,z2,z3,z4]) rfl ⟨A,rfl,R.out,B4.out⟩

theorem endNo2 (p q r:Int) (w:World) (h1:9223372036854775807≤r) :
  Calls Tryz.prog 252 #[.agg #[.int .u64 p,.int .u64 q,.int .u64 r],.int .i64 2] w (NoneZ w):=by
 have HB0:Hid (Below w.heap.size w ((w.alloc (.cells #[.int .u64 p,.int .u64 q,.int .u64 r] 248)).alloc false)):=((Below.refl _ _).alloc (Nat.le_refl _) _).alloc (by simp) _
 go_enter Tryz.func252,Tryz.ntmps252
 go_wp2
 exact bodyPost_ret (v:=.tuple #[.agg #[.int .u64 0,.int .u64 0,.int .u64 0,.slice none 0 0,.slice none 0 0],.bool false]) (by simp [results,Tryz.results252,go_sem]) rfl ⟨rfl,HB0.out⟩
end Go.Proofs.YtnpjklaaokiikaaGreatDoor.Prec
