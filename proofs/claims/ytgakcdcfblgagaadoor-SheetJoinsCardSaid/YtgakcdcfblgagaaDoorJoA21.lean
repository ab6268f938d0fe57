/-
  What the theorem of the last text needs of these: ShListD, ShListS, ShIndexP, ShRootsD. Conditions: as each theorem states.
-/
import Derived.Test.YtgakcdcfblgagaaDoorJoA1
import Derived.Test.YtgakcdcfblgagaaDoorJoA16
import Derived.Test.YtgakcdcfblgagaaDoorJoA17
import Derived.Test.YtgakcdcfblgagaaDoorJoA19
import Derived.Test.YtgakcdcfblgagaaDoorJoA20
set_option maxRecDepth 100000
set_option maxHeartbeats 25600000
namespace Go.Proofs.YtgakcdcfblgagaaDoor.Sheet
open Go.RowKit Num Ident Semver Fr
open KR (KRow AtV)
open Range (KeepS LtB From OpsTab)
open Model (PDep PRel PPack PPin MDep MVer MRel MPack MPin DepOk VerOk PinOk RelOk PackOk DRow SPRow RRow PRow)


def fD (ob tb:Nat):Words:=fun s=>if s=wRoot then some (42,#[.pointer (some ⟨ob,0,none⟩),.pointer (some ⟨tb,0,none⟩)]) else none
structure HoldD (B ab mb ob tb:Nat) (st:List PDep) (M:Nat) (W:World) (S:Nat→Prop) (A:Option Addr) (c:Nat) (ds:List MDep):Prop where
 words:WordsAt W mb (fD ob tb)
 own_:AtV W ob [.func (.func 18) #[] #[.pointer (some ⟨ab,0,none⟩)]]
 tell:AtV W tb [.func (.func 11) #[] #[]]
 tab:OpsTab W
 cell:AtV W ab [.slice A ds.length c]
 own:W.ownsRow B 53 8 (.slice A ds.length c) ds.length (ds.flatMap MDep.vals)
 ok:∀ d ∈ ds,DepOk W S d
 is:ds.map MDep.p=st
 sS:∀ g,S g→B≤g∧g<M∧(Value.slice A ds.length c).ownBlock≠some g
 sM:∀ g,(Value.slice A ds.length c).ownBlock=some g→g<M
 le:M≤W.heap.size
 bM:B≤M
 lts:ab<B∧mb<B∧ob<B∧tb<B∧mb≠ab∧ob≠ab∧tb≠ab∧1<B∧1≠ab
section
variable {B ab mb ob tb:Nat} {st:List PDep} {M:Nat} {W W':World} {S:Nat→Prop} {A:Option Addr} {c:Nat} {ds:List MDep}
theorem HoldD.kept (h:HoldD B ab mb ob tb st M W S A c ds) (hb:Below W.heap.size W W'):HoldD B ab mb ob tb st M W' S A c ds :=
 ⟨h.words.kept hb,h.own_.kept hb h.own_.lt,h.tell.kept hb h.tell.lt,h.tab.keep (Range.Keep.of_below hb),h.cell.kept hb h.cell.lt,own_below h.own hb,fun d hd=>(h.ok d hd).keep (KeepS.of_below hb),h.is,h.sS,h.sM,Nat.le_trans h.le hb.size,h.bM,h.lts⟩
theorem HoldD.up (h:HoldD B ab mb ob tb st M W S A c ds) {M':Nat} (h1:M≤M') (h2:M'≤W.heap.size):HoldD B ab mb ob tb st M' W S A c ds :=
 ⟨h.words,h.own_,h.tell,h.tab,h.cell,h.own,h.ok,h.is,fun g e=>⟨(h.sS g e).1,Nat.lt_of_lt_of_le (h.sS g e).2.1 h1,(h.sS g e).2.2⟩,fun g e=>Nat.lt_of_lt_of_le (h.sM g e) h1,h2,Nat.le_trans h.bM h1,h.lts⟩
theorem HoldD.more (h:HoldD B ab mb ob tb st M W S A c ds) {lb:Nat} (hlb:M≤lb) (hll:lb<W.heap.size) {Is:MDep→Prop} {y:PDep} (hIs:∀ x,Is x→x.p=y) (hk:Kept MDep.vals 8 53 DepOk Is W lb B ab 0 (.slice A ds.length c) ds.length ds W') :
  (∃ S' A' c' ds',HoldD B ab mb ob tb (st ++ [y]) W'.heap.size W' S' A' c' ds')∧But (fun g=>(g=ab∨B≤g)∨g=lb) W W':=by
 obtain ⟨x,v',W1,Wa,hx,hok,hb1,hgr,hown,hat,rfl⟩:=hk
 obtain ⟨A',c',rfl⟩:=slice_of hown
 have hle:=h.le
 have hbM:=h.bM
 obtain ⟨q1,q2,q3,q4,q5,q6,q7,q8,q9⟩:=h.lts
 have hz1:=hb1.size
 have k1:But (fun k=>(Value.slice A ds.length c).ownBlock=some k) W1 Wa:=But.of_grown hgr fun b e=>e
 have hza:=k1.size
 have k2:=but_one Wa ab 0 (.slice A' (ds.length+1) c')
 generalize hWW:Wa.setCell ⟨ab,0,none⟩ (.slice A' (ds.length+1) c')=W2 at k2 ⊢
 have hz2:W2.heap.size=Wa.heap.size:=by rw [← hWW]; simp
 have kA:But (fun k=>k=lb∨(Value.slice A ds.length c).ownBlock=some k) W Wa:=(hb1.mono fun k e=>Or.inl e).trans k1 fun k e=>.inl (.inr e)
 have k3:But (fun k=>(k=lb∨(Value.slice A ds.length c).ownBlock=some k)∨k=ab) W W2:=(kA.mono fun k e=>Or.inl e).trans k2 fun k e=>.inl (.inr e)
 have hob:∀ g,(Value.slice A ds.length c).ownBlock=some g→B≤g∧g<M:=fun g e=>⟨(h.own.lt g e).1,h.sM g e⟩
 have low:∀ g,g<B→g≠ab→¬ ((g=lb∨(Value.slice A ds.length c).ownBlock=some g)∨g=ab):=fun g hg hn d=>by
  rcases d with (d | d) | d
  ·omega
  ·have:=(hob g d).1; omega
  ·exact hn d
 let S':Nat→Prop:=fun g=>S g∨(W.heap.size≤g∧g<W1.heap.size)
 have hS':∀ g,S' g→B≤g∧g<W1.heap.size∧(Value.slice A ds.length c).ownBlock≠some g∧g≠lb∧g≠ab:=fun g e=>by
  rcases e with e | e
  ·have:=h.sS g e
   exact ⟨this.1,by omega,this.2.2,by omega,by omega⟩
  ·exact ⟨by omega,e.2,fun d=>by have:=(hob g d).2; omega,by omega,by omega⟩
 have hK1:KeepS S' W1 W2:=keep_oth ((k1.mono fun k e=>Or.inl e).trans k2 fun k e=>.inl (.inr e)) fun g hg d=>by
  rcases d with d | d
  ·exact (hS' g hg).2.2.1 d
  ·exact (hS' g hg).2.2.2.2 d
 have hK0:KeepS S W W1:=keep_oth hb1 fun g hg d=>by have:=h.sS g hg; omega
 refine ⟨⟨S',A',c',ds ++ [x],?_⟩,k3.mono fun g d=>?_⟩
 ·refine ⟨h.words.but k3 (low _ q2 q5),atv_oth h.own_ k3 (low _ q3 q6),atv_oth h.tell k3 (low _ q4 q7),opsTab_oth h.tab k3 (low _ q8 q9),?_,?_,?_,?_,?_,?_,Nat.le_refl _,by omega,h.lts⟩
  ·have:=atv_one (atv_oth (atv_oth h.cell hb1 (by omega)) k1 fun e=>by have:=(hob _ e).1; omega) (.slice A' (ds.length+1) c')
   rw [hWW] at this
   rw [List.length_append]; exact this
  ·rw [List.length_append]
   exact own_but hown k2 fun g e d=>by have:=(hown.lt g e).1; omega
  ·intro d hd
   rcases List.mem_append.1 hd with hd | hd
   ·exact (DepOk.mono (S':=S') ((h.ok d hd).keep hK0) fun g e _=>Or.inl e).keep hK1
   ·obtain rfl:=List.mem_singleton.1 hd
    exact (DepOk.mono (S':=S') hok fun g e _=>Or.inr e).keep hK1
  ·rw [List.map_append,h.is]
   show st ++ [x.p]=_
   rw [hIs x hx]
  ·intro g e
   have:=hS' g e
   refine ⟨this.1,by omega,?_⟩
   rw [List.length_append]
   exact new_ne hat this.2.2.1 this.2.1
  ·intro g e
   rw [List.length_append] at e
   rw [hz2]
   exact (hown.lt g e).2
 ·rcases d with (d | d) | d
  ·exact .inr d
  ·exact .inl (.inr (hob g d).1)
  ·exact .inl (.inl d)
end
theorem ownD_any (ab:Nat) (w:World):Calls Tryd.prog 18 #[.pointer (some ⟨ab,0,none⟩)] w fun e w'=>e=.returned (.pointer (some ⟨ab,0,none⟩))∧Below w.heap.size w w':=by
 go_enter Tryd.func18,Tryd.ntmps18
 go_wp2
 go_ret
 exact ⟨rfl,Below.refl _ _⟩
theorem stepD_no {st:List PDep} {t:List UInt8} (h:wordOf t≠wRoot):(stepG wRoot depOf st t).1=13:=by
 unfold stepG
 rw [if_pos]
 by_cases hk:kindW (wordOf t)=0
 ·rw [readL_none hk]; decide
 ·rw [readL_word hk]; exact h
theorem stepD_yes {st:List PDep} {t:List UInt8} (h:wordOf t=wRoot):stepG wRoot depOf st t=((readL t).e,st ++ [depOf (readL t)]):=by
 unfold stepG
 rw [if_neg]
 intro hne
 exact hne (by rw [readL_word (by rw [h]; decide)]; exact h)
def keepD (B ab mb ob tb b:Nat):Keeper (List PDep) (stepG wRoot depOf) mb b (fun g=>g=ab∨B≤g) where
 Hold st M W:=∃ S A c ds,HoldD B ab mb ob tb st M W S A c ds
 Small k st:=st.length≤k
 Rem W:=∃ v,AtV W ab [v]
 rem:=fun ⟨_,_,_,_,h⟩=>⟨_,h.cell⟩
 kept:=fun ⟨S,A,c,ds,h⟩ hb=>⟨S,A,c,ds,h.kept hb⟩
 lt:=fun ⟨_,_,_,_,h⟩=>h.le
 up:=fun ⟨S,A,c,ds,h⟩ h1 h2=>⟨S,A,c,ds,h.up h1 h2⟩
 more h hk:=Nat.le_trans h hk
 step_:=fun {k s t} h=>by unfold stepG; rw [List.length_append]; simpa using h
 take:=by
  rintro st M lb o n cc k l W ⟨S,A,c,ds,h⟩ hM hln hn hs hbM
  have hll:=hln.at_.lt
  have hm:ds.length≤16777216:=by
   have h1:ds.length=st.length:=by rw [← h.is,List.length_map]
   have h2:=hln.kn
   have h3:st.length≤k:=hs
   omega
  refine take_any mb lb b o n cc l k (fD ob tb) W _ hln h.words (fun hsk W' hb=>?_) (fun hsk hf W' hb=>?_) fun hsk g lbs hf=>?_
  ·exact ⟨0,rfl,by rw [if_pos hsk],fun _=>by rw [if_pos hsk]; exact ⟨S,A,c,ds,(h.kept hb).up (Nat.le_trans h.le hb.size) (Nat.le_refl _)⟩,But.of_same hb _,(LnE.of hln).oth (But.of_same hb fun _=>False) (fun g=>g),⟨_,(h.kept hb).cell⟩⟩
  ·have hw:wordOf (l.drop k)≠wRoot:=fun e=>by unfold fD at hf; rw [if_pos e] at hf; cases hf
   exact ⟨13,rfl,by rw [hsk,if_neg (by decide),stepD_no hw],(fun e=>by cases e),But.of_same hb _,(LnE.of hln).oth (But.of_same hb fun _=>False) (fun g=>g),⟨_,(h.kept hb).cell⟩⟩
  ·have hw:wordOf (l.drop k)=wRoot:=by
    by_cases e:wordOf (l.drop k)=wRoot
    ·exact e
    ·unfold fD at hf; rw [if_neg e] at hf; cases hf
   have he:(g,lbs)=(42,#[.pointer (some ⟨ob,0,none⟩),.pointer (some ⟨tb,0,none⟩)]):=by
    unfold fD at hf; rw [if_pos hw] at hf; injection hf with hf; exact hf.symm
   injection he with e1 e2
   subst e1
   subst e2
   refine ⟨enters_of Tryd.func42 (by kernel_rfl) rfl,fun W1 hb=>?_⟩
   have h1:=h.kept hb
   have hln1:=hln.kept hb
   obtain ⟨q1,q2,q3,q4,q5,q6,q7,q8,q9⟩:=h.lts
   have hbM':=h.bM
   refine (intoD_any lb b o n cc ob tb B ds.length (readL (l.drop k)).e (some (ab,0)) (.slice A ds.length c) ds (fun x=>x.p=depOf (readL (l.drop k))) 18 11 #[.pointer (some ⟨ab,0,none⟩)] #[] W1 h1.own_ h1.tell
    (enters_of Tryd.func18 (by kernel_rfl) rfl) (enters_of Tryd.func11 (by kernel_rfl) rfl)
    (fun W2 _=>ownD_any ab W2)
    (fun _ W2 hb2=>(dep_any lb b o n cc l k W2 (hln1.kept hb2) hn (by rw [hw]; decide) (h1.tab.keep (Range.Keep.of_below hb2)) (by omega)).mono fun e W3 ⟨x,f,h3,h4,h5,h6,h7⟩=>⟨x,by rw [h3,h4],fun h0=>⟨(h5 (h4.trans h0)).1,DepOk.mono (h5 (h4.trans h0)).2 fun g hg hlt=>⟨hg,hlt⟩⟩,h6,h7⟩)
    (fun a ha=>by
     injection ha with ha
     subst ha
     exact ⟨⟨h1.cell.at_ 0 _ rfl,h1.cell.fr 0,h1.own,h1.cell.lt,Nat.le_trans h1.bM h1.le,fun g e=>by have:=(h1.own.lt g e).1; omega⟩,by omega,fun g e=>by have:=h1.sM g e; omega⟩) (by omega) (LnE.of hln1)).mono ?_
   rintro e W3 ⟨hl3,hpost⟩
   have hy:=stepD_yes (st:=st) hw
   rcases hpost with ⟨hq,_⟩ | ⟨a,ha,he,hpost⟩
   ·cases hq
   ·injection ha with ha
    subst ha
    refine ⟨⟨_,he⟩,(readL (l.drop k)).e,he,by rw [hsk,if_neg (by decide),hy],fun h0=>?_,?_,hl3,?_⟩
    ·rw [hsk,if_neg (by decide),hy]
     rcases hpost with ⟨hne,_⟩ | ⟨_,hk⟩
     ·exact absurd h0 hne
     ·exact (h1.more hM (by have:=hb.size; omega) (fun x hx=>hx) hk).1
    ·rcases hpost with ⟨_,hbt⟩ | ⟨_,hk⟩
     ·exact ((But.of_same hb _).trans hbt fun i e=>.inl e).mono fun g e=>.inr e
     ·exact (But.of_same hb _).trans (h1.more hM (by have:=hb.size; omega) (fun x hx=>hx) hk).2 fun i e=>.inl e
    ·rcases hpost with ⟨_,hbt⟩ | ⟨_,hk⟩
     ·exact ⟨_,atv_oth h1.cell hbt (by omega)⟩
     ·obtain ⟨S2,A2,c2,ds2,h2⟩:=(h1.more hM (by have:=hb.size; omega) (fun x hx=>hx) hk).1
      exact ⟨_,h2.cell⟩
end Go.Proofs.YtgakcdcfblgagaaDoor.Sheet
namespace Go.Proofs.YtgakcdcfblgagaaDoor.Sheet
open Go.RowKit Num Ident Semver Fr
open KR (KRow AtV)
open Range (KeepS LtB From)
open Model (PDep PRel PPack PPin MDep MVer MRel MPack MPin DepOk VerOk PinOk RelOk PackOk DRow SPRow RRow PRow)


def fS (ob tb:Nat):Words:=fun s=>if s=wPin then some (47,#[.pointer (some ⟨ob,0,none⟩),.pointer (some ⟨tb,0,none⟩)]) else none
structure HoldS (B ab mb ob tb:Nat) (st:List PPin) (M:Nat) (W:World) (S:Nat→Prop) (A:Option Addr) (c:Nat) (ds:List MPin):Prop where
 words:WordsAt W mb (fS ob tb)
 own_:AtV W ob [.func (.func 23) #[] #[.pointer (some ⟨ab,0,none⟩)]]
 tell:AtV W tb [.func (.func 14) #[] #[]]
 cell:AtV W ab [.slice A ds.length c]
 own:W.ownsRow B 60 6 (.slice A ds.length c) ds.length (ds.flatMap MPin.vals)
 ok:∀ d ∈ ds,PinOk W S d
 is:ds.map MPin.p=st
 sS:∀ g,S g→B≤g∧g<M∧(Value.slice A ds.length c).ownBlock≠some g
 sM:∀ g,(Value.slice A ds.length c).ownBlock=some g→g<M
 le:M≤W.heap.size
 bM:B≤M
 lts:ab<B∧mb<B∧ob<B∧tb<B∧mb≠ab∧ob≠ab∧tb≠ab
section
variable {B ab mb ob tb:Nat} {st:List PPin} {M:Nat} {W W':World} {S:Nat→Prop} {A:Option Addr} {c:Nat} {ds:List MPin}
theorem HoldS.kept (h:HoldS B ab mb ob tb st M W S A c ds) (hb:Below W.heap.size W W'):HoldS B ab mb ob tb st M W' S A c ds :=
 ⟨h.words.kept hb,h.own_.kept hb h.own_.lt,h.tell.kept hb h.tell.lt,h.cell.kept hb h.cell.lt,own_below h.own hb,fun d hd=>(h.ok d hd).keep (KeepS.of_below hb),h.is,h.sS,h.sM,Nat.le_trans h.le hb.size,h.bM,h.lts⟩
theorem HoldS.up (h:HoldS B ab mb ob tb st M W S A c ds) {M':Nat} (h1:M≤M') (h2:M'≤W.heap.size):HoldS B ab mb ob tb st M' W S A c ds :=
 ⟨h.words,h.own_,h.tell,h.cell,h.own,h.ok,h.is,fun g e=>⟨(h.sS g e).1,Nat.lt_of_lt_of_le (h.sS g e).2.1 h1,(h.sS g e).2.2⟩,fun g e=>Nat.lt_of_lt_of_le (h.sM g e) h1,h2,Nat.le_trans h.bM h1,h.lts⟩
theorem HoldS.more (h:HoldS B ab mb ob tb st M W S A c ds) {lb:Nat} (hlb:M≤lb) (hll:lb<W.heap.size) {Is:MPin→Prop} {y:PPin} (hIs:∀ x,Is x→x.p=y) (hk:Kept MPin.vals 6 60 PinOk Is W lb B ab 0 (.slice A ds.length c) ds.length ds W') :
  (∃ S' A' c' ds',HoldS B ab mb ob tb (st ++ [y]) W'.heap.size W' S' A' c' ds')∧But (fun g=>(g=ab∨B≤g)∨g=lb) W W':=by
 obtain ⟨x,v',W1,Wa,hx,hok,hb1,hgr,hown,hat,rfl⟩:=hk
 obtain ⟨A',c',rfl⟩:=slice_of hown
 have hle:=h.le
 have hbM:=h.bM
 obtain ⟨q1,q2,q3,q4,q5,q6,q7⟩:=h.lts
 have hz1:=hb1.size
 have k1:But (fun k=>(Value.slice A ds.length c).ownBlock=some k) W1 Wa:=But.of_grown hgr fun b e=>e
 have hza:=k1.size
 have k2:=but_one Wa ab 0 (.slice A' (ds.length+1) c')
 generalize hWW:Wa.setCell ⟨ab,0,none⟩ (.slice A' (ds.length+1) c')=W2 at k2 ⊢
 have hz2:W2.heap.size=Wa.heap.size:=by rw [← hWW]; simp
 have kA:But (fun k=>k=lb∨(Value.slice A ds.length c).ownBlock=some k) W Wa:=(hb1.mono fun k e=>Or.inl e).trans k1 fun k e=>.inl (.inr e)
 have k3:But (fun k=>(k=lb∨(Value.slice A ds.length c).ownBlock=some k)∨k=ab) W W2:=(kA.mono fun k e=>Or.inl e).trans k2 fun k e=>.inl (.inr e)
 have hob:∀ g,(Value.slice A ds.length c).ownBlock=some g→B≤g∧g<M:=fun g e=>⟨(h.own.lt g e).1,h.sM g e⟩
 have low:∀ g,g<B→g≠ab→¬ ((g=lb∨(Value.slice A ds.length c).ownBlock=some g)∨g=ab):=fun g hg hn d=>by
  rcases d with (d | d) | d
  ·omega
  ·have:=(hob g d).1; omega
  ·exact hn d
 let S':Nat→Prop:=fun g=>S g∨(W.heap.size≤g∧g<W1.heap.size)
 have hS':∀ g,S' g→B≤g∧g<W1.heap.size∧(Value.slice A ds.length c).ownBlock≠some g∧g≠lb∧g≠ab:=fun g e=>by
  rcases e with e | e
  ·have:=h.sS g e
   exact ⟨this.1,by omega,this.2.2,by omega,by omega⟩
  ·exact ⟨by omega,e.2,fun d=>by have:=(hob g d).2; omega,by omega,by omega⟩
 have hK1:KeepS S' W1 W2:=keep_oth ((k1.mono fun k e=>Or.inl e).trans k2 fun k e=>.inl (.inr e)) fun g hg d=>by
  rcases d with d | d
  ·exact (hS' g hg).2.2.1 d
  ·exact (hS' g hg).2.2.2.2 d
 have hK0:KeepS S W W1:=keep_oth hb1 fun g hg d=>by have:=h.sS g hg; omega
 refine ⟨⟨S',A',c',ds ++ [x],?_⟩,k3.mono fun g d=>?_⟩
 ·refine ⟨h.words.but k3 (low _ q2 q5),atv_oth h.own_ k3 (low _ q3 q6),atv_oth h.tell k3 (low _ q4 q7),?_,?_,?_,?_,?_,?_,Nat.le_refl _,by omega,h.lts⟩
  ·have:=atv_one (atv_oth (atv_oth h.cell hb1 (by omega)) k1 fun e=>by have:=(hob _ e).1; omega) (.slice A' (ds.length+1) c')
   rw [hWW] at this
   rw [List.length_append]; exact this
  ·rw [List.length_append]
   exact own_but hown k2 fun g e d=>by have:=(hown.lt g e).1; omega
  ·intro d hd
   rcases List.mem_append.1 hd with hd | hd
   ·exact (pin_mono (S':=S') ((h.ok d hd).keep hK0) fun g e _=>Or.inl e).keep hK1
   ·obtain rfl:=List.mem_singleton.1 hd
    exact (pin_mono (S':=S') hok fun g e _=>Or.inr e).keep hK1
  ·rw [List.map_append,h.is]
   show st ++ [x.p]=_
   rw [hIs x hx]
  ·intro g e
   have:=hS' g e
   refine ⟨this.1,by omega,?_⟩
   rw [List.length_append]
   exact new_ne hat this.2.2.1 this.2.1
  ·intro g e
   rw [List.length_append] at e
   rw [hz2]
   exact (hown.lt g e).2
 ·rcases d with (d | d) | d
  ·exact .inr d
  ·exact .inl (.inr (hob g d).1)
  ·exact .inl (.inl d)
end
theorem ownS_any (ab:Nat) (w:World):Calls Tryd.prog 23 #[.pointer (some ⟨ab,0,none⟩)] w fun e w'=>e=.returned (.pointer (some ⟨ab,0,none⟩))∧Below w.heap.size w w':=by
 go_enter Tryd.func23,Tryd.ntmps23
 go_wp2
 go_ret
 exact ⟨rfl,Below.refl _ _⟩
theorem stepS_no {st:List PPin} {t:List UInt8} (h:wordOf t≠wPin):(stepG wPin pinOf st t).1=13:=by
 unfold stepG
 rw [if_pos]
 by_cases hk:kindW (wordOf t)=0
 ·rw [readL_none hk]; decide
 ·rw [readL_word hk]; exact h
theorem stepS_yes {st:List PPin} {t:List UInt8} (h:wordOf t=wPin):stepG wPin pinOf st t=((readL t).e,st ++ [pinOf (readL t)]):=by
 unfold stepG
 rw [if_neg]
 intro hne
 exact hne (by rw [readL_word (by rw [h]; decide)]; exact h)
def keepS (B ab mb ob tb b:Nat):Keeper (List PPin) (stepG wPin pinOf) mb b (fun g=>g=ab∨B≤g) where
 Hold st M W:=∃ S A c ds,HoldS B ab mb ob tb st M W S A c ds
 Small k st:=st.length≤k
 Rem W:=∃ v,AtV W ab [v]
 rem:=fun ⟨_,_,_,_,h⟩=>⟨_,h.cell⟩
 kept:=fun ⟨S,A,c,ds,h⟩ hb=>⟨S,A,c,ds,h.kept hb⟩
 lt:=fun ⟨_,_,_,_,h⟩=>h.le
 up:=fun ⟨S,A,c,ds,h⟩ h1 h2=>⟨S,A,c,ds,h.up h1 h2⟩
 more h hk:=Nat.le_trans h hk
 step_:=fun {k s t} h=>by unfold stepG; rw [List.length_append]; simpa using h
 take:=by
  rintro st M lb o n cc k l W ⟨S,A,c,ds,h⟩ hM hln hn hs hbM
  have hll:=hln.at_.lt
  have hm:ds.length≤16777216:=by
   have h1:ds.length=st.length:=by rw [← h.is,List.length_map]
   have h2:=hln.kn
   have h3:st.length≤k:=hs
   omega
  refine take_any mb lb b o n cc l k (fS ob tb) W _ hln h.words (fun hsk W' hb=>?_) (fun hsk hf W' hb=>?_) fun hsk g lbs hf=>?_
  ·exact ⟨0,rfl,by rw [if_pos hsk],fun _=>by rw [if_pos hsk]; exact ⟨S,A,c,ds,(h.kept hb).up (Nat.le_trans h.le hb.size) (Nat.le_refl _)⟩,But.of_same hb _,(LnE.of hln).oth (But.of_same hb fun _=>False) (fun g=>g),⟨_,(h.kept hb).cell⟩⟩
  ·have hw:wordOf (l.drop k)≠wPin:=fun e=>by unfold fS at hf; rw [if_pos e] at hf; cases hf
   exact ⟨13,rfl,by rw [hsk,if_neg (by decide),stepS_no hw],(fun e=>by cases e),But.of_same hb _,(LnE.of hln).oth (But.of_same hb fun _=>False) (fun g=>g),⟨_,(h.kept hb).cell⟩⟩
  ·have hw:wordOf (l.drop k)=wPin:=by
    by_cases e:wordOf (l.drop k)=wPin
    ·exact e
    ·unfold fS at hf; rw [if_neg e] at hf; cases hf
   have he:(g,lbs)=(47,#[.pointer (some ⟨ob,0,none⟩),.pointer (some ⟨tb,0,none⟩)]):=by
    unfold fS at hf; rw [if_pos hw] at hf; injection hf with hf; exact hf.symm
   injection he with e1 e2
   subst e1
   subst e2
   refine ⟨enters_of Tryd.func47 (by kernel_rfl) rfl,fun W1 hb=>?_⟩
   have h1:=h.kept hb
   have hln1:=hln.kept hb
   obtain ⟨q1,q2,q3,q4,q5,q6,q7⟩:=h.lts
   have hbM':=h.bM
   refine (intoS_any lb b o n cc ob tb B ds.length (readL (l.drop k)).e (some (ab,0)) (.slice A ds.length c) ds (fun x=>x.p=pinOf (readL (l.drop k))) 23 14 #[.pointer (some ⟨ab,0,none⟩)] #[] W1 h1.own_ h1.tell
    (enters_of Tryd.func23 (by kernel_rfl) rfl) (enters_of Tryd.func14 (by kernel_rfl) rfl)
    (fun W2 _=>ownS_any ab W2)
    (fun _ W2 hb2=>(pin_any lb b o n cc l k W2 (hln1.kept hb2) hn (by rw [hw]; decide)).mono fun e W3 ⟨x,f,h3,h4,h5,h6,h7⟩=>⟨x,by rw [h3,h4],fun h0=>⟨(h5 (h4.trans h0)).1,pin_mono (h5 (h4.trans h0)).2 fun g hg hlt=>⟨hg,hlt⟩⟩,h6,h7⟩)
    (fun a ha=>by
     injection ha with ha
     subst ha
     exact ⟨⟨h1.cell.at_ 0 _ rfl,h1.cell.fr 0,h1.own,h1.cell.lt,Nat.le_trans h1.bM h1.le,fun g e=>by have:=(h1.own.lt g e).1; omega⟩,by omega,fun g e=>by have:=h1.sM g e; omega⟩) (by omega) (LnE.of hln1)).mono ?_
   rintro e W3 ⟨hl3,hpost⟩
   have hy:=stepS_yes (st:=st) hw
   rcases hpost with ⟨hq,_⟩ | ⟨a,ha,he,hpost⟩
   ·cases hq
   ·injection ha with ha
    subst ha
    refine ⟨⟨_,he⟩,(readL (l.drop k)).e,he,by rw [hsk,if_neg (by decide),hy],fun h0=>?_,?_,hl3,?_⟩
    ·rw [hsk,if_neg (by decide),hy]
     rcases hpost with ⟨hne,_⟩ | ⟨_,hk⟩
     ·exact absurd h0 hne
     ·exact (h1.more hM (by have:=hb.size; omega) (fun x hx=>hx) hk).1
    ·rcases hpost with ⟨_,hbt⟩ | ⟨_,hk⟩
     ·exact ((But.of_same hb _).trans hbt fun i e=>.inl e).mono fun g e=>.inr e
     ·exact (But.of_same hb _).trans (h1.more hM (by have:=hb.size; omega) (fun x hx=>hx) hk).2 fun i e=>.inl e
    ·rcases hpost with ⟨_,hbt⟩ | ⟨_,hk⟩
     ·exact ⟨_,atv_oth h1.cell hbt (by omega)⟩
     ·obtain ⟨S2,A2,c2,ds2,h2⟩:=(h1.more hM (by have:=hb.size; omega) (fun x hx=>hx) hk).1
      exact ⟨_,h2.cell⟩
end Go.Proofs.YtgakcdcfblgagaaDoor.Sheet
namespace Go.Proofs.YtgakcdcfblgagaaDoor.Sheet
open Go.RowKit Num Ident Semver Fr
open KR (KRow AtV)
open Range (KeepS LtB From OpsTab)
open Model (PDep PRel PPack PPin MDep MVer MRel MPack MPin DepOk VerOk PinOk RelOk PackOk DRow SPRow RRow PRow)

theorem packok_new {w:World} {S:Nat→Prop} {nm:List UInt8} (h:nm.length≤maxLen):PackOk w S ⟨nm,none,0,[]⟩ :=
 ⟨h,⟨KRow.none_ _ _ _,fun d hd=>by cases hd⟩,⟨Nat.le_refl _,by show 0≤maxLen; unfold maxLen; omega⟩,fun _=>rfl⟩
theorem step_pack {st:List PPack} {t:List UInt8} (hw:wordOf t=wPackage):stepX st t=((readL t).e,st ++ [⟨(readL t).name,[]⟩]):=by
 have hl:(readL t).w=wPackage:=by rw [readL_word (by rw [hw]; decide)]; exact hw
 unfold stepX addX
 rw [hl,badX_pack,if_neg (by decide),if_pos rfl]
theorem takeX_pack {s xb B:Nat} {st:List PPack} {M:Nat} {W:World} {S:Nat→Prop} {A:Option Addr} {c:Nat} {ps:List MPack} {op:Option MPack} {rs:List MRel} {q:Option MRel} (h:HoldX s xb B st M W S A c ps op rs q) {lb b oo n cc k:Nat} {l:List UInt8} (hM:M≤lb) (hln:Ln W lb b oo n cc l k) (hn:n≤16777216) (hw:wordOf (l.drop k)=wPackage) (hsm:SmallX k st) :
  Calls Tryd.prog 53 #[ptrV lb,ptrV (s+2),ptrV (s+3)] W (PostX s xb B st (l.drop k) lb b oo n cc W):=by
 have h1:=h.xs; have h2:=h.sB; have h3:=h.ox; have h4:=h.bM
 have hll:=hln.at_.lt
 have hkn:=hln.kn
 have hlen:(ps ++ op.toList).length=st.length:=by rw [← h.is,List.length_map]
 have hsl:=hsm.len
 have hst:=step_pack (st:=st) hw
 refine (intoP_any lb b oo n cc (s+2) (s+3) B (ps ++ op.toList).length (readL (l.drop k)).e (some (xb,0)) (.slice A (ps ++ op.toList).length c) (ps ++ op.toList) (fun x=>x=⟨(readL (l.drop k)).name,none,0,[]⟩∧x.name.length≤maxLen) 30 39 #[ptrV s] #[] W h.stat.o1 h.stat.t1
  (enters_of Tryd.func30 (by kernel_rfl) rfl) (enters_of Tryd.func39 (by kernel_rfl) rfl)
  (fun W2 hb=>own1_any (h.stat.cx.kept hb h.stat.cx.lt))
  (fun _ W2 hb2=>(pack_any lb b oo n cc l k W2 (hln.kept hb2) hn (by rw [hw]; decide)).mono fun e W3 ⟨x,f,h3,h4,h5,h6,h7⟩=>⟨x,by rw [h3,h4],fun h0=>⟨h5 (h4.trans h0),by rw [(h5 (h4.trans h0)).1]; exact packok_new (by have:=(h5 (h4.trans h0)).2; rw [(h5 (h4.trans h0)).1] at this; exact this)⟩,h6,h7⟩)
  (fun a ha=>by
   injection ha with ha
   subst ha
   exact ⟨⟨h.tree.cell.at_ 0 _ rfl,h.tree.cell.fr 0,h.tree.own,h.tree.cell.lt,Nat.le_trans h4 h.tree.le,fun g e=>by have:=(h.tree.own.lt g e).1; omega⟩,by omega,fun g e=>by have:=h.tree.pM g e; omega⟩) (by omega) (LnE.of hln)).mono ?_
 rintro e W3 ⟨hl3,hpost⟩
 rcases hpost with ⟨hq,_⟩ | ⟨a,ha,he,hpost⟩
 ·cases hq
 ·injection ha with ha
  subst ha
  subst he
  rcases hpost with ⟨hne,hbt⟩ | ⟨h0,hk⟩
  ·exact PostX.bad (by rw [hst]) hne hbt hl3 ⟨_,h.tree.cell⟩ (by omega)
  ·have hkb:=kept_but hk
   obtain ⟨x,v',W1,Wa,⟨hx,hxl⟩,_,hb1,hgr,hown,hat,rfl⟩:=hk
   subst hx
   have t1:=h.tree.but hb1 (fun g _ hg e=>by omega) (by omega)
   have hz1:=hb1.size
   have hza:=hgr.size
   obtain ⟨S',A',c',ht⟩:=t1.addPack (readL (l.drop k)).name hxl hown hgr hat
   have hg:PostX s xb B st (l.drop k) lb b oo n cc W (.returned (.int .i64 0)) (Wa.setCell ⟨xb,0,none⟩ v'):=by
    refine PostX.good h hM hkb (fun g e=>?_) hl3 ht (by simp) (by omega) (by rw [hst]; exact h0) ?_ (fun _=>rfl)
    ·rcases e with (e | e) | e
     ·exact .inl e
     ·exact .inr (.inr ⟨(h.tree.own.lt g e).1,h.tree.pM g e⟩)
     ·exact .inr (.inl e)
    ·rw [hst]
     show ((ps ++ op.toList) ++ [_]).map MPack.p=st ++ [_]
     rw [List.map_append,h.is]; rfl
   rw [h0]; exact hg
end Go.Proofs.YtgakcdcfblgagaaDoor.Sheet
namespace Go.Proofs.YtgakcdcfblgagaaDoor.Sheet
open Go.RowKit Num Ident Semver Fr
open KR (KRow AtV)
open Range (KeepS LtB From OpsTab)
open Go.Maps (Keyed IsMap)
open Model (PDep PRel PPack PPin MDep MVer MRel MPack MPin DepOk VerOk PinOk RelOk PackOk DRow SPRow RRow PRow)

def PostD (l:List UInt8) (w:World) (e:Ending) (w':World):Prop :=
 ∃ (A:Option Addr) (c:Nat) (ds:List MDep) (q:Int),e=.returned (.tuple #[.slice A ds.length c,.int .i64 q,.int .i64 (((rootsB l).1:Nat):Int)])∧ds.map MDep.p=(rootsB l).2∧DRow w' (LtB w'.heap.size) A ds.length ds∧ds.length≤c∧c≤maxLen∧(A=none→c=0)∧Below w.heap.size w w'
theorem runD {l:List UInt8} (hl:l.length≤16777216):(rootsB l).1=(runT (stepG wRoot depOf) [] l).1∧((rootsB l).1=0→(rootsB l).2=(runT (stepG wRoot depOf) [] l).2)∧((rootsB l).1≠0→(rootsB l).2=[]):=by
 unfold rootsB
 rw [if_neg (by omega)]
 have h:=linesG_run wRoot depOf (linesOf l) []
 exact ⟨h.1,fun h0=>h.2 (h.1.symm.trans h0),linesG_none wRoot depOf (linesOf l) []⟩
theorem mapD {W:World} {mb m:Nat} {D:DataW Value} (hm:m≤99) (h:W.ownsMap Tryd.prog 9 fnElem mb (m+1) D) {f:Words} (hD:IsMap D∧(∀ n,Maps.has D (.string n)=(f n).isSome)∧∀ n g' lb',f n=some (g',lb')→∀ z,D.atKey (.string n) z=.held (.func (.func g') #[] lb')):WordsAt W mb f :=
 ⟨D,m+1,by omega,h,hD⟩
theorem listD_any (A0:Option Addr) (n c0:Nat) (l:List UInt8) (w:World) (hr:Row w A0 n l) (hn:n≤16777216) (hc:n≤c0) (hm:c0≤maxLen) (ht:OpsTab w) (hgl:1<w.heap.size) :
  Calls Tryd.prog 10 #[.slice A0 n c0,.string (Ident.mk wRoot),.func (.func 11) #[] #[]] w (PostD l w):=by
 have HR:=Lib.hid hr
 have hln:l.length=n:=hr.1
 have HRUN:=Lib.hid (runD (l:=l) (by omega))
 have H0:Hid (Below w.heap.size w ((w.alloc (.cells #[.slice none 0 0] 24)).alloc (.map #[] 0))):=((Below.refl _ _).alloc (Nat.le_refl _) _).alloc (by simp) _
 have HAB:Hid (AtV ((w.alloc (.cells #[.slice none 0 0] 24)).alloc (.map #[] 0)) w.heap.size [.slice none 0 0]):=(AtV.new w _ _).kept ((Below.refl _ _).alloc (Nat.le_refl _) _) (by simp)
 have HMB:Hid (World.ownsMap ((w.alloc (.cells #[.slice none 0 0] 24)).alloc (.map #[] 0)) Tryd.prog 9 fnElem (w.heap.size+1) 0 (.map [])):=by
  have:=World.ownsMap_made (H:=Value) (w.alloc (.cells #[.slice none 0 0] 24)) Tryd.prog 9 fnElem
  rw [size_alloc] at this; exact this
 have hz0:((w.alloc (.cells #[.slice none 0 0] 24)).alloc (.map #[] 0)).heap.size=w.heap.size+2:=by simp
 have hkey:keyOf Tryd.prog 9 (.string (Ident.mk wRoot))=some (.string wRoot):=by have:=strKey (s:=Ident.mk wRoot) (by decide); rwa [mk_list] at this
 have HT:=Lib.hid ht
 clear ht
 clear hr
 obtain ⟨ab,hab⟩:∃ ab,w.heap.size=ab:=⟨_,rfl⟩
 have HE:=Lib.hid hab
 have hmm:=@run_makeMap Tryd.prog
 go_enter Tryd.func10,Tryd.ntmps10
 go_wp2_with fail
 generalize (w.alloc (.cells #[.slice none 0 0] 24)).alloc (.map #[] 0)=w1 at H0 HAB HMB hz0 ⊢
 rw [hab] at HAB HMB hz0
 clear hab hmm
 refine (makeD_any _ _ _ _ w1).mono ?_
 rintro e w2 ⟨rfl,ho,ht2,hb,hz2⟩
 have HO:=Lib.hid ho
 have HT2:=Lib.hid ht2
 have HB2:=Lib.hid hb
 have HA2:=Lib.hid (HAB.out.kept hb HAB.out.lt)
 have HM2:=Lib.hid (map_but HMB.out (But.of_same hb fun _=>False) fun g=>g)
 rw [hz0] at HO HT2 ⊢
 clear ho ht2 hb
 have HAD:=Lib.hid (words_add (D:=.map []) (f:=fun _=>none) (s:=wRoot) (g:=42) (lb:=#[.pointer (some ⟨ab+2,0,none⟩),.pointer (some ⟨ab+2+1,0,none⟩)]) Go.Maps.isMap_empty (fun s=>by simp [Maps.has]) (fun s g lb h=>by cases h))
 go_wp2_with (refine wpList_insert_own _ rfl _ _ _ 67 rfl 9 72 strKeyed Tryd.underlying67 fnElem (ab+1) 0 (.map []) rfl HM2.out (by unfold maxLen; omega) _ _ _ rfl rfl hkey (.held (.func (.func 42) #[] #[.pointer (some ⟨ab+2,0,none⟩),.pointer (some ⟨ab+2+1,0,none⟩)])) [] rfl ?_)
 intro w3 hown3 hgrow3
 have HM3:Hid (But (fun k=>k=ab+1) w2 w3):=But.of_grown (T:=fun k=>k=ab+1) hgrow3 fun b e=>by cases e; rfl
 have HW3:Hid (WordsAt w3 (ab+1) (fD (ab+2) (ab+2+1))):=mapD (by omega) hown3 HAD.out
 have HO3:=Lib.hid (atv_oth HO.out HM3.out (by omega))
 have HT3:=Lib.hid (atv_oth HT2.out HM3.out (by omega))
 have HA3:=Lib.hid (atv_oth HA2.out HM3.out (by omega))
 have HB3:Hid (Below w.heap.size w w3):=by
  have h1:Below w.heap.size w w2:=H0.out.trans (HB2.out.mono (by have:=H0.out.size; omega))
  exact h1.trans (HM3.out.below (B:=w.heap.size) (fun k e=>by have:=HE.out; omega) h1.size)
 have hz3:ab+2+2≤w3.heap.size:=by have:=HM3.out.size; omega
 clear hown3 hgrow3 hkey HAD HB2 HO HT2 HA2 HM2 HMB HAB
 obtain ⟨E,hE⟩:∃ E,(rootsB l).1=E:=⟨_,rfl⟩
 have HEE:=Lib.hid hE
 obtain ⟨Bz,hBz⟩:∃ Bz,w3.heap.size=Bz:=⟨_,rfl⟩
 have HBZ:=Lib.hid hBz
 have HTT:=Lib.hid (HT.out.keep (Range.Keep.of_below HB3.out))
 have hgl2:1<ab:=by have:=HE.out; omega
 have HH0:Hid (HoldD Bz ab (ab+1) (ab+2) (ab+2+1) [] Bz w3 (fun _=>False) none 0 []) :=
  ⟨HW3.out,HO3.out,HT3.out,HTT.out,HA3.out,World.ownsRow_nil _ _ _ _,(fun d hd=>by cases hd),rfl,(fun g e=>e.elim),(fun g e=>by cases e),by omega,Nat.le_refl _,⟨by omega,by omega,by omega,by omega,by omega,by omega,by omega,by omega,by omega⟩⟩
 have HREAD:Hid (Calls Tryd.prog 16 #[.slice A0 n c0,.map (some (ab+1))] w3 fun e w'=>∃ q:Int,e=.returned (.tuple #[.int .i64 q,.int .i64 E])∧(E=0→∃ S A c ds M,HoldD Bz ab (ab+1) (ab+2) (ab+2+1) (rootsB l).2 M w' S A c ds)∧(∃ v,AtV w' ab [v])∧But (fun g=>g=ab∨Bz≤g) w3 w'):=by
  rcases Nat.eq_zero_or_pos n with h0 | h0
  ·have hnil:l=[]:=List.eq_nil_of_length_eq_zero (by omega)
   subst h0
   refine (read_zero A0 c0 (ab+1) w3).mono ?_
   rintro e w' ⟨rfl,rfl⟩
   have hE0:E=0:=by rw [← hE,hnil]; rfl
   refine ⟨0,by rw [hE0]; rfl,fun _=>⟨(fun _=>False),none,0,[],Bz,?_⟩,⟨_,HA3.out⟩,But.refl _ _⟩
   rw [hnil]; exact HH0.out
  ·obtain ⟨b,o,rfl,hbl,_⟩:=HR.out.2.2 h0
   have hr3:=HR.out.kept HB3.out
   have hbab:b<ab:=by have:=HE.out; omega
   refine (read_lines (keepD Bz ab (ab+1) (ab+2) (ab+2+1) b) [] Bz o n c0 l w3 hr3 hn hc hm ⟨_,_,_,_,HH0.out⟩ (Nat.zero_le _) (by rintro (h | h) <;> omega) (by omega)).mono ?_
   rintro e w' ⟨q,rfl,hq,hbt,hv⟩
   refine ⟨q,by rw [← HRUN.out.1,hE],fun h=>?_,hv,hbt⟩
   obtain ⟨_,S,A,c,ds,hh⟩:=hq (by rw [← HRUN.out.1,hE,h])
   have h2:=HRUN.out.2.1 (by rw [hE,h])
   exact ⟨S,A,c,ds,_,by rw [h2]; exact hh⟩
 have hBab:ab<Bz:=by omega
 clear hE hBz
 go_wp2_with fail
 refine HREAD.out.mono ?_
 rintro e w4 ⟨q,rfl,h0,⟨v,hv⟩,hbt⟩
 have HH:=Lib.hid h0
 have HV:=Lib.hid hv
 have HBT:=Lib.hid hbt
 clear h0 hbt
 have f0:=hv.fr 0
 by_cases hE0:E=0
 ·have hEb:((E:Int) != 0)=false:=by rw [hE0]; rfl
  obtain ⟨S,A,c,ds,M,hh⟩:=HH.out hE0
  have HHH:=Lib.hid hh
  have HE0:=Lib.hid hE0
  have c0':=hh.cell.at_ 0 _ rfl
  clear hh hE0 hv
  go_wp2
  have HK:Hid (But (fun g=>g=ab) w4 (w4.setCell ⟨ab,0,none⟩ (.slice A ds.length c))):=but_one w4 ab 0 _
  have HV5:Hid (AtV (w4.setCell ⟨ab,0,none⟩ (.slice A ds.length c)) ab [.slice A ds.length c]):=atv_one HHH.out.cell _
  generalize w4.setCell ⟨ab,0,none⟩ (.slice A ds.length c)=w5 at HK HV5 ⊢
  clear c0' f0
  have c0':=HV5.out.at_ 0 _ rfl
  have hown:w5.ownsRow Bz 53 8 (.slice A ds.length c) ds.length (ds.flatMap MDep.vals):=own_but HHH.out.own HK.out fun g e d=>by have:=(HHH.out.own.lt g e).1; omega
  have hlt:∀ g,(Value.slice A ds.length c).ownBlock=some g→g<w5.heap.size:=fun g e=>(hown.lt g e).2
  have hcaps:=own_caps hown
  have hrow:DRow w5 (LtB w5.heap.size) A ds.length ds:=⟨krow_own Model.dep_len hown rfl hlt,fun d hd=>DepOk.mono ((HHH.out.ok d hd).keep (keep_oth HK.out fun g hg e=>by have:=(HHH.out.sS g hg).1; omega)) fun g hg _=>by have:=(HHH.out.sS g hg).2.1; have:=HHH.out.le; have:=HK.out.size; show g<_; omega⟩
  have hbel:Below w.heap.size w w5:=(HB3.out.trans (HBT.out.below (B:=w.heap.size) (fun k e=>by have:=HE.out; rcases e with e | e <;> omega) HB3.out.size)).trans (HK.out.below (B:=w.heap.size) (fun k e=>by have:=HE.out; omega) (by have:=HBT.out.size; have:=HB3.out.size; omega))
  have hpost:PostD l w (.returned (.tuple #[.slice A ds.length c,.int .i64 0,.int .i64 0])) w5:=⟨A,c,ds,0,by rw [HEE.out,HE0.out]; rfl,HHH.out.is,hrow,hcaps.1,hcaps.2.1,hcaps.2.2,hbel⟩
  exact bodyPost_ret (v:=.tuple #[.slice A ds.length c,.int .i64 0,.int .i64 0]) (by simp [results,Tryd.results10,go_sem,c0']) rfl hpost
 ·have hEb:((E:Int) != 0)=true:=by simp [hE0]
  have c0':=hv.at_ 0 _ rfl
  have HE0:=Lib.hid hE0
  clear hE0 hv
  go_wp2
  have HK:Hid (But (fun g=>g=ab) w4 (w4.setCell ⟨ab,0,none⟩ (.slice none 0 0))):=but_one w4 ab 0 _
  have HV5:Hid (AtV (w4.setCell ⟨ab,0,none⟩ (.slice none 0 0)) ab [.slice none 0 0]):=atv_one HV.out _
  generalize w4.setCell ⟨ab,0,none⟩ (.slice none 0 0)=w5 at HK HV5 ⊢
  clear c0' f0
  have c0':=HV5.out.at_ 0 _ rfl
  have hbel:Below w.heap.size w w5:=(HB3.out.trans (HBT.out.below (B:=w.heap.size) (fun k e=>by have:=HE.out; rcases e with e | e <;> omega) HB3.out.size)).trans (HK.out.below (B:=w.heap.size) (fun k e=>by have:=HE.out; omega) (by have:=HBT.out.size; have:=HB3.out.size; omega))
  have hpost:PostD l w (.returned (.tuple #[.slice none 0 0,.int .i64 q,.int .i64 E])) w5:=⟨none,0,[],q,by rw [HEE.out]; rfl,(HRUN.out.2.2 (by rw [HEE.out]; exact HE0.out)).symm,⟨KRow.none_ _ _ _,fun d hd=>by cases hd⟩,Nat.le_refl _,by unfold maxLen; omega,(fun _=>rfl),hbel⟩
  exact bodyPost_ret (v:=.tuple #[.slice none 0 0,.int .i64 q,.int .i64 E]) (by simp [results,Tryd.results10,go_sem,c0']) rfl hpost
theorem readRoots_any (A0:Option Addr) (n c0:Nat) (l:List UInt8) (w:World) (hr:Row w A0 n l) (hn:n≤16777216) (hc:n≤c0) (hm:c0≤maxLen) (ht:OpsTab w) (hgl:1<w.heap.size) :
  Calls Tryd.prog 5 #[.slice A0 n c0] w (PostD l w):=by
 have hcon:=listD_any A0 n c0 l w hr hn hc hm ht hgl
 clear hr
 have hw:(Ident.mk wRoot)=⟨#[114,111,111,116]⟩:=rfl
 rw [hw] at hcon
 go_enter Tryd.func5,Tryd.ntmps5
 go_wp2_with fail
 refine hcon.mono ?_
 rintro e w' ⟨A,c,ds,q,rfl,h⟩
 have H:=Lib.hid h
 clear h hcon
 go_wp2
 go_ret3
 exact ⟨A,c,ds,q,rfl,H.out⟩
end Go.Proofs.YtgakcdcfblgagaaDoor.Sheet
