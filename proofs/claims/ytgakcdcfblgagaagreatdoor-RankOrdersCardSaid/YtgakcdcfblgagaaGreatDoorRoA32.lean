/-
  What the theorem of the last text needs of these: MoPlainM, RkMath, MoPlainW, RkTab. Conditions: as each theorem states.
-/
import Derived.Test.YtgakcdcfblgagaaGreatDoorRoA1
import Derived.Test.YtgakcdcfblgagaaGreatDoorRoA2
import Derived.Test.YtgakcdcfblgagaaGreatDoorRoA3
import Derived.Test.YtgakcdcfblgagaaGreatDoorRoA19
import Derived.Test.YtgakcdcfblgagaaGreatDoorRoA20
import Derived.Test.YtgakcdcfblgagaaGreatDoorRoA24
import Derived.Test.YtgakcdcfblgagaaGreatDoorRoA28
import Derived.Test.YtgakcdcfblgagaaGreatDoorRoA31
import Derived.Maps.OwnOps
set_option maxRecDepth 100000
set_option maxHeartbeats 25600000
namespace Go.Proofs.YtgakcdcfblgagaaGreatDoor.Copy
open Go.RowKit Num Ident Semver Fr
open Range (Rng noRng RV Lies RgRow CellsAt KeepS LtB InS FitV)
open KR (KRow AtV)
open Model (MDep MVer MRel MPack PPack PRel DepOk VerOk RelOk PackOk DRow RRow PRow FewD FewRel FewX SlOk SortOf PlainOf relLe packLe)
inductive All2 {α:Type} (R:α→α→Prop):List α→List α→Prop
 | nil:All2 R [] []
 | cons {a b:α} {l m:List α}:R a b→All2 R l m→All2 R (a :: l) (b :: m)
theorem All2.of {α:Type} [Inhabited α] {R:α→α→Prop}:∀ {l m:List α},m.length=l.length→(∀ j,j<l.length→R (l.getD j default) (m.getD j default))→All2 R l m
 | [],[],_,_=>.nil
 | [],b :: m,h,_=>by simp at h
 | a :: l,[],h,_=>by simp at h
 | a :: l,b :: m,h,hr=>.cons (hr 0 (by simp)) (All2.of (by simpa using h) fun j hj=>hr (j+1) (by simpa using hj))
theorem All2.len {α:Type} {R:α→α→Prop} {l m:List α} (h:All2 R l m):m.length=l.length:=by
 induction h with
 | nil=>rfl
 | cons _ _ ih=>simp [ih]
theorem All2.get {α:Type} [Inhabited α] {R:α→α→Prop}:∀ {l m:List α},All2 R l m→∀ j,j<l.length→R (l.getD j default) (m.getD j default)
 | _,_,.nil,j,hj=>by simp at hj
 | _,_,.cons h _,0,_=>h
 | _,_,.cons _ t,j+1,hj=>All2.get t j (by simpa using hj)
theorem All2.map {α β:Type} {R:α→α→Prop} {f:α→β} (hf:∀ a b,R a b→f b=f a) {l m:List α} (h:All2 R l m):m.map f=l.map f:=by
 induction h with
 | nil=>rfl
 | cons h _ ih=>simp [ih,hf _ _ h]
theorem perm_rel {α:Type} {R:α→α→Prop} {l x:List α} (hp:l.Perm x):∀ {m:List α},All2 R l m→∃ z,All2 R x z∧m.Perm z:=by
 induction hp with
 | nil=>intro m h; exact ⟨m,h,List.Perm.refl _⟩
 | cons a _ ih =>
  intro m h
  cases h with
  | cons h1 h2 =>
   obtain ⟨z,hz,hm⟩:=ih h2
   exact ⟨_ :: z,.cons h1 hz,hm.cons _⟩
 | swap a b l =>
  intro m h
  cases h with
  | cons h1 h2 =>
   cases h2 with
   | cons h3 h4=>exact ⟨_,.cons h3 (.cons h1 h4),List.Perm.swap _ _ _⟩
 | trans _ _ ih1 ih2 =>
  intro m h
  obtain ⟨z,hz,hm⟩:=ih1 h
  obtain ⟨z',hz',hm'⟩:=ih2 hz
  exact ⟨z',hz',hm.trans hm'⟩
def Made (p q:MPack):Prop:=q.name=p.name∧SortOf relLe (p.rels.map MRel.p) (q.rels.map MRel.p)
theorem names_up {l m:List MPack} (h:m.map MPack.name=l.map MPack.name) (hl:l.Pairwise nameLe):m.Pairwise nameLe:=by
 have h1:(l.map MPack.name).Pairwise fun u v=>¬ v<u:=List.pairwise_map.2 hl
 rw [← h] at h1
 exact (List.pairwise_map (f:=MPack.name) (R:=fun u v:List UInt8=>¬ v<u)).1 h1
theorem getD_p (l:List MPack) (i:Nat):(l.map MPack.p).getD i default=(l.getD i default).p:=by
 rw [List.getD_eq_getElem?_getD,List.getD_eq_getElem?_getD,List.getElem?_map]
 cases l[i]? <;> rfl
theorem plain_of {x l cs:List MPack} (hs:SortOf nameLe x l) (ha:All2 Made l cs):PlainOf (x.map MPack.p) (cs.map MPack.p):=by
 have hn:=ha.map (f:=MPack.name) fun a b h=>h.1
 have hup:(cs.map MPack.p).Pairwise packLe:=List.pairwise_map.2 (names_up hn hs.up)
 have mk:∀ z:List MPack,All2 Made x z→SortOf packLe (z.map MPack.p) (cs.map MPack.p)→PlainOf (x.map MPack.p) (cs.map MPack.p):=fun z hz hso=>by
  refine ⟨z.map MPack.p,by rw [List.length_map,List.length_map]; exact hz.len,fun i hi=>?_,hso⟩
  rw [List.length_map] at hi
  rw [getD_p,getD_p]
  exact hz.get i hi
 by_cases hx:x.Pairwise nameLe
 ·have e:=hs.same hx
  subst e
  exact mk cs ha ⟨List.Perm.refl _,hup,fun _=>rfl⟩
 ·obtain ⟨z,hz,hm⟩:=perm_rel hs.perm ha
  refine mk z hz ⟨hm.map _,hup,fun h=>absurd ?_ hx⟩
  exact names_up (hz.map (f:=MPack.name) fun a b h=>h.1).symm ((List.pairwise_map (f:=MPack.p) (R:=packLe)).1 h)
structure PlainAt (w:World) (B:Nat) (l:List MPack) (k:Nat) (v:Value) (cs:List MPack) (W:World):Prop where
 len:cs.length=l.length
 own:W.ownsRow w.heap.size 48 2 v l.length (cs.flatMap MPack.vals)
 done:∀ j,j<k→Made (l.getD j default) (cs.getD j default)∧PackOk W (Off w B v) (cs.getD j default)
 rest:∀ j,k≤j→cs.getD j default=l.getD j default
 bel:Below w.heap.size w W
theorem PlainAt.next {w W W5 W7:World} {B k g c:Nat} {l cs:List MPack} {rs rs':List MRel} {A5:Option Addr} {c5:Nat} (h:PlainAt w B l k (.slice (some ⟨g,0,none⟩) l.length c) cs W) (hB:B≤w.heap.size) (hkl:k<l.length) (hsh:(l.getD k default).name.length≤maxLen)
  (hc:Copied MRel.vals 8 46 MRel.p RelOk W B (l.getD k default).rels (l.getD k default).rels.length (.slice A5 rs.length c5) rs W5) (hcc:rs.length≤c5∧c5≤maxLen) (hs:SortOf verLe rs rs')
  (ho:W7.ownsRow W.heap.size 46 8 (.slice A5 rs.length c5) rs'.length (rs'.flatMap MRel.vals)) (hbt:But (fun b=>(Value.slice A5 rs.length c5).ownBlock=some b) (W5.setCell ⟨g,k * 2+1,none⟩ (.slice A5 rs.length c5)) W7) :
  PlainAt w B l (k+1) (.slice (some ⟨g,0,none⟩) l.length c) (cs.set k ⟨(l.getD k default).name,A5,c5,rs'⟩) W7:=by
 have hkc:k<cs.length:=by rw [h.len]; exact hkl
 have hrl:rs'.length=rs.length:=hs.perm.length_eq
 have hown5:=own_below h.own hc.bel
 have hst:=hown5.stored (k * 2+1) (.slice A5 rs.length c5)
 obtain ⟨hg0,hgl⟩:=h.own.lt g rfl
 have hnot:Not W B g:=⟨Nat.le_trans hB hg0,(own_not h.own (by decide)).2⟩
 have hb5:Below W.heap.size W W5:=hc.bel
 have hb6:But (fun b=>b=g) W5 (W5.setCell ⟨g,k * 2+1,none⟩ (.slice A5 rs.length c5)):=But.one W5 g _ _
 have hg':∀ b,(Value.slice A5 rs.length c5).ownBlock=some b→W.heap.size≤b:=fun b e=>(ho.lt b e).1
 have hne:∀ b,(Value.slice A5 rs.length c5).ownBlock=some b→b≠g:=fun b e q=>by have:=hg' b e; omega
 have hwl:w.heap.size≤W.heap.size:=h.bel.size
 refine ⟨by rw [List.length_set]; exact h.len,?_,fun j hj=>?_,fun j hj=>?_,?_⟩
 ·refine own_but ?_ hbt fun b e q=>hne b q (by injection e with e; exact e.symm)
  rw [← flat_set MPack.vals 2 Model.pack_len cs k 1 (.slice A5 rs.length c5) _ hkc (by omega) (by rw [h.rest k (Nat.le_refl _)]; show [_,Value.slice A5 rs'.length c5]=[_,_]; rw [hrl])]
  exact hst.1
 ·rcases Nat.lt_or_ge j k with hj1 | hj1
  ·rw [set_other (by omega)]
   refine ⟨(h.done j hj1).1,?_⟩
   have h1:=(h.done j hj1).2.mono (S':=fun b=>Off w B (.slice (some ⟨g,0,none⟩) l.length c) b∧b<W.heap.size) fun b hb hlt=>⟨hb,hlt⟩
   have h2:=(h1.keep (KeepS.of_below hb5)).keep (keep_but hb6 fun b hb e=>hb.1.2 (by rw [e]; rfl))
   exact (h2.keep (keep_but hbt fun b hb e=>by have:=hg' b e; omega)).mono fun b hb _=>hb.1
  ·obtain rfl:j=k:=by omega
   rw [set_self hkc]
   refine ⟨⟨rfl,?_⟩,hsh,?_,⟨by show rs'.length≤c5; omega,hcc.2⟩,?_⟩
   ·rw [← hc.map]
    refine ⟨hs.perm.map _,List.pairwise_map.2 hs.up,fun q=>?_⟩
    show rs'.map MRel.p=rs.map MRel.p
    rw [hs.same ((List.pairwise_map (f:=MRel.p) (R:=relLe)).1 q)]
   ·refine ⟨?_,fun r hr=>?_⟩
    ·have ho2:=ho
     rw [← hrl] at ho2
     obtain ⟨A,c',e,_,_,hrow⟩:=KRow.of_own Model.rel_len ho2 rfl (S:=Off w B (.slice (some ⟨g,0,none⟩) l.length c)) fun b hb _=>⟨Aside.new (by omega),fun q=>by injection q with q; have q:g=b:=q; omega⟩
     injection e with e1 _ _
     subst e1
     exact hrow
    ·have h1:=hc.all r (hs.perm.mem_iff.1 hr)
     have h2:=h1.keep (keep_but hb6 fun b hb e=>hb.1 g hgl hnot e)
     exact (h2.keep (keep_but hbt fun b hb e=>hb.2 e)).mono fun b hb _=>⟨hb.1.up h.bel,fun q=>hb.1 g hgl hnot (by injection q with q; exact q.symm)⟩
   ·intro e
    have ho2:=ho
    rw [← hrl] at ho2
    obtain ⟨A,c',e',_,hz,_⟩:=KRow.of_own Model.rel_len ho2 rfl (S:=fun _=>True) fun b hb _=>trivial
    injection e' with e1 _ e2
    show c5=0
    rw [e2]
    exact hz (by rw [← e1]; exact e)
 ·rw [set_other (by omega)]
  exact h.rest j (by omega)
 ·exact ((h.bel.trans (hb5.mono hwl)).trans (hb6.below (B:=w.heap.size) (fun q e=>by omega) (Nat.le_trans hwl hb5.size))).trans (hbt.below (B:=w.heap.size) (fun q e=>by have:=hg' q e; omega) (Nat.le_trans hwl (Nat.le_trans hb5.size hb6.size)))
end Go.Proofs.YtgakcdcfblgagaaGreatDoor.Copy
namespace Go.Proofs.YtgakcdcfblgagaaGreatDoor.Rank
open Go.RowKit Num Ident Semver Prec Span
open Model (PDep PRel PPack RightX RightRels PlainOf SortOf relLe packLe plain_right check_iff checkF memD ofMem)
open Nrm (hasR inV)
open Range (Rng goodR)

theorem full_eq {u v:Ver} (h:fullV u v=0):u=v:=by
 unfold fullV at h
 by_cases h1:cmpV u v=0
 ·rw [lex_yes h1] at h
  obtain ⟨a,b,c,d⟩:=Nrm.ver_eq h1
  have e:=Nrm.rows_eq h
  cases u; cases v
  simp only at a b c d e
  subst a b c d e
  rfl
 ·rw [lex_no h1] at h; exact absurd h h1
theorem pw_inj {α β:Type} {f:α→β}:∀ {l:List α},(l.Pairwise fun a b=>f a≠f b)→∀ {a b:α},a ∈ l→b ∈ l→f a=f b→a=b
 | [],_,a,b,h,_,_=>by cases h
 | x :: l,hn,a,b,ha,hb,e=>by
  obtain ⟨h1,h2⟩:=List.pairwise_cons.1 hn
  rcases List.mem_cons.1 ha with ha' | ha'
  ·rcases List.mem_cons.1 hb with hb' | hb'
   ·rw [ha',hb']
   ·subst ha'; exact absurd e (h1 b hb')
  ·rcases List.mem_cons.1 hb with hb' | hb'
   ·subst hb'; exact absurd e.symm (h1 a ha')
   ·exact pw_inj h2 ha' hb' e
theorem vers_ne {pn:List UInt8} {l:List PRel} (h:RightRels pn l):l.Pairwise fun a b=>a.v≠b.v:=h.2.imp fun {a b} g e=>by rw [e,sameV_self] at g; cases g
theorem names_ne {x:List PPack} (h:RightX x):x.Pairwise fun p q=>p.name≠q.name:=h.2.2.imp fun {p q} g e=>by rw [e] at g; simp at g
def MixOf (x y:List PPack):Prop :=
 ∃ z:List PPack,z.length=x.length∧(∀ i,i<x.length→(z.getD i default).name=(x.getD i default).name∧(z.getD i default).rels.Perm (x.getD i default).rels∧(z.getD i default).rels.Pairwise relLe)∧y.Perm z∧y.Pairwise packLe
theorem mix_plain {x y:List PPack} (h:PlainOf x y):MixOf x y:=by
 obtain ⟨z,hl,hz,hs⟩:=h
 exact ⟨z,hl,fun i hi=>⟨(hz i hi).1,(hz i hi).2.perm,(hz i hi).2.up⟩,hs.perm,hs.up⟩
theorem name_anti {p q:PPack} (h1:packLe p q) (h2:packLe q p):p.name=q.name:=by
 unfold packLe at h1 h2
 rw [Std.not_lt] at h1 h2
 exact Std.le_antisymm h1 h2
theorem mix_unique {x y y':List PPack} (hr:RightX x) (h:MixOf x y) (h':MixOf x y'):y=y':=by
 obtain ⟨z,hl,hz,hp,hs⟩:=h
 obtain ⟨z',hl',hz',hp',hs'⟩:=h'
 have e:z=z':=by
  apply List.ext_getElem (by rw [hl,hl'])
  intro i h1 h2
  have hi:i<x.length:=by omega
  have g:=hz i hi
  have g':=hz' i hi
  have hx:RightRels _ (x.getD i default).rels:=(hr.2.1 _ (memD x hi)).2
  rw [List.getD_eq_getElem?_getD,List.getElem?_eq_getElem h1] at g
  rw [List.getD_eq_getElem?_getD,List.getElem?_eq_getElem h2] at g'
  simp only [Option.getD_some] at g g'
  refine Model.pack_ext (g.1.trans g'.1.symm) ?_
  refine List.Perm.eq_of_pairwise (le:=relLe) (fun a b ha hb h3 h4=>?_) g.2.2 g'.2.2 (g.2.1.trans g'.2.1.symm)
  have hv:a.v=b.v:=full_eq (by have:=fullV_ordr.flip a.v b.v; unfold relLe at h3 h4; omega)
  exact pw_inj (f:=PRel.v) (vers_ne hx) (g.2.1.mem_iff.1 ha) (g'.2.1.mem_iff.1 hb) hv
 subst e
 have hn:z.Pairwise fun p q=>p.name≠q.name:=by
  have a:=List.pairwise_map (f:=PPack.name) (R:=fun p q:List UInt8=>p≠q) (l:=z)
  have b:=List.pairwise_map (f:=PPack.name) (R:=fun p q:List UInt8=>p≠q) (l:=x)
  have e:z.map PPack.name=x.map PPack.name:=by
   apply List.ext_getElem (by simp [hl])
   intro i h1 h2
   have h1':i<z.length:=by simpa using h1
   have h2':i<x.length:=by simpa using h2
   have:=(hz i h2').1
   rw [List.getD_eq_getElem?_getD,List.getElem?_eq_getElem h1',List.getD_eq_getElem?_getD,List.getElem?_eq_getElem h2'] at this
   simpa using this
  rw [e] at a
  exact a.1 (b.2 (names_ne hr))
 exact List.Perm.eq_of_pairwise (le:=packLe) (fun p q hp1 hq h3 h4=>pw_inj (f:=PPack.name) hn (hp.mem_iff.1 hp1) (hp'.mem_iff.1 hq) (name_anti h3 h4)) hs hs' (hp.trans hp'.symm)
structure TabOk (y:List PPack):Prop where
 right:RightX y
 names:y.Pairwise fun p q=>p.name<q.name
 vers:∀ p ∈ y,p.rels.Pairwise fun a b=>fullV a.v b.v<0
theorem tab_ok {x y:List PPack} (h:PlainOf x y) (hr:checkF x=none):TabOk y:=by
 have hy:=(check_iff y).1 ((plain_right h).2 hr)
 obtain ⟨z,hl,hz,hs⟩:=h
 refine ⟨hy,(hs.up.and (names_ne hy)).imp (fun {p q} h=>?_),fun p hp=>?_⟩
 ·obtain ⟨h1,h2⟩:=h
  unfold packLe at h1
  rw [Std.not_lt] at h1
  exact Std.lt_of_le_of_ne h1 h2
 ·obtain ⟨p0,hp0,h1,h2⟩:=Model.mid_mem hl hz (hs.perm.mem_iff.1 hp)
  refine (h2.up.and (vers_ne (hy.2.1 p hp).2)).imp (fun {a b} h=>?_)
  obtain ⟨h3,h4⟩:=h
  unfold relLe at h3
  rcases Int.lt_or_eq_of_le h3 with g | g
  ·exact g
  ·exact absurd (full_eq g) h4

/-! What is asked of a table. -/
def nameO (y:List PPack) (p:Int):List UInt8:=if 0≤p∧p<y.length then (y.getD p.toNat default).name else []
def relsO (y:List PPack) (p:Int):List PRel:=if 0≤p∧p<y.length then (y.getD p.toNat default).rels else []
def rankO (l:List PRel) (v:Ver):Option Nat:=l.findIdx? fun r=>sameV r.v v
theorem idx_some {α:Type} [Inhabited α] {f:α→Bool} {l:List α} {i:Nat} (hi:i<l.length) (h:f (l.getD i default)=true) (hn:∀ j,j<i→f (l.getD j default)=false):l.findIdx? f=some i:=by
 rw [List.findIdx?_eq_some_iff_getElem]
 refine ⟨hi,by rw [List.getD_eq_getElem?_getD,List.getElem?_eq_getElem hi] at h; exact h,fun j hj=>?_⟩
 have:=hn j hj
 rw [List.getD_eq_getElem?_getD,List.getElem?_eq_getElem (by omega)] at this
 simpa using this
theorem idx_none {α:Type} [Inhabited α] {f:α→Bool} {l:List α} (hn:∀ j,j<l.length→f (l.getD j default)=false):l.findIdx? f=none:=by
 rw [List.findIdx?_eq_none_iff]
 intro x hx
 obtain ⟨j,hj,rfl⟩:=ofMem hx
 exact hn j hj
theorem pwD {α:Type} [Inhabited α] {R:α→α→Prop} {l:List α} (h:l.Pairwise R) {i j:Nat} (hij:i<j) (hj:j<l.length):R (l.getD i default) (l.getD j default):=by
 rw [List.getD_eq_getElem?_getD,List.getElem?_eq_getElem (by omega),List.getD_eq_getElem?_getD,List.getElem?_eq_getElem hj]
 exact List.pairwise_iff_getElem.1 h i j (by omega) hj hij
theorem same_no {u v:Ver} (h:fullV u v≠0):sameV u v=false:=by
 cases g:sameV u v
 ·rfl
 ·exact absurd (by rw [Range.sameV_eq g]; exact fullV_ordr.self v) h
theorem rank_yes {l:List PRel} {v:Ver} {i:Nat} (hi:i<l.length) (hlo:∀ j,j<i→fullV (l.getD j default).v v<0) (h:fullV (l.getD i default).v v=0):rankO l v=some i :=
 idx_some hi (by rw [full_eq h]; exact sameV_self v) fun j hj=>same_no (by have:=hlo j hj; omega)
theorem rank_no {l:List PRel} {v:Ver} {i:Nat} (hs:l.Pairwise fun a b=>fullV a.v b.v<0) (hlo:∀ j,j<i→j<l.length→fullV (l.getD j default).v v<0) (hhi:∀ j,i≤j→j<l.length→0≤fullV (l.getD j default).v v) (h:i<l.length→fullV (l.getD i default).v v≠0):rankO l v=none :=
 idx_none fun j hj=>same_no (by
  rcases Nat.lt_trichotomy j i with g | g | g
  ·have:=hlo j g hj; omega
  ·subst g; exact h hj
  ·intro e
   have e2:=full_eq e
   have h1:=pwD hs g hj
   rw [e2] at h1
   have:=hhi i (Nat.le_refl _) (by omega)
   omega)
theorem rank_self {l:List PRel} (hs:l.Pairwise fun a b=>fullV a.v b.v<0) {k:Nat} (hk:k<l.length):rankO l (l.getD k default).v=some k :=
 rank_yes hk (fun _ hj=>pwD hs hj hk) (fullV_ordr.self _)

/-! Lists that are sorted by places. -/
section
variable {α:Type} (f:α→α→Bool)
def insAt (out:List α) (a:α):Nat:=(out.takeWhile fun o=>f o a).length
def insL (out:List α) (a:α):List α:=out.take (insAt f out a) ++ a :: out.drop (insAt f out a)
theorem insL_eq (out:List α) (a:α):insL f out a=(out.takeWhile fun o=>f o a) ++ a :: out.dropWhile fun o=>f o a:=by
 unfold insL insAt
 have h:=List.takeWhile_append_dropWhile (p:=fun o=>f o a) (l:=out)
 have e1:out.take (out.takeWhile fun o=>f o a).length=out.takeWhile fun o=>f o a:=by
  conv=>lhs; rw [← h]
  rw [List.take_left']; rw [h]
 have e2:out.drop (out.takeWhile fun o=>f o a).length=out.dropWhile fun o=>f o a:=by
  conv=>lhs; rw [← h]
  rw [List.drop_left']; rw [h]
 rw [e1,e2]
theorem insL_perm (out:List α) (a:α):(insL f out a).Perm (a :: out):=by
 rw [insL_eq]
 refine List.perm_middle.trans (List.Perm.cons a ?_)
 rw [List.takeWhile_append_dropWhile]
def sortL (l:List α):List α:=l.foldl (insL f) []
theorem sortL_snoc (l:List α) (a:α):sortL f (l ++ [a])=insL f (sortL f l) a:=by unfold sortL; rw [List.foldl_append]; rfl
theorem sortL_rev:∀ l:List α,(sortL f l.reverse).Perm l
 | []=>List.Perm.refl _
 | a :: l=>by
  rw [List.reverse_cons,sortL_snoc]
  exact (insL_perm f _ a).trans ((sortL_rev l).cons a)
end

/-! Runs. -/
def stepR (out:List (Nat × Nat)) (i:Nat):List (Nat × Nat) :=
 if out≠[]∧(out.getD (out.length - 1) default).2=i then out.set (out.length - 1) ((out.getD (out.length - 1) default).1,i+1) else out ++ [(i,i+1)]
def runsTo (f:Nat→Bool):Nat→List (Nat × Nat)
 | 0=>[]
 | i+1=>if f i=true then stepR (runsTo f i) i else runsTo f i
def withR (done:List (Nat × Nat)) (r:Nat × Nat):List (Nat × Nat):=if r.1=r.2 then done else done ++ [r]
structure RunAt (f:Nat→Bool) (k:Nat) (done:List (Nat × Nat)) (a b:Nat):Prop where
 le:a≤b
 up:b≤k
 zero:a=b→a=0∧done=[]
 eq:runsTo f k=withR done (a,b)
theorem RunAt.start (f:Nat→Bool):RunAt f 0 [] 0 0:=⟨Nat.le_refl _,Nat.le_refl _,fun _=>⟨rfl,rfl⟩,rfl⟩
theorem RunAt.no {f:Nat→Bool} {k a b:Nat} {done:List (Nat × Nat)} (h:RunAt f k done a b) (hf:f k=false):RunAt f (k+1) done a b :=
 ⟨h.le,by have:=h.up; omega,h.zero,by rw [runsTo,hf]; exact h.eq⟩
theorem last_snoc {α:Type} [Inhabited α] (l:List α) (a:α):(l ++ [a]).getD ((l ++ [a]).length - 1) default=a:=by simp [List.getD]
theorem set_snoc {α:Type} (l:List α) (a b:α):(l ++ [a]).set ((l ++ [a]).length - 1) b=l ++ [b]:=by simp
theorem RunAt.same {f:Nat→Bool} {k a:Nat} {done:List (Nat × Nat)} (h:RunAt f k done a k) (hf:f k=true):RunAt f (k+1) done a (k+1):=by
 refine ⟨by have:=h.le; omega,Nat.le_refl _,fun e=>by have:=h.le; omega,?_⟩
 rw [runsTo,if_pos hf,h.eq]
 unfold withR
 rw [if_neg (show ¬ a=k+1 by have:=h.le; omega)]
 by_cases e:a=k
 ·obtain ⟨e0,ed⟩:=h.zero e
  subst e0 ed
  rw [if_pos e]
  unfold stepR
  rw [if_neg (fun g=>g.1 rfl),← e]
 ·rw [if_neg e]
  unfold stepR
  rw [last_snoc,set_snoc,if_pos ⟨by simp,rfl⟩]
theorem RunAt.new {f:Nat→Bool} {k a b:Nat} {done:List (Nat × Nat)} (h:RunAt f k done a b) (hb:b≠k) (hf:f k=true):RunAt f (k+1) (withR done (a,b)) k (k+1):=by
 refine ⟨by omega,Nat.le_refl _,fun e=>by omega,?_⟩
 rw [runsTo,if_pos hf,h.eq]
 have e1:withR (withR done (a,b)) (k,k+1)=withR done (a,b) ++ [(k,k+1)]:=by
  rw [withR.eq_def (withR done (a,b)),if_neg (by simp)]
 rw [e1]
 unfold stepR
 rw [if_neg]
 rintro ⟨g1,g2⟩
 unfold withR at g1 g2
 by_cases e:a=b
 ·rw [if_pos e] at g1
  exact g1 (h.zero e).2
 ·rw [if_neg e,last_snoc] at g2
  exact hb g2
def inRuns (l:List (Nat × Nat)) (i:Nat):Prop:=∃ r ∈ l,r.1≤i∧i<r.2
theorem runs_ok (f:Nat→Bool):∀ k,(∀ r ∈ runsTo f k,r.1≤r.2∧r.2≤k)∧∀ i,inRuns (runsTo f k) i↔i<k∧f i=true
 | 0=>⟨(fun r h=>by cases h),fun i=>⟨fun h=>(by obtain ⟨r,h,_⟩:=h; cases h),fun h=>absurd h.1 (Nat.not_lt_zero _)⟩⟩
 | k+1=>by
  obtain ⟨h1,h2⟩:=runs_ok f k
  rw [runsTo]
  cases hf:f k with
  | false =>
   rw [if_neg (by simp)]
   refine ⟨fun r hr=>⟨(h1 r hr).1,by have:=(h1 r hr).2; omega⟩,fun i=>(h2 i).trans ⟨fun g=>⟨by omega,g.2⟩,fun g=>⟨?_,g.2⟩⟩⟩
   rcases Nat.lt_or_ge i k with q | q
   ·exact q
   ·obtain rfl:i=k:=by omega
    rw [hf] at g; cases g.2
  | true =>
   rw [if_pos rfl]
   have key:∀ i,(i<k+1∧f i=true)↔(i<k∧f i=true)∨i=k:=fun i=>by
    constructor
    ·rintro ⟨a,b⟩
     by_cases e:i=k
     ·exact .inr e
     ·exact .inl ⟨by omega,b⟩
    ·rintro (⟨a,b⟩ | rfl)
     ·exact ⟨by omega,b⟩
     ·exact ⟨by omega,hf⟩
   simp only [key,← h2]
   generalize runsTo f k=out at h1 h2 ⊢
   unfold stepR
   split
   ·rename_i g
    obtain ⟨g1,g2⟩:=g
    obtain ⟨l,r,rfl⟩:∃ l r,out=l ++ [r]:=⟨out.dropLast,out.getLast g1,(List.dropLast_concat_getLast g1).symm⟩
    rw [last_snoc] at g2 ⊢
    rw [set_snoc]
    subst g2
    have hr:=h1 r (by simp)
    refine ⟨fun q hq=>?_,fun i=>?_⟩
    ·rcases List.mem_append.1 hq with hq | hq
     ·have:=h1 q (by simp [hq]); exact ⟨this.1,by omega⟩
     ·rw [List.mem_singleton] at hq; subst hq; exact ⟨by simp only; omega,Nat.le_refl _⟩
    ·constructor
     ·rintro ⟨q,hq,a,b⟩
      rcases List.mem_append.1 hq with hq | hq
      ·exact .inl ⟨q,by simp [hq],a,b⟩
      ·rw [List.mem_singleton] at hq
       subst hq
       simp only at a b
       by_cases e:i=r.2
       ·exact .inr e
       ·exact .inl ⟨r,by simp,a,by omega⟩
     ·rintro (⟨q,hq,a,b⟩ | rfl)
      ·rcases List.mem_append.1 hq with hq | hq
       ·exact ⟨q,by simp [hq],a,b⟩
       ·rw [List.mem_singleton] at hq
        subst hq
        exact ⟨_,List.mem_append_right _ (List.mem_singleton.2 rfl),a,by simp only; omega⟩
      ·exact ⟨_,List.mem_append_right _ (List.mem_singleton.2 rfl),hr.1,by simp only; omega⟩
   ·refine ⟨fun q hq=>?_,fun i=>?_⟩
    ·rcases List.mem_append.1 hq with hq | hq
     ·have:=h1 q hq; exact ⟨this.1,by omega⟩
     ·rw [List.mem_singleton] at hq; subst hq; exact ⟨by simp only; omega,Nat.le_refl _⟩
    ·constructor
     ·rintro ⟨q,hq,a,b⟩
      rcases List.mem_append.1 hq with hq | hq
      ·exact .inl ⟨q,hq,a,b⟩
      ·rw [List.mem_singleton] at hq; subst hq; simp only at a b; exact .inr (by omega)
     ·rintro (⟨q,hq,a,b⟩ | rfl)
      ·exact ⟨q,by simp [hq],a,b⟩
      ·exact ⟨_,List.mem_append_right _ (List.mem_singleton.2 rfl),Nat.le_refl _,by simp only; omega⟩
theorem runsTo_len (f:Nat→Bool):∀ k,(runsTo f k).length≤k
 | 0=>Nat.le_refl _
 | k+1=>by
  have:=runsTo_len f k
  rw [runsTo]
  split
  ·unfold stepR
   split
   ·simp; omega
   ·simp; omega
  ·omega

/-! What is left of a set, where versions rise. -/
def leftF (s:List Sp) (v:Ver):List Sp:=s.dropWhile fun x=>decide (cmpC x.hi (behindOf v)<0)
theorem dropWhile_split {α:Type} (p:α→Bool):∀ l:List α,∃ d,l=d ++ l.dropWhile p∧∀ x ∈ d,p x=true
 | []=>⟨[],rfl,fun x h=>by cases h⟩
 | a :: l=>by
  rw [List.dropWhile_cons]
  split
  ·rename_i h
   obtain ⟨d,h1,h2⟩:=dropWhile_split p l
   refine ⟨a :: d,by rw [List.cons_append,← h1],fun x hx=>?_⟩
   rcases List.mem_cons.1 hx with rfl | hx
   ·exact h
   ·exact h2 x hx
  ·exact ⟨[],rfl,fun x h=>by cases h⟩
theorem dropWhile_not {α:Type} (p:α→Bool):∀ (l:List α) (t:α) (more:List α),l.dropWhile p=t :: more→p t=false
 | [],t,more,h=>by simp at h
 | a :: l,t,more,h=>by
  rw [List.dropWhile_cons] at h
  split at h
  ·exact dropWhile_not p l t more h
  ·rename_i g
   injection h with h1 h2
   subst h1
   simpa using g
def Past (d:List Sp) (v:Ver):Prop:=∀ s ∈ d,stand s.hi (behindOf v)<0
theorem cmp_behind_behind (u v:Ver):stand (behindOf u) (behindOf v)=cmpV u v:=by
 unfold stand
 have e1:ofVer (behindOf u)=true:=rfl
 have e2:ofVer (behindOf v)=true:=rfl
 have e3:cmpV (behindOf u).v (behindOf v).v=cmpV u v:=rfl
 rw [e3]
 by_cases h:cmpV u v=0
 ·rw [if_neg (fun g=>g.2.2 h),h]; exact ordI_eq rfl
 ·rw [if_pos ⟨e1,e2,h⟩]
theorem past_le {d:List Sp} {u v:Ver} (h:Past d u) (hc:cmpV u v≤0):Past d v:=fun s hs=>by
 refine lt_le (h s hs) ?_
 have:=cmp_behind_behind u v
 omega
theorem left_past {set d rest:List Sp} {v:Ver} (hn:Norm set) (hs:set=d ++ rest) (hp:Past d v) (hv:goodV v=true):∃ d',set=d' ++ leftF rest v∧Past d' v:=by
 obtain ⟨e,h1,h2⟩:=dropWhile_split (fun x=>decide (cmpC x.hi (behindOf v)<0)) rest
 refine ⟨d ++ e,?_,fun s hs'=>?_⟩
 ·rw [hs,List.append_assoc]; unfold leftF; rw [← h1]
 ·rcases List.mem_append.1 hs' with g | g
  ·exact hp s g
  ·have:=h2 s g
   rw [decide_eq_true_eq,cmpC_right (hn.rights s (by rw [hs,h1]; simp [g])).2 (right_behind (Nrm.ahead_right hv))] at this
   exact this
theorem left_has {set d rest:List Sp} {v:Ver} (hn:Norm set) (hs:set=d ++ rest) (hp:Past d v) (hv:goodV v=true):((leftF rest v).take 1).any (hasOne (aheadOf v) (behindOf v))=hasV set v:=by
 have hva:=Nrm.ahead_right hv
 obtain ⟨d',h1,h2⟩:=left_past hn hs hp hv
 have hrs:=hn.rights
 have hr1:Rights ((leftF rest v).take 1):=fun s hs'=>hrs s (by rw [h1]; exact List.mem_append_right _ (List.mem_of_mem_take hs'))
 rw [Bool.eq_iff_iff,has_iff hr1 hva,hasV_iff hrs hva]
 constructor
 ·rintro ⟨s,hs',hi⟩
  exact ⟨s,by rw [h1]; exact List.mem_append_right _ (List.mem_of_mem_take hs'),hi⟩
 ·rintro ⟨s,hs',hi⟩
  have hb:stand (behindOf v) s.hi≤0:=(behind_le s.hi v).1 hi.2
  rw [h1] at hs'
  rcases List.mem_append.1 hs' with g | g
  ·exact absurd (h2 s g) (le_not hb)
  ·cases hq:leftF rest v with
   | nil=>rw [hq] at g; cases g
   | cons t more =>
    have ht:=dropWhile_not _ _ _ _ hq
    rw [decide_eq_false_iff_not,cmpC_right (hrs t (by rw [h1,hq]; simp)).2 (right_behind hva)] at ht
    refine ⟨s,?_,hi⟩
    rw [hq] at g
    rcases List.mem_cons.1 g with rfl | g
    ·simp
    ·exfalso
     have hgap:=hn.gap
     rw [h1,hq] at hgap
     have hts:stand t.hi s.lo<0:=(List.pairwise_cons.1 (List.pairwise_append.1 hgap).2.1).1 s g
     exact ht (lt_lt (lt_le hts hi.1) (ahead_behind v))
theorem full_cmp {u v:Ver} (h:fullV u v<0):cmpV u v≤0:=by
 by_cases h1:cmpV u v=0
 ·omega
 ·unfold fullV at h; rw [lex_no h1] at h; omega
end Go.Proofs.YtgakcdcfblgagaaGreatDoor.Rank
namespace Go.Proofs.YtgakcdcfblgagaaGreatDoor.Copy
open Go.RowKit Num Ident Semver Fr
open Range (Rng noRng RV Lies RgRow CellsAt KeepS LtB InS FitV)
open KR (KRow AtV)
open Model (MDep MVer MRel MPack PPack PRel DepOk VerOk RelOk PackOk DRow RRow PRow FewD FewRel FewX SlOk SortOf PlainOf PlainPost)
theorem plain_any (A:Option Addr) (n c:Nat) (x:List MPack) (B:Nat) (w:World) (h:PRow w (LtB B) A n x) (hB:B≤w.heap.size) (hf:FewX x) :
  Calls Tryz.prog 11 #[.agg #[.slice A n c]] w (PlainPost x w):=by
 obtain ⟨W0,hW,h1,h2,hb,hsz⟩:=two_new w [.slice A n c] [.slice none 0 0] 26 26
 have his:Is W0 (w.heap.size+1) 26:=by
  rw [hW]
  have h:=heap_alloc_new (w.alloc (.cells ([.slice A n c]:List Value).toArray 26)) (.cells ([.slice none 0 0]:List Value).toArray 26)
  rw [size_alloc] at h
  exact ⟨_,h⟩
 have H1:=Lib.hid h1
 have H2:=Lib.hid h2
 have HB:=Lib.hid hb
 have HS:=Lib.hid hsz
 have HIS:=Lib.hid his
 have HX:=Lib.hid (h.keep (KeepS.of_below (S:=LtB B) hb))
 have HF:=Lib.hid hf
 have HL:Hid (x.length=n):=h.row.1
 have HN:Hid (n≤6):=by have:=hf.len; have:=h.row.1; unfold Hid; omega
 have HLB:Hid (B≤W0.heap.size):=Nat.le_trans hB hb.size
 have HLB0:=Lib.hid hB
 clear h1 h2 hb hsz his h hf hB
 obtain ⟨ib,hib⟩:∃ ib,w.heap.size=ib:=⟨_,rfl⟩
 go_enter Tryz.func11,Tryz.ntmps11
 go_upto_region 1 with (fail)
 rw [← hW]
 rw [hib] at H1 H2 HIS
 try rw [hib]
 clear hW
 have i0:=H1.out.at_ 0 _ rfl
 go_wp2_with fail
 refine (clonePack_any A n c x (LtB B) W0 HX.out.row (by have:=HN.out; omega) (by have:=HN.out; unfold maxLen; omega)).mono ?_
 rintro e W1 ⟨v1,rfl,ho,hb⟩
 obtain ⟨A1,c1,rfl,hc1,hc2,hc3⟩:=own_slice ho
 have HO1:Hid (W1.ownsRow W0.heap.size 48 2 (.slice A1 x.length c1) x.length (x.flatMap MPack.vals)):=by unfold Hid; rw [HL.out]; exact ho
 have HC1:Hid (n≤c1∧c1≤maxLen∧(A1=none→c1=0)):=⟨hc1,hc2,hc3⟩
 have HB1:=Lib.hid hb
 clear ho hb i0 hc1 hc2 hc3
 have hso:=sortPack_any W0.heap.size A1 c1 x W1 HO1.out (by rw [HL.out]; have:=HN.out; omega)
 rw [HL.out] at hso
 have HSO:=Lib.hid hso
 clear hso
 go_wp2_with fail
 refine HSO.out.mono ?_
 rintro e W2 ⟨rfl,l,hs,ho,hbt⟩
 have hll:l.length=n:=hs.perm.length_eq.trans HL.out
 have HLL:=Lib.hid hll
 have HSL:=Lib.hid hs
 have HB2:Hid (Below W0.heap.size W0 W2):=HB1.out.trans (hbt.below (B:=W0.heap.size) (fun b e=>(ho.lt b e).1) HB1.out.size)
 have HP0:Hid (PlainAt W0 B l 0 (.slice A1 n c1) l W2):=⟨rfl,by have h5:=ho; rw [hll] at h5 ⊢; exact h5,fun j hj=>absurd hj (Nat.not_lt_zero j),fun _ _=>rfl,HB2.out⟩
 have HMEM:Hid (∀ p ∈ l,PackOk W0 (LtB B) p∧(p.name.length≤300∧p.rels.length≤6)∧∀ r ∈ p.rels,FewRel r):=fun p hp=>by
  have hp:=hs.perm.mem_iff.1 hp
  exact ⟨HX.out.ok p hp,HF.out.pack p hp,HF.out.rel p hp⟩
 clear ho hbt hs hll HSO
 go_wp2
 go_loopw [12] (fun y W=>∃ (k:Nat) (cs:List MPack),k≤n∧y=.int .i64 k∧Hid (PlainAt W0 B l k (.slice A1 n c1) cs W)) (fun y _=>n - (intOf y).toNat)
 case atStart=>exact ⟨0,l,Nat.zero_le _,rfl,HP0.out⟩
 case round =>
  rename World=>wk
  obtain ⟨k,cs,hk,rfl,HI⟩:=hrel
  by_cases hlt:k<n
  ·have hkl:k<l.length:=by rw [HLL.out]; exact hlt
   have HIC:Hid (PlainAt W0 B l k (.slice A1 l.length c1) cs wk):=by unfold Hid; rw [HLL.out]; exact HI.out
   have ho:=HIC.out.own
   rw [← HIC.out.len] at ho
   obtain ⟨A',c',e,_,_,h4⟩:=own_cells Model.pack_len ho rfl
   injection e with e1 _ e2
   subst e1
   subst e2
   obtain ⟨g,hAg,hg0,hgl,hgf,hcl⟩:=h4 (by rw [HIC.out.len]; omega)
   subst hAg
   have hcl:=hcl k (by rw [HIC.out.len]; omega)
   rw [HIC.out.rest k (Nat.le_refl _),Nat.zero_add] at hcl
   have hmem:l.getD k default ∈ l:=by rw [List.getD_eq_getElem?_getD,List.getElem?_eq_getElem hkl]; exact List.getElem_mem _
   obtain ⟨hpk,hpf,hpr⟩:=HMEM.out _ hmem
   have HPK:=Lib.hid (hpk.rels.keep (KeepS.of_below (S:=LtB B) HI.out.bel))
   have HPF:=Lib.hid hpf
   have HPR:=Lib.hid hpr
   have HNX:Hid (∀ {W5 W7:World} {rs rs':List MRel} {A5:Option Addr} {c5:Nat},Copied MRel.vals 8 46 MRel.p RelOk wk B (l.getD k default).rels (l.getD k default).rels.length (.slice A5 rs.length c5) rs W5→(rs.length≤c5∧c5≤maxLen)→SortOf verLe rs rs' →
     W7.ownsRow wk.heap.size 46 8 (.slice A5 rs.length c5) rs'.length (rs'.flatMap MRel.vals)→But (fun b=>(Value.slice A5 rs.length c5).ownBlock=some b) (W5.setCell ⟨g,k * 2+1,none⟩ (.slice A5 rs.length c5)) W7 →
     PlainAt W0 B l (k+1) (.slice (some ⟨g,0,none⟩) n c1) (cs.set k ⟨(l.getD k default).name,A5,c5,rs'⟩) W7):=fun a b cc d e=>by
    have h5:=HIC.out.next HLB.out hkl (by have:=hpf.1; unfold maxLen; omega) a b cc d e
    rw [HLL.out] at h5; exact h5
   have HNOT:Hid (Not wk B g):=⟨Nat.le_trans HLB.out hg0,(own_not HIC.out.own (by decide)).2⟩
   have HGL:=Lib.hid hgl
   have HWK:=Lib.hid (Nat.le_trans HLB.out HI.out.bel.size)
   clear hmem hpk hpf hpr h4 ho HI HIC hg0
   obtain ⟨p,hp⟩:∃ p,l.getD k default=p:=⟨_,rfl⟩
   rw [hp] at hcl HPK HPF HPR HNX
   clear hp
   have q1:=hcl 1 _ rfl
   clear hcl
   go_wp2_with fail
   refine (copyRels_any p.R p.rels.length p.rc p.rels B wk HPK.out HPF.out.2 HPR.out HWK.out).mono ?_
   rintro e W5 ⟨v5,rs,rfl,hc⟩
   have hrl:rs.length=p.rels.length:=hc.len
   have ho5:=hc.own
   rw [← hrl] at ho5
   obtain ⟨A5,c5,rfl,hc5,hm5,hz5⟩:=own_slice ho5
   have HC5:=Lib.hid hc
   have HO5:=Lib.hid ho5
   have HCC:Hid (rs.length≤c5∧c5≤maxLen):=⟨hc5,hm5⟩
   have HRL:=Lib.hid hrl
   have hg5:g<W5.heap.size:=Nat.lt_of_lt_of_le hgl hc.bel.size
   have hf5:∀ o,W5.frozen? ⟨g,o,none⟩=false:=fun o=>(hc.bel.frozen (p:=⟨g,o,none⟩) hgl).trans (hgf o)
   have q5:W5.cell? ⟨g,k * 2+1,none⟩=some (.slice p.R p.rels.length p.rc):=(hc.bel.cell (p:=⟨g,k * 2+1,none⟩) hgl).trans q1
   clear hc ho5 hc5 hm5 hz5 hrl q1 hgl hgf
   go_upto_region 7 with (fail)
   have HBT:Hid (But (fun b=>b=g) W5 (W5.setCell ⟨g,k * 2+1,none⟩ (.slice A5 rs.length c5))):=But.one W5 g _ _
   have hg6:g<(W5.setCell ⟨g,k * 2+1,none⟩ (.slice A5 rs.length c5)).heap.size:=by simpa using hg5
   have q6:(W5.setCell ⟨g,k * 2+1,none⟩ (.slice A5 rs.length c5)).cell? ⟨g,k * 2+1,none⟩=some (.slice A5 rs.length c5):=World.cell?_setCell_same _ _ _ q5
   have HSR:=Lib.hid (sortRelease_any wk.heap.size A5 c5 rs (W5.setCell ⟨g,k * 2+1,none⟩ (.slice A5 rs.length c5)) (own_but HO5.out HBT.out fun b e q=>by have:=(HO5.out.lt b e).1; have:=HGL.out; omega) (by rw [HRL.out]; have:=HPF.out.2; omega)
    (fun r hr g' e=>(((HC5.out.all r hr).ver.keep (keep_but HBT.out fun b hb e=>hb.1 g HGL.out HNOT.out e)).mono fun b hb _ q=>hb.2 (by rw [e,q]; rfl))))
   have HFI:=Lib.hid (fun W7 rs' (a:SortOf verLe rs rs') b c=>HNX.out (W7:=W7) (rs':=rs') HC5.out HCC.out a b c)
   clear q5 hg5 hf5 HNX
   generalize W5.setCell ⟨g,k * 2+1,none⟩ (.slice A5 rs.length c5)=W6 at HBT hg6 q6 HSR HFI ⊢
   go_wp2_with fail
   refine HSR.out.mono ?_
   rintro e W7 ⟨rfl,rs',hs,ho,hbt⟩
   have HN7:=Lib.hid (HFI.out W7 rs' hs ho hbt)
   clear hs ho hbt q6 hg6
   have hn6:=HN.out
   go_wp2
   exact ⟨⟨k+1,_,by omega,by go_num,HN7.out⟩,by simp [intOf]; omega⟩
  ·obtain rfl:k=n:=by omega
   have hcn:cs.length=k:=HI.out.len.trans HLL.out
   have HCN:=Lib.hid hcn
   have H2k:=Lib.hid (H2.out.kept HI.out.bel (by have:=HS.out; omega))
   have ho:=HI.out.own
   rw [HLL.out,← hcn] at ho
   obtain ⟨A',c',e,_,_,hrow⟩:=KRow.of_own Model.pack_len ho rfl (S:=fun b=>b≠ib+1) fun b hb _=>by have:=HS.out; omega
   injection e with e1 _ e2
   subst e1
   subst e2
   have hprow:PRow wk (fun b=>b≠ib+1) A1 cs.length cs:=⟨hrow,fun p hp=>by
    obtain ⟨j,hj,rfl⟩:=List.getElem_of_mem hp
    have h5:=(HI.out.done j (by omega)).2
    rw [List.getD_eq_getElem?_getD,List.getElem?_eq_getElem hj] at h5
    exact h5.mono fun b hb _=>hb.1 _ HIS.out.lt (HIS.out.not (by decide) (by have:=HLB0.out; omega))⟩
   have HPW:=Lib.hid hprow
   have HPO:Hid (PlainOf (x.map MPack.p) (cs.map MPack.p)):=plain_of HSL.out (All2.of HI.out.len fun j hj=>(HI.out.done j (by have:=HLL.out; omega)).1)
   have HBK:=Lib.hid (HB.out.trans (HI.out.bel.mono HB.out.size))
   clear hcn ho hrow hprow
   have z0:=H2k.out.at_ 0 _ rfl
   have hzl:ib+1<wk.heap.size:=H2k.out.lt
   have hzf:=H2k.out.fr
   go_wp2
   have hbt:But (fun b=>b=ib+1) wk (wk.setCell ⟨ib+1,0,none⟩ (.slice A1 k c1)):=But.one wk (ib+1) 0 _
   refine bodyPost_ret (v:=.agg #[.slice A1 k c1]) (by simp [results,Tryz.results11,go_sem,z0]) rfl ⟨A1,c1,cs,by rw [HCN.out],?_,⟨by rw [HCN.out]; exact HC1.out.1,HC1.out.2.1,HC1.out.2.2⟩,HPO.out,HBK.out.trans (hbt.below (B:=w.heap.size) (fun b e=>by omega) HBK.out.size)⟩
   exact (HPW.out.keep (keep_but hbt fun b hb e=>hb e)).mono fun b _ hl=>hl
end Go.Proofs.YtgakcdcfblgagaaGreatDoor.Copy
namespace Go.Proofs.YtgakcdcfblgagaaGreatDoor.Rank
open Go.RowKit Num Ident Semver Fr
open Go.Maps (Keyed IsMap)
open Range (Rng noRng RV KeepS LtB LenOk goodR wt)
open KR (KRow AtV)
open Model (PDep PRel PPack MDep MVer MRel MPack DepOk VerOk RelOk PackOk DRow RRow PRow SlOk FewX strKeyed strKey)
open Name (Numbers)

theorem zeroInt (w:World):(zeroValue 3).run Tryz.prog w=.ok (.int .i64 0) w:=by kernel_rfl
def NumAt (W:World) (mb:Nat) (x:List (List UInt8)):Prop :=
 ∃ D:DataW Unit,W.ownsMap Tryz.prog 9 (plainElem Tryz.prog 3) mb x.length D∧Numbers D x
theorem NumAt.lt {W:World} {mb:Nat} {x:List (List UInt8)} (h:NumAt W mb x):mb<W.heap.size:=by obtain ⟨D,h,_⟩:=h; exact h.lt
theorem NumAt.made (w:World):NumAt (w.alloc (.map #[] 0)) w.heap.size []:=⟨.map [],World.ownsMap_made (H:=Unit) w _ _ _,Numbers.empty⟩
theorem NumAt.but {T:Nat→Prop} {W W':World} {mb:Nat} {x:List (List UInt8)} (h:NumAt W mb x) (hb:But T W W') (hn:¬ T mb):NumAt W' mb x:=by
 obtain ⟨D,h1,h2⟩:=h
 exact ⟨D,map_but h1 hb hn,h2⟩
theorem NumAt.kept {B:Nat} {W W':World} {mb:Nat} {x:List (List UInt8)} (h:NumAt W mb x) (hb:Below B W W') (hB:mb<B):NumAt W' mb x :=
 h.but (T:=fun k=>B≤k) (But.of_below hb fun k _ hk=>by omega) (by omega)
def findI (x:List (List UInt8)) (s:List UInt8):Int:=if s ∈ x then ((Name.find x s:Nat):Int) else 0
theorem NumAt.look {W:World} {mb:Nat} {x:List (List UInt8)} {s:ByteArray} (h:NumAt W mb x) (hs:s.size≤maxLen) :
  (Instr.lookup 107 (.map (some mb)) (.string s) true).run Tryz.prog W=.ok (.tuple #[.int .i64 (findI x s.data.toList),.bool (decide (s.data.toList ∈ x))]) W:=by
 obtain ⟨D,hown,hN⟩:=h
 obtain ⟨v,ps,hrun,hv⟩:=hown.look_ok (t:=107) (e:=3) strKeyed Tryz.underlying107 (z:=.int .i64 0) (zeroInt W) (zd:=.lit (.int .i64 0)) (zp:=[]) (plainElem_int Tryz.underlying3 (by decide)) (strKey hs)
 obtain ⟨c,rfl,hc,_⟩:=plainElem_int_inv Tryz.underlying3 hv
 rw [hrun,hN.has]
 simp only [Prod.mk.injEq] at hc
 unfold findI
 by_cases hm:s.data.toList ∈ x
 ·have:=hN.num _ hm
  rw [hc.1] at this
  injection this with this; injection this with _ this
  rw [if_pos hm,this]
 ·have:=Go.Maps.atKey_of_not_has (hN.miss hm) (.lit (.int .i64 0))
  rw [hc.1] at this
  injection this with this; injection this with _ this
  rw [if_neg hm,this]
structure Tbl (W:World) (tb mb:Nat) (A:Option Addr) (n c:Nat) (y:List MPack):Prop where
 at_:AtV W tb [.slice A n c,.map (some mb)]
 row:PRow W (LtB W.heap.size) A n y
 nums:NumAt W mb (y.map MPack.name)
 sl:SlOk A n c
 few:FewX y
 ok:TabOk (y.map MPack.p)
theorem Tbl.kept {W W':World} {tb mb:Nat} {A:Option Addr} {n c:Nat} {y:List MPack} (h:Tbl W tb mb A n c y) (hb:Below W.heap.size W W'):Tbl W' tb mb A n c y :=
 ⟨h.at_.kept hb h.at_.lt,(h.row.keep (KeepS.of_below hb)).mono fun _ g _=>Nat.lt_of_lt_of_le g hb.size,h.nums.kept hb h.nums.lt,h.sl,h.few,h.ok⟩
theorem Tbl.len {W:World} {tb mb:Nat} {A:Option Addr} {n c:Nat} {y:List MPack} (h:Tbl W tb mb A n c y):y.length=n∧n≤6:=⟨h.row.row.1,by have:=h.few.len; have:=h.row.row.1; omega⟩
def packM (y:List MPack) (p:Int):MPack:=if 0≤p∧p<y.length then y.getD p.toNat default else default
theorem packM_in {y:List MPack} {k:Nat} (h:k<y.length):packM y (k:Int)=y.getD k default:=by
 unfold packM; rw [if_pos ⟨by omega,by omega⟩,Int.toNat_natCast]
theorem packM_out {y:List MPack} {p:Int} (h:p<0∨(y.length:Int)≤p):packM y p=default:=by
 unfold packM; rw [if_neg (by omega)]
theorem packM_name (y:List MPack) (p:Int):(packM y p).name=nameO (y.map MPack.p) p:=by
 unfold packM nameO
 rw [List.length_map]
 split
 ·rw [Copy.getD_p]; rfl
 ·rfl
theorem packM_rels (y:List MPack) (p:Int):(packM y p).rels.map MRel.p=relsO (y.map MPack.p) p:=by
 unfold packM relsO
 rw [List.length_map]
 split
 ·rw [Copy.getD_p]; rfl
 ·rfl
theorem pack_default (w:World) (S:Nat→Prop):PackOk w S (default:MPack):=⟨Nat.zero_le _,⟨KRow.none_ _ _ _,fun r h=>(List.not_mem_nil h).elim⟩,⟨Nat.le_refl _,by show 0≤maxLen; unfold maxLen; omega⟩,fun _=>rfl⟩
theorem Tbl.pack {W:World} {tb mb:Nat} {A:Option Addr} {n c:Nat} {y:List MPack} (h:Tbl W tb mb A n c y) (p:Int):PackOk W (LtB W.heap.size) (packM y p)∧(packM y p).rels.length≤6∧(packM y p).name.length≤300∧(∀ r ∈ (packM y p).rels,Model.FewRel r)∧((packM y p).rels.map MRel.p).Pairwise fun a b=>Prec.fullV a.v b.v<0:=by
 by_cases hp:0≤p∧p<y.length
 ·obtain ⟨k,rfl⟩:∃ k:Nat,p=(k:Int):=⟨p.toNat,by omega⟩
  have hk:k<y.length:=by omega
  rw [packM_in hk]
  have hm:y.getD k default ∈ y:=by rw [List.getD_eq_getElem?_getD,List.getElem?_eq_getElem hk]; exact List.getElem_mem _
  exact ⟨h.row.ok _ hm,(h.few.pack _ hm).2,(h.few.pack _ hm).1,fun r hr=>h.few.rel _ hm r hr,h.ok.vers _ (List.mem_map.2 ⟨_,hm,rfl⟩)⟩
 ·rw [packM_out (by omega)]
  exact ⟨pack_default _ _,by show 0≤6; omega,by show 0≤300; omega,(fun r hr=>(List.not_mem_nil hr).elim),List.Pairwise.nil⟩
end Go.Proofs.YtgakcdcfblgagaaGreatDoor.Rank
