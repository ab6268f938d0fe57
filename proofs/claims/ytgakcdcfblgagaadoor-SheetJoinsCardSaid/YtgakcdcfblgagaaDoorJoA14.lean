/-
  What the theorem of the last text needs of these: ShTree, ShName. Conditions: as each theorem states.
-/
import Derived.Test.YtgakcdcfblgagaaDoorJoA1
import Derived.Test.YtgakcdcfblgagaaDoorJoA2
import Derived.Test.YtgakcdcfblgagaaDoorJoA8
import Derived.Test.YtgakcdcfblgagaaDoorJoA10
import Derived.Test.YtgakcdcfblgagaaDoorJoA13
set_option maxRecDepth 100000
set_option maxHeartbeats 25600000
namespace Go.Proofs.YtgakcdcfblgagaaDoor.Sheet
open Go.RowKit Num Ident Semver Fr
open Range (Rng noRng KeepS LtB InS)
open KR (KRow AtV)
open Model (PDep PRel PPack MDep MVer MRel MPack DepOk VerOk RelOk PackOk DRow RRow PRow)

theorem own_caps {W:World} {B n c k:Nat} {e:TypeId} {A:Option Addr} {xs:List Value} (h:W.ownsRow B e k (.slice A n c) n xs):n≤c∧c≤maxLen∧(A=none→c=0):=by
 rcases h.2 with ⟨h',rfl⟩ | ⟨g,cap,cur,h',_,_,hnc,hcm,_⟩
 ·injection h' with _ _ h3
  subst h3
  exact ⟨Nat.le_refl _,by unfold maxLen; omega,fun _=>rfl⟩
 ·injection h' with h1 _ h3
  subst h3
  exact ⟨hnc,hcm,fun e=>by rw [e] at h1; cases h1⟩
theorem krow_own {α:Type} [Inhabited α] {vals:α→List Value} {k:Nat} (hk:∀ x,(vals x).length=k) {W:World} {S:Nat→Prop} {B n c:Nat} {e:TypeId} {A:Option Addr} {l:List α} (h:W.ownsRow B e k (.slice A n c) n (l.flatMap vals)) (hl:l.length=n) (hS:∀ g,(Value.slice A n c).ownBlock=some g→S g):KRow vals k W S A n l:=by
 obtain ⟨A',c',e',_,_,h4⟩:=own_cells hk h hl
 injection e' with e1 _ e3
 subst e1
 subst e3
 refine ⟨hl,fun h0=>?_⟩
 obtain ⟨g,e,_,hlt,_,hc⟩:=h4 h0
 exact ⟨g,0,e,hS g (by rw [e]; rfl),hlt,hc⟩
theorem keepS_but {T S:Nat→Prop} {w w':World} (h:But T w w') (hn:∀ g,S g→¬ T g):KeepS S w w':=Copy.keep_but h hn
theorem atv_but {T:Nat→Prop} {w w':World} {b:Nat} {L:List Value} (h:AtV w b L) (k:But T w w') (hn:¬ T b):AtV w' b L :=
 ⟨Nat.lt_of_lt_of_le h.lt k.size,fun o=>(k.frozen h.lt hn).trans (h.fr o),fun i u hu=>(k.cell h.lt hn).trans (h.at_ i u hu)⟩
theorem atv_one {w:World} {b:Nat} {u:Value} (h:AtV w b [u]) (v:Value):AtV (w.setCell ⟨b,0,none⟩ v) b [v]:=by
 have c0:=h.at_ 0 u rfl
 refine ⟨by simpa using h.lt,fun o=>by simp [go_sem,h.fr],fun i x hx=>?_⟩
 cases i with
 | zero =>
  have:v=x:=by simpa using hx
  subst this
  simp [go_sem,c0]
 | succ i=>simp at hx
theorem flat_last {α:Type} (f:α→List Value) (k:Nat) (hk:∀ x,(f x).length=k):∀ (l:List α) (r r':α) (i:Nat) (u:Value),i<k→(f r).set i u=f r'→((l ++ [r]).flatMap f).set (l.length * k+i) u=(l ++ [r']).flatMap f
 | [],r,r',i,u,hi,h=>by
  simp only [List.nil_append,List.flatMap_cons,List.flatMap_nil,List.append_nil,List.length_nil,Nat.zero_mul,Nat.zero_add]
  exact h
 | x :: l,r,r',i,u,hi,h=>by
  rw [List.cons_append,List.flatMap_cons,List.cons_append,List.flatMap_cons,List.length_cons,Nat.succ_mul,← flat_last f k hk l r r' i u hi h]
  rw [List.set_append_right _ _ (by rw [hk]; omega),hk]
  rw [show l.length * k+k+i - k=l.length * k+i by omega]
abbrev nv (r:MRel):Value:=.slice r.N r.needs.length r.nc
abbrev bv (r:MRel):Value:=.slice r.B r.bans.length r.bc
abbrev rv (p:MPack):Value:=.slice p.R p.rels.length p.rc
structure LastR (W:World) (B M:Nat) (S:Nat→Prop) (r:MRel):Prop where
 ver:VerOk W S r.ver
 needs:W.ownsRow B 53 8 (nv r) r.needs.length (r.needs.flatMap MDep.vals)
 bans:W.ownsRow B 53 8 (bv r) r.bans.length (r.bans.flatMap MDep.vals)
 nd:∀ d ∈ r.needs,DepOk W S d
 bd:∀ d ∈ r.bans,DepOk W S d
 ap:∀ g,(nv r).ownBlock=some g→(bv r).ownBlock≠some g
 nS:∀ g,S g→(nv r).ownBlock≠some g
 bS:∀ g,S g→(bv r).ownBlock≠some g
 nM:∀ g,(nv r).ownBlock=some g→g<M
 bM:∀ g,(bv r).ownBlock=some g→g<M
theorem LastR.ok {W:World} {B M:Nat} {S S':Nat→Prop} {r:MRel} (h:LastR W B M S r) (hS:∀ g,S g→S' g) (hn:∀ g,(nv r).ownBlock=some g→S' g) (hb:∀ g,(bv r).ownBlock=some g→S' g):RelOk W S' r :=
 ⟨h.ver.mono fun g q _=>hS g q,⟨krow_own Model.dep_len h.needs rfl hn,fun d hd=>(h.nd d hd).mono fun g q _=>hS g q⟩,⟨krow_own Model.dep_len h.bans rfl hb,fun d hd=>(h.bd d hd).mono fun g q _=>hS g q⟩,
  ⟨(own_caps h.needs).1,(own_caps h.needs).2.1⟩,⟨(own_caps h.bans).1,(own_caps h.bans).2.1⟩,(own_caps h.needs).2.2,(own_caps h.bans).2.2⟩
structure LastP (W:World) (B M:Nat) (S:Nat→Prop) (p:MPack) (rs:List MRel) (q:Option MRel):Prop where
 rels:p.rels=rs ++ q.toList
 short:p.name.length≤maxLen
 own:W.ownsRow B 47 8 (rv p) p.rels.length (p.rels.flatMap MRel.vals)
 rS:∀ g,S g→(rv p).ownBlock≠some g
 rM:∀ g,(rv p).ownBlock=some g→g<M
 ini:∀ r ∈ rs,RelOk W S r
 lst:∀ r,q=some r→LastR W B M S r
def BlkP (p:MPack) (q:Option MRel) (g:Nat):Prop:=(rv p).ownBlock=some g∨∃ r,q=some r∧((nv r).ownBlock=some g∨(bv r).ownBlock=some g)
theorem LastP.ok {W:World} {B M:Nat} {S S':Nat→Prop} {p:MPack} {rs:List MRel} {q:Option MRel} (h:LastP W B M S p rs q) (hS:∀ g,S g→S' g) (hb:∀ g,BlkP p q g→S' g):PackOk W S' p:=by
 refine ⟨h.short,⟨krow_own Model.rel_len h.own rfl fun g e=>hb g (.inl e),fun r hr=>?_⟩,⟨(own_caps h.own).1,(own_caps h.own).2.1⟩,(own_caps h.own).2.2⟩
 rw [h.rels,List.mem_append] at hr
 rcases hr with hr | hr
 ·exact (h.ini r hr).mono fun g q _=>hS g q
 ·cases q with
  | none=>cases hr
  | some r' =>
   have e:r=r':=by simpa using hr
   subst e
   exact (h.lst r rfl).ok hS (fun g e=>hb g (.inr ⟨r,rfl,.inl e⟩)) fun g e=>hb g (.inr ⟨r,rfl,.inr e⟩)
structure Tree (W:World) (B M xb:Nat) (S:Nat→Prop) (A:Option Addr) (c:Nat) (ps:List MPack) (o:Option MPack) (rs:List MRel) (q:Option MRel):Prop where
 cell:AtV W xb [.slice A (ps ++ o.toList).length c]
 xB:xb<B
 own:W.ownsRow B 41 2 (.slice A (ps ++ o.toList).length c) (ps ++ o.toList).length ((ps ++ o.toList).flatMap MPack.vals)
 pS:∀ g,S g→(Value.slice A (ps ++ o.toList).length c).ownBlock≠some g
 pM:∀ g,(Value.slice A (ps ++ o.toList).length c).ownBlock=some g→g<M
 ini:∀ p ∈ ps,PackOk W S p
 lst:∀ p,o=some p→LastP W B M S p rs q
 emp:o=none→ps=[]
 lt:∀ g,S g→B≤g∧g<M
 le:M≤W.heap.size
section
variable {W W':World} {B M xb:Nat} {S:Nat→Prop} {A:Option Addr} {c:Nat} {ps:List MPack} {o:Option MPack} {rs:List MRel} {q:Option MRel}
theorem LastR.but {T:Nat→Prop} {r:MRel} (h:LastR W B M S r) (k:But T W W') (hS:∀ g,S g→¬ T g) (hn:∀ g,(nv r).ownBlock=some g→¬ T g) (hb:∀ g,(bv r).ownBlock=some g→¬ T g) (M':Nat) (hM:M≤M'):LastR W' B M' S r :=
 ⟨h.ver.keep (keepS_but k hS),own_but h.needs k hn,own_but h.bans k hb,fun d hd=>(h.nd d hd).keep (keepS_but k hS),fun d hd=>(h.bd d hd).keep (keepS_but k hS),h.ap,h.nS,h.bS,fun g e=>Nat.lt_of_lt_of_le (h.nM g e) hM,fun g e=>Nat.lt_of_lt_of_le (h.bM g e) hM⟩
theorem LastR.from {r:MRel} (h:LastR W B M S r):∀ g,(nv r).ownBlock=some g∨(bv r).ownBlock=some g→B≤g∧g<M:=fun g e=>by
 rcases e with e | e
 ·exact ⟨(h.needs.lt g e).1,h.nM g e⟩
 ·exact ⟨(h.bans.lt g e).1,h.bM g e⟩
theorem LastP.but {T:Nat→Prop} {p:MPack} (h:LastP W B M S p rs q) (k:But T W W') (hS:∀ g,S g→¬ T g) (hb:∀ g,BlkP p q g→¬ T g) (M':Nat) (hM:M≤M'):LastP W' B M' S p rs q :=
 ⟨h.rels,h.short,own_but h.own k fun g e=>hb g (.inl e),h.rS,fun g e=>Nat.lt_of_lt_of_le (h.rM g e) hM,fun r hr=>(h.ini r hr).keep (keepS_but k hS),fun r hr=>(h.lst r hr).but k hS (fun g e=>hb g (.inr ⟨r,hr,.inl e⟩)) (fun g e=>hb g (.inr ⟨r,hr,.inr e⟩)) M' hM⟩
theorem LastP.from {p:MPack} (h:LastP W B M S p rs q):∀ g,BlkP p q g→B≤g∧g<M:=fun g e=>by
 rcases e with e | ⟨r,hr,e⟩
 ·exact ⟨(h.own.lt g e).1,h.rM g e⟩
 ·exact (h.lst r hr).from g e
theorem Tree.but {T:Nat→Prop} (h:Tree W B M xb S A c ps o rs q) (k:But T W W') (hT:∀ g,B≤g→g<M→¬ T g) (hx:¬ T xb):Tree W' B M xb S A c ps o rs q where
 cell:=atv_but h.cell k hx
 xB:=h.xB
 own:=own_but h.own k fun g e=>hT g (h.own.lt g e).1 (h.pM g e)
 pS:=h.pS
 pM:=h.pM
 ini p hp:=(h.ini p hp).keep (keepS_but k fun g e=>hT g (h.lt g e).1 (h.lt g e).2)
 lst p hp:=(h.lst p hp).but k (fun g e=>hT g (h.lt g e).1 (h.lt g e).2) (fun g e=>hT g ((h.lst p hp).from g e).1 ((h.lst p hp).from g e).2) M (Nat.le_refl _)
 emp:=h.emp
 lt:=h.lt
 le:=Nat.le_trans h.le k.size
theorem Tree.zero (hc:AtV W xb [.slice none 0 0]) (hB:xb<B) (hle:B≤W.heap.size):Tree W B B xb (fun _=>False) none 0 [] none [] none where
 cell:=hc
 xB:=hB
 own:=World.ownsRow_nil _ _ _ _
 pS _ e:=e.elim
 pM g e:=by cases e
 ini p hp:=by cases hp
 lst p hp:=by cases hp
 emp _:=rfl
 lt g e:=e.elim
 le:=hle

theorem BlkP.ne {p:MPack} {k:Nat} {E:TypeId} {v:Value} {n:Nat} {xs:List Value} (h:LastP W B M S p rs q) (ho:W.ownsRow B E k v n xs) (h1:E≠47) (h2:E≠53):∀ g,BlkP p q g→v.ownBlock≠some g:=fun g e e2=>by
 rcases e with e | ⟨r,hr,e⟩
 ·rcases own_apart ho h.own h1 with a | a
  ·rw [a] at e2; cases e2
  ·exact a (e2.trans e.symm)
 ·rcases e with e | e
  ·rcases own_apart ho (h.lst r hr).needs h2 with a | a
   ·rw [a] at e2; cases e2
   ·exact a (e2.trans e.symm)
  ·rcases own_apart ho (h.lst r hr).bans h2 with a | a
   ·rw [a] at e2; cases e2
   ·exact a (e2.trans e.symm)
theorem but_set (w:World) (b o:Nat) (v:Value):But (fun k=>k=b) w (w.setCell ⟨b,o,none⟩ v):=(But.refl _ _).set b o v (.inl rfl)
theorem slice_of {W:World} {B n k:Nat} {e:TypeId} {v:Value} {xs:List Value} (h:W.ownsRow B e k v n xs):∃ A c,v=.slice A n c:=by
 rcases h.2 with ⟨rfl,rfl⟩ | ⟨g,cap,cur,rfl,_⟩
 ·exact ⟨_,_,rfl⟩
 ·exact ⟨_,_,rfl⟩
theorem new_ne {v v':Value} {w:Nat} (hat:v'.ownBlock=v.ownBlock∨v'.ownBlock=some w) {g:Nat} (h1:v.ownBlock≠some g) (h2:g<w):v'.ownBlock≠some g:=by
 rcases hat with e | e
 ·rw [e]; exact h1
 ·rw [e]; intro q; injection q with q; omega
theorem Tree.addPack (h:Tree W B M xb S A c ps o rs q) {W1:World} {v':Value} (name:List UInt8) (hn:name.length≤maxLen)
  (ho:W1.ownsRow B 41 2 v' ((ps ++ o.toList).length+1) (((ps ++ o.toList) ++ [(⟨name,none,0,[]⟩:MPack)]).flatMap MPack.vals)) (hg:W.grownBy W1 (Value.slice A (ps ++ o.toList).length c).ownBlock)
  (hat:v'.ownBlock=(Value.slice A (ps ++ o.toList).length c).ownBlock∨v'.ownBlock=some W.heap.size) :
  ∃ S' A' c',Tree (W1.setCell ⟨xb,0,none⟩ v') B W1.heap.size xb S' A' c' (ps ++ o.toList) (some ⟨name,none,0,[]⟩) [] none:=by
 obtain ⟨A',c',rfl⟩:=slice_of ho
 have hM:=h.le
 have hxo:(Value.slice A (ps ++ o.toList).length c).ownBlock≠some xb:=fun e=>by have:=(h.own.lt _ e).1; have:=h.xB; omega
 have k1:But (fun k=>(Value.slice A (ps ++ o.toList).length c).ownBlock=some k) W W1:=But.of_grown hg fun b e=>e
 have k2:=but_set W1 xb 0 (.slice A' ((ps ++ o.toList).length+1) c')
 have k3:But (fun k=>(Value.slice A (ps ++ o.toList).length c).ownBlock=some k∨k=xb) W (W1.setCell ⟨xb,0,none⟩ (.slice A' ((ps ++ o.toList).length+1) c')):=(k1.mono fun k e=>.inl e).trans k2 fun k e=>.inl (.inr e)
 have hz:(W1.setCell ⟨xb,0,none⟩ (.slice A' ((ps ++ o.toList).length+1) c')).heap.size=W1.heap.size:=by simp
 let S':Nat→Prop:=fun g=>S g∨∃ p,o=some p∧BlkP p q g
 have hS':∀ g,S' g→(B≤g∧g<M)∧(Value.slice A (ps ++ o.toList).length c).ownBlock≠some g:=fun g e=>by
  rcases e with e | ⟨p,hp,e⟩
  ·exact ⟨h.lt g e,h.pS g e⟩
  ·exact ⟨(h.lst p hp).from g e,BlkP.ne (h.lst p hp) h.own (by decide) (by decide) g e⟩
 have hK:KeepS S' W (W1.setCell ⟨xb,0,none⟩ (.slice A' ((ps ++ o.toList).length+1) c')):=keepS_but k3 fun g e d=>by
  rcases d with d | d
  ·exact (hS' g e).2 d
  ·have:=(hS' g e).1.1; have:=h.xB; omega
 have hlen:((ps ++ o.toList) ++ (some (⟨name,none,0,[]⟩:MPack)).toList).length=(ps ++ o.toList).length+1:=by simp [Nat.add_assoc]
 have hl2:((ps ++ o.toList) ++ (some (⟨name,none,0,[]⟩:MPack)).toList)=(ps ++ o.toList) ++ [⟨name,none,0,[]⟩]:=rfl
 refine ⟨S',A',c',?_,h.xB,?_,?_,?_,?_,?_,?_,fun g e=>⟨(hS' g e).1.1,?_⟩,by rw [hz]; exact Nat.le_refl _⟩
 ·rw [hlen]
  exact atv_one (atv_but h.cell k1 hxo) _
 ·rw [hlen,hl2]
  refine own_but ho k2 fun g e d=>?_
  have:=(ho.lt g e).1; have:=h.xB; omega
 ·intro g e
  rw [hlen]
  exact new_ne hat (hS' g e).2 (by have:=(hS' g e).1.2; omega)
 ·intro g e
  rw [hlen] at e
  exact (ho.lt g e).2
 ·intro p hp
  refine PackOk.keep (S:=S') ?_ hK
  rcases List.mem_append.1 hp with hp | hp
  ·exact (h.ini p hp).mono fun g e _=>.inl e
  ·cases o with
   | none=>cases hp
   | some p' =>
    have e:p=p':=by simpa using hp
    subst e
    exact (h.lst p rfl).ok (fun g e=>.inl e) fun g e=>.inr ⟨p,rfl,e⟩
 ·intro p hp
  injection hp with hp
  subst hp
  exact ⟨rfl,hn,World.ownsRow_nil _ _ _ _,(fun g _ e=>by cases e),(fun g e=>by cases e),(fun r hr=>by cases hr),fun r hr=>by cases hr⟩
 ·intro e; cases e
 ·have:=(hS' g e).1.2; have:=k1.size; omega
theorem Tree.at_pack {p:MPack} (h:Tree W B M xb S A c ps (some p) rs q):∃ g,A=some ⟨g,0,none⟩∧B≤g∧g<M∧g<W.heap.size∧(∀ k,W.frozen? ⟨g,k,none⟩=false)∧∀ i u,p.vals[i]?=some u→W.cell? ⟨g,ps.length * 2+i,none⟩=some u:=by
 obtain ⟨A',c',e,_,_,h4⟩:=own_cells Model.pack_len h.own rfl
 injection e with e1 _ e3
 subst e1
 obtain ⟨g,rfl,h5,h6,h7,h8⟩:=h4 (by simp)
 refine ⟨g,rfl,h5,h.pM g rfl,h6,h7,fun i u hu=>?_⟩
 have:=h8 ps.length (by simp) i u (by
  have e:(ps ++ (some p).toList).getD ps.length default=p:=by simp [List.getD]
  rw [e]; exact hu)
 rwa [Nat.zero_add] at this
theorem LastP.at_rel {p:MPack} {r:MRel} (h:LastP W B M S p rs (some r)):∃ g,p.R=some ⟨g,0,none⟩∧B≤g∧g<M∧g<W.heap.size∧(∀ k,W.frozen? ⟨g,k,none⟩=false)∧∀ i u,r.vals[i]?=some u→W.cell? ⟨g,rs.length * 8+i,none⟩=some u:=by
 obtain ⟨A',c',e,_,_,h4⟩:=own_cells Model.rel_len h.own rfl
 injection e with e1 _ e3
 subst e1
 obtain ⟨g,e,h5,h6,h7,h8⟩:=h4 (by rw [h.rels]; simp)
 refine ⟨g,e,h5,h.rM g (by show (Value.slice p.R _ _).ownBlock=_; rw [e]; rfl),h6,h7,fun i u hu=>?_⟩
 have:=h8 rs.length (by rw [h.rels]; simp) i u (by
  have e:p.rels.getD rs.length default=r:=by rw [h.rels]; simp [List.getD]
  rw [e]; exact hu)
 rwa [Nat.zero_add] at this
theorem own_ne {W:World} {B k1 k2 n1 n2:Nat} {E1 E2:TypeId} {v1 v2:Value} {x1 x2:List Value} (h1:W.ownsRow B E1 k1 v1 n1 x1) (h2:W.ownsRow B E2 k2 v2 n2 x2) (hne:E1≠E2) {g:Nat} (e1:v1.ownBlock=some g):v2.ownBlock≠some g:=fun e2=>by
 rcases own_apart h1 h2 hne with a | a
 ·rw [a] at e1; cases e1
 ·exact a (e1.trans e2.symm)
theorem Tree.addRel {p:MPack} (h:Tree W B M xb S A c ps (some p) rs q) {Sn:Nat→Prop} (ver:MVer) (y:Bool) (hv:VerOk W Sn ver) (hSn:∀ g,Sn g→M≤g∧g<W.heap.size) {W1:World} {v':Value} {gP:Nat} (hA:A=some ⟨gP,0,none⟩)
  (ho:W1.ownsRow B 47 8 v' (p.rels.length+1) ((p.rels ++ [(⟨ver,y,none,0,[],none,0,[]⟩:MRel)]).flatMap MRel.vals)) (hg:W.grownBy W1 (rv p).ownBlock) (hat:v'.ownBlock=(rv p).ownBlock∨v'.ownBlock=some W.heap.size) :
  ∃ S' A' c',Tree (W1.setCell ⟨gP,ps.length * 2+1,none⟩ v') B W1.heap.size xb S' A c ps (some ⟨p.name,A',c',p.rels ++ [⟨ver,y,none,0,[],none,0,[]⟩]⟩) (rs ++ q.toList) (some ⟨ver,y,none,0,[],none,0,[]⟩):=by
 obtain ⟨A',c',rfl⟩:=slice_of ho
 have hM:=h.le
 have hl:=h.lst p rfl
 obtain ⟨r,hr⟩:∃ r:MRel,r=⟨ver,y,none,0,[],none,0,[]⟩:=⟨_,rfl⟩
 rw [← hr] at ho ⊢
 obtain ⟨g0,e0,hgB,hgM,hgS,_⟩:=h.at_pack
 rw [hA] at e0
 obtain rfl:gP=g0:=by injection e0 with e0; injection e0
 subst hA
 have hgo:(Value.slice (some ⟨gP,0,none⟩) (ps ++ (some p).toList).length c).ownBlock=some gP:=rfl
 have hro:(rv p).ownBlock≠some gP:=own_ne h.own hl.own (by decide) hgo
 have k1:But (fun k=>(rv p).ownBlock=some k) W W1:=But.of_grown hg fun b e=>e
 have k2:=but_set W1 gP (ps.length * 2+1) (.slice A' (p.rels.length+1) c')
 generalize hWW:W1.setCell ⟨gP,ps.length * 2+1,none⟩ (.slice A' (p.rels.length+1) c')=W2 at k2 ⊢
 have k3:But (fun k=>(rv p).ownBlock=some k∨k=gP) W W2:=(k1.mono fun k e=>.inl e).trans k2 fun k e=>.inl (.inr e)
 have hz:W2.heap.size=W1.heap.size:=by rw [← hWW]; simp
 have hsz:=k1.size
 let S':Nat→Prop:=fun g=>S g∨Sn g∨∃ r,q=some r∧((nv r).ownBlock=some g∨(bv r).ownBlock=some g)
 have hS':∀ g,S' g→B≤g∧g<W.heap.size∧(rv p).ownBlock≠some g∧g≠gP:=fun g e=>by
  rcases e with e | e | ⟨r,hr,e⟩
  ·exact ⟨(h.lt g e).1,by have:=(h.lt g e).2; omega,hl.rS g e,fun d=>by subst d; exact h.pS g e rfl⟩
  ·refine ⟨by have:=(hSn g e).1; omega,(hSn g e).2,fun d=>?_,fun d=>?_⟩
   ·have:=hl.rM g d; have:=(hSn g e).1; omega
   ·have:=(hSn g e).1; omega
  ·refine ⟨((hl.lst r hr).from g e).1,by have:=((hl.lst r hr).from g e).2; omega,fun d=>?_,fun d=>?_⟩
   ·rcases e with e | e
    ·exact own_ne hl.own (hl.lst r hr).needs (by decide) d e
    ·exact own_ne hl.own (hl.lst r hr).bans (by decide) d e
   ·subst d
    rcases e with e | e
    ·exact own_ne h.own (hl.lst r hr).needs (by decide) hgo e
    ·exact own_ne h.own (hl.lst r hr).bans (by decide) hgo e
 have hK:KeepS S' W W2:=keepS_but k3 fun g e d=>by
  rcases d with d | d
  ·exact (hS' g e).2.2.1 d
  ·exact (hS' g e).2.2.2 d
 have hlen:(ps ++ (some (⟨p.name,A',c',p.rels ++ [r]⟩:MPack)).toList).length=(ps ++ (some p).toList).length:=by simp
 have hrl:(p.rels ++ [r]).length=p.rels.length+1:=by simp
 refine ⟨S',A',c',?_,h.xB,?_,?_,?_,?_,?_,?_,fun g e=>⟨(hS' g e).1,?_⟩,by rw [hz]; exact Nat.le_refl _⟩
 ·rw [hlen]
  refine atv_but h.cell k3 fun d=>?_
  rcases d with d | d
  ·have:=(hl.own.lt _ d).1; have:=h.xB; omega
  ·have:=h.xB; omega
 ·rw [hlen]
  have h1:=((own_but h.own k1 fun g e d=>own_ne h.own hl.own (by decide) e d).stored (ps.length * 2+1) (.slice A' (p.rels.length+1) c')).1
  rw [hWW] at h1
  have h2:=flat_last MPack.vals 2 Model.pack_len ps p ⟨p.name,A',c',p.rels ++ [r]⟩ 1 (.slice A' (p.rels.length+1) c') (by omega) (by show [_,_].set 1 _=[_,_]; rw [hrl]; rfl)
  rw [show (ps ++ (some p).toList)=ps ++ [p] from rfl] at h1 ⊢
  rw [h2] at h1
  exact h1
 ·intro g e d
  rw [hlen] at d
  rw [hgo] at d
  injection d with d
  exact (hS' g e).2.2.2 d.symm
 ·intro g d
  rw [hlen,hgo] at d
  injection d with d
  omega
 ·intro p hp
  exact PackOk.keep (S:=S') ((h.ini p hp).mono fun g e _=>.inl e) hK
 ·intro p' hp
  injection hp with hp
  subst hp
  refine ⟨?_,hl.short,?_,?_,?_,?_,?_⟩
  ·show p.rels ++ [r]=rs ++ q.toList ++ [r]
   rw [hl.rels]
  ·show W2.ownsRow B _ 8 (.slice A' (p.rels ++ [r]).length c') (p.rels ++ [r]).length _
   rw [hrl]
   refine own_but ho k2 fun g e d=>?_
   subst d
   exact new_ne hat hro hgS e
  ·intro g e
   show (Value.slice A' (p.rels ++ [r]).length c').ownBlock≠some g
   rw [hrl]
   exact new_ne hat (hS' g e).2.2.1 (hS' g e).2.1
  ·intro g e
   have e:(Value.slice A' (p.rels ++ [r]).length c').ownBlock=some g:=e
   rw [hrl] at e
   exact (ho.lt g e).2
  ·intro r' hr'
   refine RelOk.keep (S:=S') ?_ hK
   rcases List.mem_append.1 hr' with hr' | hr'
   ·exact (hl.ini r' hr').mono fun g e _=>.inl e
   ·cases q with
    | none=>cases hr'
    | some r2 =>
     have e:r'=r2:=by simpa using hr'
     subst e
     exact (hl.lst r' rfl).ok (fun g e=>.inl e) (fun g e=>.inr (.inr ⟨r',rfl,.inl e⟩)) fun g e=>.inr (.inr ⟨r',rfl,.inr e⟩)
  ·intro r' hr'
   injection hr' with hr'
   subst hr'
   subst hr
   exact ⟨(hv.mono fun g e _=>.inr (.inl e)).keep hK,World.ownsRow_nil _ _ _ _,World.ownsRow_nil _ _ _ _,(fun d hd=>by cases hd),(fun d hd=>by cases hd),(fun g e=>by cases e),(fun g _ e=>by cases e),(fun g _ e=>by cases e),(fun g e=>by cases e),fun g e=>by cases e⟩
 ·intro e; cases e
 ·have:=(hS' g e).2.1; omega
theorem Tree.addNeed {p:MPack} {r:MRel} (h:Tree W B M xb S A c ps (some p) rs (some r)) {Sn:Nat→Prop} (d:MDep) (hd:DepOk W Sn d) (hSn:∀ g,Sn g→M≤g∧g<W.heap.size) {W1:World} {v':Value} {gR:Nat} (hR:p.R=some ⟨gR,0,none⟩)
  (ho:W1.ownsRow B 53 8 v' (r.needs.length+1) ((r.needs ++ [d]).flatMap MDep.vals)) (hg:W.grownBy W1 (nv r).ownBlock) (hat:v'.ownBlock=(nv r).ownBlock∨v'.ownBlock=some W.heap.size) :
  ∃ S' A' c',Tree (W1.setCell ⟨gR,rs.length * 8+6,none⟩ v') B W1.heap.size xb S' A c ps (some ⟨p.name,p.R,p.rc,rs ++ [⟨r.ver,r.yanked,A',c',r.needs ++ [d],r.B,r.bc,r.bans⟩]⟩) rs (some ⟨r.ver,r.yanked,A',c',r.needs ++ [d],r.B,r.bc,r.bans⟩):=by
 obtain ⟨A',c',rfl⟩:=slice_of ho
 have hM:=h.le
 have hl:=h.lst p rfl
 have hr:=hl.lst r rfl
 obtain ⟨r',hr'⟩:∃ r':MRel,r'=⟨r.ver,r.yanked,A',c',r.needs ++ [d],r.B,r.bc,r.bans⟩:=⟨_,rfl⟩
 have hfl:r'.needs.length=r.needs.length+1:=by rw [hr']; simp
 obtain ⟨g0,e0,hgB,hgM,hgS,_⟩:=hl.at_rel
 rw [hR] at e0
 obtain rfl:gR=g0:=by injection e0 with e0; injection e0
 have hgo:(rv p).ownBlock=some gR:=by show (Value.slice p.R _ _).ownBlock=_; rw [hR]; rfl
 have hno:(nv r).ownBlock≠some gR:=own_ne hl.own hr.needs (by decide) hgo
 have k1:But (fun k=>(nv r).ownBlock=some k) W W1:=But.of_grown hg fun b e=>e
 have k2:=but_set W1 gR (rs.length * 8+6) (.slice A' (r.needs.length+1) c')
 generalize hWW:W1.setCell ⟨gR,rs.length * 8+6,none⟩ (.slice A' (r.needs.length+1) c')=W2 at k2 ⊢
 have k3:But (fun k=>(nv r).ownBlock=some k∨k=gR) W W2:=(k1.mono fun k e=>.inl e).trans k2 fun k e=>.inl (.inr e)
 have hz:W2.heap.size=W1.heap.size:=by rw [← hWW]; simp
 have hsz:=k1.size
 let S':Nat→Prop:=fun g=>S g∨Sn g
 have hS':∀ g,S' g→B≤g∧g<W.heap.size∧(nv r).ownBlock≠some g∧g≠gR∧(bv r).ownBlock≠some g:=fun g e=>by
  rcases e with e | e
  ·exact ⟨(h.lt g e).1,by have:=(h.lt g e).2; omega,hr.nS g e,(fun d=>by subst d; exact hl.rS g e hgo),hr.bS g e⟩
  ·refine ⟨by have:=(hSn g e).1; omega,(hSn g e).2,(fun d=>?_),(fun d=>?_),fun d=>?_⟩
   ·have:=hr.nM g d; have:=(hSn g e).1; omega
   ·have:=(hSn g e).1; omega
   ·have:=hr.bM g d; have:=(hSn g e).1; omega
 have hK:KeepS S' W W2:=keepS_but k3 fun g e d=>by
  rcases d with d | d
  ·exact (hS' g e).2.2.1 d
  ·exact (hS' g e).2.2.2.1 d
 obtain ⟨p',hp'⟩:∃ p':MPack,p'=⟨p.name,p.R,p.rc,rs ++ [r']⟩:=⟨_,rfl⟩
 have hpl:p'.rels.length=p.rels.length:=by rw [hp',hl.rels]; simp
 have hpv:p'.vals=p.vals:=by
  show [Value.string (Ident.mk p'.name),.slice p'.R p'.rels.length p'.rc]=_
  rw [hpl,hp']; rfl
 have hrv:rv p'=rv p:=by
  show Value.slice p'.R p'.rels.length p'.rc=_
  rw [hpl,hp']
 have hlen:(ps ++ (some p').toList).length=(ps ++ (some p).toList).length:=by simp
 have hfm:(ps ++ (some p').toList).flatMap MPack.vals=(ps ++ (some p).toList).flatMap MPack.vals:=by
  show (ps ++ [p']).flatMap MPack.vals=(ps ++ [p]).flatMap MPack.vals
  rw [List.flatMap_append,List.flatMap_append]
  simp [hpv]
 refine ⟨S',A',c',?_⟩
 rw [← hr',← hp']
 refine ⟨?_,h.xB,?_,?_,?_,?_,?_,?_,fun g e=>⟨(hS' g e).1,?_⟩,by rw [hz]; exact Nat.le_refl _⟩
 ·rw [hlen]
  refine atv_but h.cell k3 fun d=>?_
  rcases d with d | d
  ·have:=(hr.needs.lt _ d).1; have:=h.xB; omega
  ·have:=h.xB; omega
 ·rw [hlen,hfm]
  refine own_but h.own k3 fun g e d=>?_
  rcases d with d | d
  ·exact own_ne h.own hr.needs (by decide) e d
  ·subst d; exact own_ne h.own hl.own (by decide) e hgo
 ·intro g e
  rw [hlen]
  rcases e with e | e
  ·exact h.pS g e
  ·intro d; have:=h.pM g d; have:=(hSn g e).1; omega
 ·intro g e
  rw [hlen] at e
  have:=h.pM g e; omega
 ·intro p hp
  exact PackOk.keep (S:=S') ((h.ini p hp).mono fun g e _=>.inl e) hK
 ·intro p2 hp2
  injection hp2 with hp2
  subst hp2
  refine ⟨?_,?_,?_,?_,?_,?_,?_⟩
  ·rw [hp']; rfl
  ·rw [hp']; exact hl.short
  ·rw [hrv,hpl]
   have h1:=own_but hl.own k1 fun g e d=>own_ne hl.own hr.needs (by decide) e d
   have h1':W1.ownsRow B 47 8 (.slice (some ⟨gR,0,none⟩) p.rels.length p.rc) p.rels.length (p.rels.flatMap MRel.vals):=by rw [← hR]; exact h1
   have h2:=(h1'.stored (rs.length * 8+6) (.slice A' (r.needs.length+1) c')).1
   rw [hWW] at h2
   have h3:=flat_last MRel.vals 8 Model.rel_len rs r r' 6 (.slice A' (r.needs.length+1) c') (by omega) (by rw [hr']; simp [MRel.vals,MVer.vals])
   have h4:p.rels=rs ++ [r]:=hl.rels
   have h5:p'.rels=rs ++ [r']:=by rw [hp']
   rw [h5,← h3,← h4]
   show W2.ownsRow B _ 8 (.slice p.R p.rels.length p.rc) _ _
   rw [hR]
   exact h2
  ·intro g e d
   rw [hrv,hgo] at d
   injection d with d
   exact (hS' g e).2.2.2.1 d.symm
  ·intro g e
   rw [hrv,hgo] at e
   injection e with e
   omega
  ·intro r2 hr2
   exact RelOk.keep (S:=S') ((hl.ini r2 hr2).mono fun g e _=>.inl e) hK
  ·intro r2 hr2
   injection hr2 with hr2
   subst hr2
   have k4:∀ g,(bv r).ownBlock=some g→¬ ((nv r).ownBlock=some g∨g=gR):=fun g e d=>by
    rcases d with d | d
    ·exact hr.ap g d e
    ·subst d; exact own_ne hl.own hr.bans (by decide) hgo e
   have hu:bv r'=bv r:=by rw [hr']
   have hv:nv r'=.slice A' (r.needs.length+1) c':=by show Value.slice r'.N r'.needs.length r'.nc=_; rw [hfl,hr']
   have f1:W2.ownsRow B 53 8 (bv r') r'.bans.length (r'.bans.flatMap MDep.vals):=by rw [hu,hr']; exact own_but hr.bans k3 k4
   have f2:W2.ownsRow B 53 8 (nv r') r'.needs.length (r'.needs.flatMap MDep.vals):=by
    rw [hv,hfl,hr']
    refine own_but ho k2 fun g e d=>?_
    subst d
    exact new_ne hat hno hgS e
   have f3:∀ x ∈ r'.bans,DepOk W2 S' x:=fun x hx=>DepOk.keep (S:=S') ((hr.bd x (by rw [hr'] at hx; exact hx)).mono fun g e _=>.inl e) hK
   have f4:∀ x ∈ r'.needs,DepOk W2 S' x:=fun x hx=>by
    rw [hr'] at hx
    rcases List.mem_append.1 hx with hx | hx
    ·exact DepOk.keep (S:=S') ((hr.nd x hx).mono fun g e _=>.inl e) hK
    ·obtain rfl:=List.mem_singleton.1 hx
     exact DepOk.keep (S:=S') (hd.mono fun g e _=>.inr e) hK
   have f5:∀ g,(nv r').ownBlock=some g→(bv r').ownBlock≠some g:=fun g e d=>by
    rw [hv] at e
    rw [hu] at d
    exact new_ne hat (fun q=>(k4 g d) (.inl q)) (by have:=hr.bM g d; omega) e
   have f6:∀ g,S' g→(nv r').ownBlock≠some g:=fun g e=>by rw [hv]; exact new_ne hat (hS' g e).2.2.1 (hS' g e).2.1
   have f7:∀ g,S' g→(bv r').ownBlock≠some g:=fun g e=>by rw [hu]; exact (hS' g e).2.2.2.2
   have f8:∀ g,(nv r').ownBlock=some g→g<W1.heap.size:=fun g e=>by rw [hv] at e; exact (ho.lt g e).2
   have f9:∀ g,(bv r').ownBlock=some g→g<W1.heap.size:=fun g e=>by rw [hu] at e; have:=hr.bM g e; omega
   have f0:VerOk W2 S' r'.ver:=by rw [hr']; exact VerOk.keep (S:=S') (hr.ver.mono fun g e _=>.inl e) hK
   exact ⟨f0,f2,f1,f4,f3,f5,f6,f7,f8,f9⟩
 ·intro e; cases e
 ·have:=(hS' g e).2.1; omega

theorem Tree.addBan {p:MPack} {r:MRel} (h:Tree W B M xb S A c ps (some p) rs (some r)) {Sn:Nat→Prop} (d:MDep) (hd:DepOk W Sn d) (hSn:∀ g,Sn g→M≤g∧g<W.heap.size) {W1:World} {v':Value} {gR:Nat} (hR:p.R=some ⟨gR,0,none⟩)
  (ho:W1.ownsRow B 53 8 v' (r.bans.length+1) ((r.bans ++ [d]).flatMap MDep.vals)) (hg:W.grownBy W1 (bv r).ownBlock) (hat:v'.ownBlock=(bv r).ownBlock∨v'.ownBlock=some W.heap.size) :
  ∃ S' A' c',Tree (W1.setCell ⟨gR,rs.length * 8+7,none⟩ v') B W1.heap.size xb S' A c ps (some ⟨p.name,p.R,p.rc,rs ++ [⟨r.ver,r.yanked,r.N,r.nc,r.needs,A',c',r.bans ++ [d]⟩]⟩) rs (some ⟨r.ver,r.yanked,r.N,r.nc,r.needs,A',c',r.bans ++ [d]⟩):=by
 obtain ⟨A',c',rfl⟩:=slice_of ho
 have hM:=h.le
 have hl:=h.lst p rfl
 have hr:=hl.lst r rfl
 obtain ⟨r',hr'⟩:∃ r':MRel,r'=⟨r.ver,r.yanked,r.N,r.nc,r.needs,A',c',r.bans ++ [d]⟩:=⟨_,rfl⟩
 have hfl:r'.bans.length=r.bans.length+1:=by rw [hr']; simp
 obtain ⟨g0,e0,hgB,hgM,hgS,_⟩:=hl.at_rel
 rw [hR] at e0
 obtain rfl:gR=g0:=by injection e0 with e0; injection e0
 have hgo:(rv p).ownBlock=some gR:=by show (Value.slice p.R _ _).ownBlock=_; rw [hR]; rfl
 have hno:(bv r).ownBlock≠some gR:=own_ne hl.own hr.bans (by decide) hgo
 have k1:But (fun k=>(bv r).ownBlock=some k) W W1:=But.of_grown hg fun b e=>e
 have k2:=but_set W1 gR (rs.length * 8+7) (.slice A' (r.bans.length+1) c')
 generalize hWW:W1.setCell ⟨gR,rs.length * 8+7,none⟩ (.slice A' (r.bans.length+1) c')=W2 at k2 ⊢
 have k3:But (fun k=>(bv r).ownBlock=some k∨k=gR) W W2:=(k1.mono fun k e=>.inl e).trans k2 fun k e=>.inl (.inr e)
 have hz:W2.heap.size=W1.heap.size:=by rw [← hWW]; simp
 have hsz:=k1.size
 let S':Nat→Prop:=fun g=>S g∨Sn g
 have hS':∀ g,S' g→B≤g∧g<W.heap.size∧(bv r).ownBlock≠some g∧g≠gR∧(nv r).ownBlock≠some g:=fun g e=>by
  rcases e with e | e
  ·exact ⟨(h.lt g e).1,by have:=(h.lt g e).2; omega,hr.bS g e,(fun d=>by subst d; exact hl.rS g e hgo),hr.nS g e⟩
  ·refine ⟨by have:=(hSn g e).1; omega,(hSn g e).2,(fun d=>?_),(fun d=>?_),fun d=>?_⟩
   ·have:=hr.bM g d; have:=(hSn g e).1; omega
   ·have:=(hSn g e).1; omega
   ·have:=hr.nM g d; have:=(hSn g e).1; omega
 have hK:KeepS S' W W2:=keepS_but k3 fun g e d=>by
  rcases d with d | d
  ·exact (hS' g e).2.2.1 d
  ·exact (hS' g e).2.2.2.1 d
 obtain ⟨p',hp'⟩:∃ p':MPack,p'=⟨p.name,p.R,p.rc,rs ++ [r']⟩:=⟨_,rfl⟩
 have hpl:p'.rels.length=p.rels.length:=by rw [hp',hl.rels]; simp
 have hpv:p'.vals=p.vals:=by
  show [Value.string (Ident.mk p'.name),.slice p'.R p'.rels.length p'.rc]=_
  rw [hpl,hp']; rfl
 have hrv:rv p'=rv p:=by
  show Value.slice p'.R p'.rels.length p'.rc=_
  rw [hpl,hp']
 have hlen:(ps ++ (some p').toList).length=(ps ++ (some p).toList).length:=by simp
 have hfm:(ps ++ (some p').toList).flatMap MPack.vals=(ps ++ (some p).toList).flatMap MPack.vals:=by
  show (ps ++ [p']).flatMap MPack.vals=(ps ++ [p]).flatMap MPack.vals
  rw [List.flatMap_append,List.flatMap_append]
  simp [hpv]
 refine ⟨S',A',c',?_⟩
 rw [← hr',← hp']
 refine ⟨?_,h.xB,?_,?_,?_,?_,?_,?_,fun g e=>⟨(hS' g e).1,?_⟩,by rw [hz]; exact Nat.le_refl _⟩
 ·rw [hlen]
  refine atv_but h.cell k3 fun d=>?_
  rcases d with d | d
  ·have:=(hr.bans.lt _ d).1; have:=h.xB; omega
  ·have:=h.xB; omega
 ·rw [hlen,hfm]
  refine own_but h.own k3 fun g e d=>?_
  rcases d with d | d
  ·exact own_ne h.own hr.bans (by decide) e d
  ·subst d; exact own_ne h.own hl.own (by decide) e hgo
 ·intro g e
  rw [hlen]
  rcases e with e | e
  ·exact h.pS g e
  ·intro d; have:=h.pM g d; have:=(hSn g e).1; omega
 ·intro g e
  rw [hlen] at e
  have:=h.pM g e; omega
 ·intro p hp
  exact PackOk.keep (S:=S') ((h.ini p hp).mono fun g e _=>.inl e) hK
 ·intro p2 hp2
  injection hp2 with hp2
  subst hp2
  refine ⟨?_,?_,?_,?_,?_,?_,?_⟩
  ·rw [hp']; rfl
  ·rw [hp']; exact hl.short
  ·rw [hrv,hpl]
   have h1:=own_but hl.own k1 fun g e d=>own_ne hl.own hr.bans (by decide) e d
   have h1':W1.ownsRow B 47 8 (.slice (some ⟨gR,0,none⟩) p.rels.length p.rc) p.rels.length (p.rels.flatMap MRel.vals):=by rw [← hR]; exact h1
   have h2:=(h1'.stored (rs.length * 8+7) (.slice A' (r.bans.length+1) c')).1
   rw [hWW] at h2
   have h3:=flat_last MRel.vals 8 Model.rel_len rs r r' 7 (.slice A' (r.bans.length+1) c') (by omega) (by rw [hr']; simp [MRel.vals,MVer.vals])
   have h4:p.rels=rs ++ [r]:=hl.rels
   have h5:p'.rels=rs ++ [r']:=by rw [hp']
   rw [h5,← h3,← h4]
   show W2.ownsRow B _ 8 (.slice p.R p.rels.length p.rc) _ _
   rw [hR]
   exact h2
  ·intro g e d
   rw [hrv,hgo] at d
   injection d with d
   exact (hS' g e).2.2.2.1 d.symm
  ·intro g e
   rw [hrv,hgo] at e
   injection e with e
   omega
  ·intro r2 hr2
   exact RelOk.keep (S:=S') ((hl.ini r2 hr2).mono fun g e _=>.inl e) hK
  ·intro r2 hr2
   injection hr2 with hr2
   subst hr2
   have k4:∀ g,(nv r).ownBlock=some g→¬ ((bv r).ownBlock=some g∨g=gR):=fun g e d=>by
    rcases d with d | d
    ·exact hr.ap g e d
    ·subst d; exact own_ne hl.own hr.needs (by decide) hgo e
   have hu:nv r'=nv r:=by rw [hr']
   have hv:bv r'=.slice A' (r.bans.length+1) c':=by show Value.slice r'.B r'.bans.length r'.bc=_; rw [hfl,hr']
   have f1:W2.ownsRow B 53 8 (nv r') r'.needs.length (r'.needs.flatMap MDep.vals):=by rw [hu,hr']; exact own_but hr.needs k3 k4
   have f2:W2.ownsRow B 53 8 (bv r') r'.bans.length (r'.bans.flatMap MDep.vals):=by
    rw [hv,hfl,hr']
    refine own_but ho k2 fun g e d=>?_
    subst d
    exact new_ne hat hno hgS e
   have f3:∀ x ∈ r'.needs,DepOk W2 S' x:=fun x hx=>DepOk.keep (S:=S') ((hr.nd x (by rw [hr'] at hx; exact hx)).mono fun g e _=>.inl e) hK
   have f4:∀ x ∈ r'.bans,DepOk W2 S' x:=fun x hx=>by
    rw [hr'] at hx
    rcases List.mem_append.1 hx with hx | hx
    ·exact DepOk.keep (S:=S') ((hr.bd x hx).mono fun g e _=>.inl e) hK
    ·obtain rfl:=List.mem_singleton.1 hx
     exact DepOk.keep (S:=S') (hd.mono fun g e _=>.inr e) hK
   have f5:∀ g,(bv r').ownBlock=some g→(nv r').ownBlock≠some g:=fun g e d=>by
    rw [hv] at e
    rw [hu] at d
    exact new_ne hat (fun q=>(k4 g d) (.inl q)) (by have:=hr.nM g d; omega) e
   have f6:∀ g,S' g→(bv r').ownBlock≠some g:=fun g e=>by rw [hv]; exact new_ne hat (hS' g e).2.2.1 (hS' g e).2.1
   have f7:∀ g,S' g→(nv r').ownBlock≠some g:=fun g e=>by rw [hu]; exact (hS' g e).2.2.2.2
   have f8:∀ g,(bv r').ownBlock=some g→g<W1.heap.size:=fun g e=>by rw [hv] at e; exact (ho.lt g e).2
   have f9:∀ g,(nv r').ownBlock=some g→g<W1.heap.size:=fun g e=>by rw [hu] at e; have:=hr.nM g e; omega
   have f0:VerOk W2 S' r'.ver:=by rw [hr']; exact VerOk.keep (S:=S') (hr.ver.mono fun g e _=>.inl e) hK
   exact ⟨f0,f1,f2,f3,f4,fun g e d=>f5 g d e,f7,f6,f9,f8⟩
 ·intro e; cases e
 ·have:=(hS' g e).2.1; omega
end
end Go.Proofs.YtgakcdcfblgagaaDoor.Sheet
namespace Go.Proofs.YtgakcdcfblgagaaDoor.Sheet
open Go.RowKit Num Ident Semver
open Range (Rng noRng)
open Name (isName nlen)
open Model (PDep PRel PPack PPin)

theorem word_split (s:List UInt8):∃ t,s=wordOf s ++ t∧(t=[]∨∃ q,t=32 :: q):=by
 refine ⟨s.dropWhile (· != 32),(List.takeWhile_append_dropWhile).symm,?_⟩
 cases h:s.dropWhile (· != 32) with
 | nil=>exact .inl rfl
 | cons c q =>
  right
  have:=List.head?_dropWhile_not (p:=fun x:UInt8=>x != 32) (l:=s)
  rw [h] at this
  refine ⟨q,?_⟩
  have hc:c=32:=by simpa using this
  rw [hc]
theorem word_le (s:List UInt8):(wordOf s).length≤s.length:=(List.takeWhile_prefix _).length_le
theorem while_none {c:UInt8}:∀ {l:List UInt8},c ∉ l→l.takeWhile (· != c)=l
 | [],_=>rfl
 | x :: l,h=>by rw [List.takeWhile_cons,if_pos (bne_iff_ne.2 fun e=>h (by rw [e]; exact List.mem_cons_self)),while_none fun q=>h (List.mem_cons_of_mem _ q)]
theorem while_mem {c x:UInt8}:∀ {l:List UInt8},x ∈ l.takeWhile (· != c)→x≠c
 | [],h=>by cases h
 | y :: l,h=>by
  rw [List.takeWhile_cons] at h
  split at h
  ·rename_i hy
   rcases List.mem_cons.1 h with rfl | h
   ·exact bne_iff_ne.1 hy
   ·exact while_mem h
  ·cases h
theorem word_self {s:List UInt8} (h:32 ∉ s):wordOf s=s:=while_none h
theorem nameOk_one (s:List UInt8):nameOk 1 s=isName s:=by
 have hle:nlen s≤s.length:=Name.nrun_le 0 s
 rw [Bool.eq_iff_iff,Name.isName_iff]
 unfold nameOk
 simp only [Bool.not_eq_true',Bool.or_eq_false_iff,beq_eq_false_iff_ne,decide_eq_false_iff_not,Bool.and_eq_false_iff,beq_self_eq_true,Bool.true_or,Bool.true_eq_false,or_false,ne_eq]
 omega
theorem name_take {s:List UInt8} (h:isName s=true):s.take (nlen s)=s:=by
 have:=(Name.isName_iff s).1 h
 exact List.take_of_length_le (by omega)
theorem nameOk_word {k:Nat} (hk:k≠1) (s:List UInt8):nameOk k s=isName (wordOf s):=by
 cases h:nameOk k s with
 | true =>
  have h1:=nameOk_name h
  have h2:=(name_no h1).2
  have h3:=h
  unfold nameOk at h3
  simp only [Bool.not_eq_true',Bool.or_eq_false_iff,beq_eq_false_iff_ne,decide_eq_false_iff_not,Bool.and_eq_false_iff,decide_eq_false_iff_not,Bool.or_eq_false_iff] at h3
  have e:wordOf s=s.take (nlen s):=by
   by_cases hl:nlen s<s.length
   ·have hb:s.getD (nlen s) 0=32:=by
     rcases h3.2 with h4 | h4
     ·exact absurd hl h4
     ·have:=h4.2; simpa using this
    have hs:s=s.take (nlen s) ++ 32 :: s.drop (nlen s+1):=by
     have e1:=(List.take_append_drop (nlen s) s).symm
     rw [List.drop_eq_getElem_cons hl] at e1
     have e2:s[nlen s]=32:=by
      rw [List.getD_eq_getElem?_getD,List.getElem?_eq_getElem hl] at hb; exact hb
     rw [e2] at e1; exact e1
    conv=>lhs; rw [hs]
    exact wordOf_cat _ _ h2
   ·have e1:s.take (nlen s)=s:=List.take_of_length_le (by omega)
    rw [e1] at h2 ⊢
    exact word_self h2
  rw [e,h1]
 | false =>
  cases h2:isName (wordOf s) with
  | false=>rfl
  | true =>
   obtain ⟨t,e,ht⟩:=word_split s
   have h3:=name_ok (k:=k) (t:=t) h2 (ht.imp_right fun q=>⟨q,hk⟩)
   rw [← e,h] at h3
   exact h3
theorem name_word {s:List UInt8} (h:isName (wordOf s)=true):nlen s=(wordOf s).length∧s.take (nlen s)=wordOf s:=by
 obtain ⟨t,e,ht⟩:=word_split s
 have h1:=nlen_cat h t ht
 rw [← e] at h1
 refine ⟨h1,?_⟩
 rw [h1]
 exact (congrArg (List.take (wordOf s).length) e).trans (List.take_left' rfl)
theorem readL_pack {t w s:List UInt8} (hw:wordOf t=w) (hs:t.drop (w.length+1)=s) (hk:kindW w=1):readL t=if s=[] then bad w 5 else if isName s=false then bad w 12 else ⟨w,s,noVer,noRng,0⟩:=by
 unfold readL
 dsimp only
 rw [hw,hs,hk,if_neg (by decide),if_neg (show ¬ (1=2) by decide),if_pos rfl,nameOk_one]
 by_cases h1:s=[]
 ·rw [if_pos h1,if_pos h1]
 ·rw [if_neg h1,if_neg h1]
  by_cases h2:isName s=false
  ·rw [if_pos h2,if_pos h2]
  ·rw [if_neg h2,if_neg h2,name_take (by simpa using h2)]
theorem readL_ver {t w s:List UInt8} (hw:wordOf t=w) (hs:t.drop (w.length+1)=s) (hk:kindW w=2):readL t=if s=[] then bad w 5 else readV w [] s:=by
 unfold readL
 dsimp only
 rw [hw,hs,hk,if_neg (by decide),if_pos rfl]
theorem readL_dep {t w s:List UInt8} (hw:wordOf t=w) (hs:t.drop (w.length+1)=s) (hk:kindW w=3):readL t=if s=[] then bad w 5 else if isName (wordOf s)=false then bad w 12 else if s.drop ((wordOf s).length+1)=[] then bad w 5 else readR w (wordOf s) (s.drop ((wordOf s).length+1)):=by
 unfold readL
 dsimp only
 rw [hw,hs,hk,if_neg (by decide),if_neg (show ¬ (3=2) by decide),if_neg (show ¬ (3=1) by decide),if_pos rfl,nameOk_word (by decide)]
 by_cases h1:s=[]
 ·rw [if_pos h1,if_pos h1]
 ·rw [if_neg h1,if_neg h1]
  by_cases h2:isName (wordOf s)=false
  ·rw [if_pos h2,if_pos h2]
  ·have h3:=name_word (s:=s) (by simpa using h2)
   rw [if_neg h2,if_neg h2,h3.2,h3.1]
theorem readL_pin {t w s:List UInt8} (hw:wordOf t=w) (hs:t.drop (w.length+1)=s) (hk:kindW w=4):readL t=if s=[] then bad w 5 else if isName (wordOf s)=false then bad w 12 else if s.drop ((wordOf s).length+1)=[] then bad w 5 else readV w (wordOf s) (s.drop ((wordOf s).length+1)):=by
 unfold readL
 dsimp only
 rw [hw,hs,hk,if_neg (by decide),if_neg (show ¬ (4=2) by decide),if_neg (show ¬ (4=1) by decide),if_neg (show ¬ (4=3) by decide),nameOk_word (by decide)]
 by_cases h1:s=[]
 ·rw [if_pos h1,if_pos h1]
 ·rw [if_neg h1,if_neg h1]
  by_cases h2:isName (wordOf s)=false
  ·rw [if_pos h2,if_pos h2]
  ·have h3:=name_word (s:=s) (by simpa using h2)
   rw [if_neg h2,if_neg h2,h3.2,h3.1]
theorem readL_none {t:List UInt8} (hk:kindW (wordOf t)=0):readL t=bad [] 13:=by
 unfold readL
 dsimp only
 rw [if_pos hk]
theorem readL_word {t:List UInt8} (hk:kindW (wordOf t)≠0):(readL t).w=wordOf t:=by
 generalize hw:wordOf t=w at hk ⊢
 generalize hs:t.drop (w.length+1)=s
 have hv:∀ n s,(readV w n s).w=w:=fun n s=>by unfold readV; split <;> rfl
 have hr:∀ n s,(readR w n s).w=w:=fun n s=>by unfold readR; split <;> rfl
 rcases kind_words hk with h | h | h | h | h | h
 ·rw [readL_pack hw hs (by rw [h]; decide)]; split; rfl; split <;> rfl
 ·rw [readL_ver hw hs (by rcases h with h | h <;> rw [h] <;> decide)]; split; rfl; exact hv _ _
 ·rw [readL_dep hw hs (by rw [h]; decide)]; split; rfl; split; rfl; split; rfl; exact hr _ _
 ·rw [readL_dep hw hs (by rw [h]; decide)]; split; rfl; split; rfl; split; rfl; exact hr _ _
 ·rw [readL_dep hw hs (by rw [h]; decide)]; split; rfl; split; rfl; split; rfl; exact hr _ _
 ·rw [readL_pin hw hs (by rw [h]; decide)]; split; rfl; split; rfl; split; rfl; exact hv _ _
end Go.Proofs.YtgakcdcfblgagaaDoor.Sheet
