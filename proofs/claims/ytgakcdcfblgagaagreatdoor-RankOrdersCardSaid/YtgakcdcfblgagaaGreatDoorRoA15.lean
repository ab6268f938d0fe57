/-
  What the theorem of the last text needs of these: KRow, SpSweepW. Conditions: as each theorem states.
-/
import Derived.Test.YtgakcdcfblgagaaGreatDoorRoA1
import Derived.Test.YtgakcdcfblgagaaGreatDoorRoA3
import Derived.Test.YtgakcdcfblgagaaGreatDoorRoA14
set_option maxRecDepth 100000
set_option maxHeartbeats 25600000
namespace Go.Proofs.YtgakcdcfblgagaaGreatDoor.KR
open Go.RowKit Num
open Range (KeepS LtB InS)

def KRow {α:Type} [Inhabited α] (vals:α→List Value) (k:Nat) (w:World) (S:Nat→Prop) (A:Option Addr) (n:Nat) (l:List α):Prop :=
 l.length=n∧(0<n→∃ b o,A=some ⟨b,o,none⟩∧S b∧b<w.heap.size∧∀ j,j<n→∀ i u,(vals (l.getD j default))[i]?=some u→w.cell? ⟨b,o+j * k+i,none⟩=some u)
section
variable {α:Type} [Inhabited α] {vals:α→List Value} {k:Nat} {w w':World} {S:Nat→Prop} {A:Option Addr} {n:Nat} {l:List α}
theorem KRow.none_ (w:World) (S:Nat→Prop) (A:Option Addr):KRow vals k w S A 0 []:=⟨rfl,fun h=>absurd h (Nat.lt_irrefl _)⟩
theorem KRow.keep (h:KRow vals k w S A n l) (q:KeepS S w w'):KRow vals k w' S A n l:=by
 refine ⟨h.1,fun h0=>?_⟩
 obtain ⟨b,o,e,hb,hlt,hc⟩:=h.2 h0
 exact ⟨b,o,e,hb,Nat.lt_of_lt_of_le hlt q.size,fun j hj i u hu=>q.cell _ _ _ hb (hc j hj i u hu)⟩
theorem KRow.mono {S':Nat→Prop} (h:KRow vals k w S A n l) (hS:∀ b,S b→b<w.heap.size→S' b):KRow vals k w S' A n l:=by
 refine ⟨h.1,fun h0=>?_⟩
 obtain ⟨b,o,e,hb,hlt,hc⟩:=h.2 h0
 exact ⟨b,o,e,hS b hb hlt,hlt,hc⟩
theorem KRow.nil (h:KRow vals k w S none n l):n=0∧l=[]:=by
 rcases Nat.eq_zero_or_pos n with h0 | h0
 ·exact ⟨h0,List.eq_nil_of_length_eq_zero (by rw [h.1]; exact h0)⟩
 ·obtain ⟨b,o,e,_⟩:=h.2 h0
  cases e
theorem KRow.at_ (h:KRow vals k w S A n l) {j:Nat} (hj:j<n):∃ b o,A=some ⟨b,o,none⟩∧S b∧b<w.heap.size∧∀ i u,(vals (l.getD j default))[i]?=some u→w.cell? ⟨b,o+j * k+i,none⟩=some u:=by
 obtain ⟨b,o,e,hb,hlt,hc⟩:=h.2 (by omega)
 exact ⟨b,o,e,hb,hlt,hc j hj⟩
theorem KRow.mem (h:KRow vals k w S A n l) {j:Nat} (hj:j<n):l.getD j default ∈ l:=by
 rw [List.getD_eq_getElem?_getD,List.getElem?_eq_getElem (by rw [h.1]; exact hj)]; exact List.getElem_mem _
theorem KRow.news {ad:Addr} (hk:∀ x,(vals x).length=k) (hk0:0<k) (h:KRow vals k w S (some ad) n l):∀ j u,(l.flatMap vals)[j]?=some u→w.cell? (ad.add j)=some u:=by
 intro j u hu
 have hj:j<l.length * k:=by have:=(List.getElem?_eq_some_iff.1 hu).1; rwa [flat_len vals k hk] at this
 have hd:j / k<l.length:=Nat.div_lt_of_lt_mul (by rw [Nat.mul_comm]; exact hj)
 obtain ⟨b,o,e,_,_,hc⟩:=h.2 (Nat.lt_of_le_of_lt (Nat.zero_le _) (h.1 ▸ hd))
 injection e with e
 subst e
 have hs:j=(j / k) * k+j % k:=by rw [Nat.mul_comm]; exact (Nat.div_add_mod j k).symm
 rw [hs,flat_get vals k hk l (j / k) (j % k) hd (Nat.mod_lt _ hk0)] at hu
 have:=hc (j / k) (by rw [← h.1]; exact hd) (j % k) u hu
 rw [add_none]
 rw [Nat.add_assoc,← hs] at this
 exact this
theorem KRow.of_own {base:Nat} {e:TypeId} {v:Value} (hk:∀ x,(vals x).length=k) (h:w.ownsRow base e k v n (l.flatMap vals)) (hl:l.length=n) (hS:∀ g,base≤g→g<w.heap.size→S g) :
  ∃ A c,v=.slice A n c∧n≤c∧(A=none→c=0)∧KRow vals k w S A n l:=by
 obtain ⟨A,c,h1,h2,h3,h4⟩:=own_cells hk h hl
 refine ⟨A,c,h1,h2,h3,hl,fun h0=>?_⟩
 obtain ⟨g,e1,hg,hlt,_,hc⟩:=h4 h0
 exact ⟨g,0,e1,hS g hg hlt,hlt,hc⟩
end
theorem run_append_k {α:Type} [Inhabited α] {vals:α→List Value} {k bytes:Nat} {T E:TypeId} {z:Value} (hT:Tryz.prog.underlying T=some (.slice E)) (hI:(Tryz.prog.info? E).map (fun i=>(i.zero,i.size,i.bytes))=some (some z,k,bytes)) (hz:z.cells.size=k) (hk:∀ x,(vals x).length=k) (hk0:0<k) (h1:∀ x,∀ u ∈ vals x,u.oneCell'=true)
  (w:World) (ty:TypeId) (base:Nat) (v:Value) (n:Nat) (l:List α) (hown:w.ownsRow base E k v n (l.flatMap vals)) {S:Nat→Prop} (A:Option Addr) (m c:Nat) (r:List α) (hr:KRow vals k w S A m r) (hnil:A=none→c=0) (hm:n+m≤maxLen) (hb:(n+m) * bytes≤140737488355328) (hbase:base≤w.heap.size) :
  ∃ v' w',(Builtin.append_ #[T,T] ty #[v,.slice A m c]).run Tryz.prog w=.ok v' w'∧w'.ownsRow base E k v' (n+m) ((l ++ r).flatMap vals)∧w.grownBy w' v.ownBlock:=by
 obtain ⟨i,hi,hzi,hs,hby⟩:=info_parts hI
 cases A with
 | none =>
  obtain rfl:=hnil rfl
  obtain ⟨rfl,rfl⟩:=hr.nil
  exact ⟨v,w,run_append_owned_none (P:=Tryz.prog) (w:=w) base T ty E i k hT hi v n _ hown,by simpa using hown,World.grownBy.refl w _⟩
 | some ad =>
  obtain ⟨v',w',h3,h4,h5,_⟩:=run_append_own (P:=Tryz.prog) w base T ty E i z k bytes hT hi hzi hs hby hz hk0 v n _ hown ad m c (r.flatMap vals)
   (by rw [flat_len _ k hk,hr.1]) (hr.news hk hk0) (flat_one _ h1 r) hm hb hbase
  exact ⟨v',w',h3,by rw [List.flatMap_append]; exact h4,h5⟩
theorem region_append {T:TypeId} {yl:Nat→Option Bool} {o:Oper} {a:Act} {w w':World} {K:Act→World→Prop} {Q:Exit→Act→World→Prop} {v v' y:Value} (hw:Region.wanted o yl=true) (s x:Operand)
  (ho:o.op=.call { callee:=.builtin .append,args:=#[s,x],argTypes:=#[T,T] }) (hs:a.eval s=v) (hx:a.eval x=y)
  (hrun:(Builtin.append_ #[T,T] o.type #[v,y]).run Tryz.prog w=.ok v' w') (h:K (a.put o.dst v') w'):if Region.wanted o yl=true then Oper.wp Tryz.prog o a w K Q else K (a.put o.dst undef) w:=by
 rw [if_pos hw]
 unfold Oper.wp execOp
 simp only [ho,resolve,invoke,builtin,Sem.run_bind,Sem.run_pure,Result.andThen_ok,List.map_toArray,List.map_cons,List.map_nil,hs,hx,hrun]
 exact h
structure AtV (W:World) (b:Nat) (L:List Value):Prop where
 lt:b<W.heap.size
 fr:∀ o,W.frozen? ⟨b,o,none⟩=false
 at_:∀ i u,L[i]?=some u→W.cell? ⟨b,i,none⟩=some u
theorem AtV.new (w:World) (t:TypeId) (L:List Value):AtV (w.alloc (.cells L.toArray t)) w.heap.size L :=
 ⟨by simp,fun o=>by simp [go_sem],fun i u hu=>by have:=news_new w L t i u hu; rwa [add_none,Nat.zero_add] at this⟩
theorem AtV.kept {W W':World} {b B:Nat} {L:List Value} (h:AtV W b L) (hb:Below B W W') (hB:b<B):AtV W' b L :=
 ⟨Nat.lt_of_lt_of_le h.lt hb.size,fun o=>(hb.frozen (p:=⟨b,o,none⟩) hB).trans (h.fr o),fun i u hu=>(hb.cell (p:=⟨b,i,none⟩) hB).trans (h.at_ i u hu)⟩
theorem list_of {α:Type} [Inhabited α] {P:Nat→α→Prop}:∀ (n:Nat),(∀ i,i<n→∃ x,P i x)→∃ l:List α,l.length=n∧∀ i,i<n→P i (l.getD i default)
 | 0,_=>⟨[],rfl,fun i hi=>by omega⟩
 | n+1,h=>by
  obtain ⟨l,hl,hp⟩:=list_of n fun i hi=>h i (by omega)
  obtain ⟨x,hx⟩:=h n (by omega)
  refine ⟨l ++ [x],by simp [hl],fun i hi=>?_⟩
  rcases Nat.lt_or_ge i n with h1 | h1
  ·have e:(l ++ [x]).getD i default=l.getD i default:=by simp [List.getD,List.getElem?_append_left (show i<l.length by omega)]
   rw [e]; exact hp i h1
  ·obtain rfl:i=n:=by omega
   have e:(l ++ [x]).getD i default=x:=by simp [List.getD,← hl]
   rw [e]; exact hx
theorem KRow.came {α:Type} [Inhabited α] {vals:α→List Value} {k:Nat} {H:Type} {enc:TypeId × Value→H} {W:World} {T E:TypeId} {P:α→Prop} (hu:Tryz.prog.underlying T=some (.slice E)) (hC:Tryz.prog.cellsOf E=k) (hk:∀ x,(vals x).length=k) (hk0:0<k)
  (hel:∀ (fuel:Nat) (cs:List Value) (y:DataW H × List MemPlace),DataW.trod enc Tryz.prog W 0 (fun _=>true) true fuel E cs=some y→Came.Sized E y.1→∃ x,cs=vals x∧P x)
  {fuel:Nat} {cs:List Value} {y:DataW H × List MemPlace} (hf:DataW.trod enc Tryz.prog W 0 (fun _=>true) true fuel T cs=some y) (hs:Came.Sized T y.1) :
  ∃ (A:Option Addr) (len cap:Nat) (l:List α),cs=[.slice A len cap]∧KRow vals k W (LtB W.heap.size) A len l∧(∀ x ∈ l,P x)∧len≤cap∧cap≤maxLen∧(A=none→cap=0):=by
 rcases DataW.trod_slice hu hf with ⟨hz,_⟩ | ⟨a,len,cap,elems,rest,n2,_,hz,hy,_,hlc,hcm,hle,hi,_,_⟩
 ·exact ⟨none,0,0,[],hz,KRow.none_ _ _ _,fun x hx=>(List.not_mem_nil hx).elim,Nat.le_refl _,by unfold maxLen; omega,fun _=>rfl⟩
 ·rw [hC] at hi
  obtain ⟨ps,hpl,hp⟩:=list_of (α:=α) (P:=fun i (p:α)=>P p∧∀ j u,(vals p)[j]?=some u→W.cell? ((a.add (i * k)).add j)=some u) len fun i hi'=>by
   have h0:=hi i hi'
   rw [List.getElem?_eq_getElem (show i<elems.length by omega),Option.bind_eq_some_iff] at h0
   obtain ⟨cs,hc,ht⟩:=h0
   obtain ⟨_,hcl,hat⟩:=World.cells?_some hc
   obtain ⟨x,e,ho⟩:=hel n2 cs _ ht (by rw [hy] at hs; exact hs.elem hu (i:=i) (List.getElem?_eq_getElem (show i<elems.length by omega)))
   refine ⟨x,ho,fun j u hu=>?_⟩
   have hj:j<k:=by have:=(List.getElem?_eq_some_iff.1 hu).1; rwa [hk] at this
   rw [hat j hj,e]; exact hu
  refine ⟨some a,len,cap,ps,hz,⟨hpl,fun h0=>?_⟩,fun x hx=>?_,hlc,hcm,fun e=>by cases e⟩
  ·obtain ⟨b,o,spot⟩:=a
   obtain ⟨u,hu⟩:∃ u,(vals (ps.getD 0 default))[0]?=some u:=⟨(vals (ps.getD 0 default))[0]'(by rw [hk]; exact hk0),List.getElem?_eq_getElem _⟩
   have h0c:=(hp 0 h0).2 0 u hu
   have hspot:spot=none:=by simpa [Addr.add] using World.cell?_spot h0c
   subst hspot
   have hblk:=World.block_lt_of_cell? W _ h0c
   rw [Num.add_none,Num.add_none] at hblk
   refine ⟨b,o,rfl,hblk,hblk,fun j hj i u hu=>?_⟩
   have e:=(hp j hj).2 i u hu
   rwa [Num.add_none,Num.add_none] at e
  ·obtain ⟨j,hj,rfl⟩:=List.getElem_of_mem hx
   have:=(hp j (by omega)).1
   simpa [List.getD,List.getElem?_eq_getElem hj] using this
end Go.Proofs.YtgakcdcfblgagaaGreatDoor.KR
namespace Go.Proofs.YtgakcdcfblgagaaGreatDoor.Span
open Go.RowKit Num Ident Semver Prec

theorem sweep_any (w1 w:World) (base:Nat) (v:Value) (re:List REdge) (mb:Nat) (m:Int) (hown:w.ownsRow base 281 7 v re.length (re.flatMap REdge.vals)) (hl:∀ e ∈ re,Lies w1 e.cut) (hb:Below w1.heap.size w1 w) (hbase:w1.heap.size≤base) (hmb:mb<w.heap.size) (hc:w.cell? ⟨mb,0,none⟩=some (.int .i64 m)) (hne:v.ownBlock≠some mb)
  (hr:∀ e ∈ re,right e.cut.cut=true) (hst:∀ e ∈ re,-10≤e.step∧e.step≤10) (hn:re.length≤100000) :
  Calls Tryz.prog 213 #[v,.func (.func 250) #[] #[.pointer (some ⟨mb,0,none⟩)]] w (SweepPost w1 m re):=by
 have HS:=Lib.hid (sort_any w1 w base v re hown hl hb hbase (by omega))
 have HOW:=Lib.hid hown
 have HL:=Lib.hid hl
 have HB:=Lib.hid hb
 have HR:=Lib.hid hr
 have HT:=Lib.hid hst
 have HC:=Lib.hid hc
 have HN:=Lib.hid hne
 obtain ⟨A,c,rfl,_,_,_⟩:=own_cells evals_len hown rfl
 clear hown hl hb hr hst hc hne
 go_enter Tryz.func213,Tryz.ntmps213
 go_wp2
 refine wp_two (SwJ0 w1 re A re.length c mb m) (SwJ1 w1 re A re.length c mb m) (SwM0 re.length) (SwM1 re.length) rfl rfl ?_ ?_ ?_
 ·intro mm
  refine SwJ1.out ?_
  intro W ws rs i T set out lo bc cu was u11 u14 u15 u16 u17 u18 u19 u20 u21 u22 u23 u24 u25 u26 u27 u28 u29 u30 u31 u32 u33 u34 u35 u36 u37 u38 u39 u40 u41 u42 u43 u44 u45 u46 u47 u48 u49 u50 u51 u52 u53 u54 u55 u56 u57 u58 u59 u60 u61 u62 u63 u64 u65 u66 u67 u68 u69 u70 u71 u72 u73 hfix hat hlt hcb htg hcl0 hcr0 heq hmm
  have hmm2:mm=2 * (re.length - i):=by rw [← hmm]; simp [SwM1,intOf]
  clear hmm
  have HF:=Lib.hid hfix
  have HA:=Lib.hid hat
  have HK:=Lib.hid hcb
  have HTG:=Lib.hid htg
  have HCL:=Lib.hid hcl0
  have HCR:=Lib.hid hcr0
  have HE:=Lib.hid heq
  have hsm:=hfix.small
  have hlo:=hat.lo10
  have hhi:=hat.hi10
  have hol:=hat.len
  have hzl:=hat.lob.1
  have hzc:=hcb.1
  clear hfix hat heq hcb hcl0 hcr0 htg
  obtain ⟨g,rfl,hgl,hcl⟩:=HF.out.cells (by omega)
  have hgl2:g<W.heap.size:=Nat.lt_of_lt_of_le hgl HA.out.bel.size
  have hml:mb<W.heap.size:=Nat.lt_of_lt_of_le HF.out.mbl HA.out.bel.size
  have HMC:Hid (W.cell? ⟨mb,0,none⟩=some (.int .i64 m)):=(HA.out.bel.cell (p:=⟨mb,0,none⟩) HF.out.mbl).trans HF.out.mbc
  have HCE:=Lib.hid (fun j hj q u hu=>(HA.out.bel.cell (p:=⟨g,0+j * 7+q,none⟩) hgl).trans (hcl j hj q u hu))
  clear hcl
  obtain ⟨z0,z1,z2,z3,z4,z5,z6⟩:=ed_cells (w:=W) (g:=g) (n:=re.length) (l:=rs) HCE.out hlt
  have HD:=Lib.hid (drop_ed rs i (by rw [HF.out.len]; exact hlt))
  have hst:=HF.out.step _ (getE_mem (l:=rs) (k:=i) (by rw [HF.out.len]; exact hlt))
  obtain ⟨hst1,hst2⟩:=hst
  generalize rs.getD i default=e1 at z0 z1 z2 z3 z4 z5 z6 HD hst1 hst2
  have HE1:Hid (sweepL m (rs.map REdge.edge)=out.map RSp.sp ++ go m cu.cut was T lo.cut (e1.edge :: (rs.drop (i+1)).map REdge.edge)):=by rw [← HD.out]; exact HE.out
  clear HE HD
  by_cases hnx:i+1<re.length
  ·obtain ⟨y0',y1',y2',y3',y4',y5',y6'⟩:=ed_cells (w:=W) (g:=g) (n:=re.length) (l:=rs) HCE.out hnx
   have HX2:Hid (Lies w1 (rs.getD (i+1) default).cut):=HF.out.lies _ (getE_mem (by rw [HF.out.len]; exact hnx))
   have HD2:=Lib.hid (drop_ed rs (i+1) (by rw [HF.out.len]; exact hnx))
   generalize rs.getD (i+1) default=e2 at y0' y1' y2' y3' y4' y5' y6' HX2 HD2
   obtain ⟨_,_,x0,x1,x2,x3,x4,x5⟩:=HK.out
   go_upto_region 10 with (fail)
   have hd1:decide ((i:Int)+1<(re.length:Int))=true:=decide_eq_true (by omega)
   have hd2:(i:Int)+1<(re.length:Int):=by omega
   have hd3:((i:Int)+1).toNat=i+1:=by omega
   have hd4:0≤(i:Int)+1:=by omega
   go_still_tail 11,(by kernel_rfl)
   change wpList _ _ _ _ _ W.drew
   have HA2:=Lib.hid (HA.out.kept (Below.refl W.heap.size W).drew)
   have HK2:=Lib.hid HK.out.drew
   have HTG2:Hid (Tag W.drew bc):=HTG.out
   have HMC2:Hid (W.drew.cell? ⟨mb,0,none⟩=some (.int .i64 m)):=HMC.out
   have hw2:W.drew.heap.size=W.heap.size:=rfl
   clear z0 z1 z2 z3 z4 z5 z6 x0 x1 x2 x3 x4 x5 y0' y1' y2' y3' y4' y5' y6' hd1 hd2 hd3 hd4 HCE
   generalize W.drew=W2 at HA2 HK2 HTG2 HMC2 hw2 ⊢
   have HO2:=Lib.hid (HF.out.old.trans (HA2.out.bel.mono HF.out.old.size))
   rw [← hw2] at hml hzl hzc
   clear HA HK HTG HMC hw2 hgl2
   go_wp2_with fail
   refine (stand_any cu e2.cut _ (HCL.out.kept HO2.out) (HX2.out.kept HO2.out)).mono ?_
   rintro e Wc ⟨rfl,hb3⟩
   have HA1:=Lib.hid ((HA2.out.kept hb3).step hst1 hst2 hlt)
   have HK1:=Lib.hid (HK2.out.kept hb3 hzc)
   have HTG1:=Lib.hid (HTG2.out.kept hb3 hzc)
   have HMC1:Hid (Wc.cell? ⟨mb,0,none⟩=some (.int .i64 m)):=(hb3.cell (p:=⟨mb,0,none⟩) hml).trans HMC2.out
   have HO1:=Lib.hid (HO2.out.trans (hb3.mono HO2.out.size))
   replace hzl:=Nat.lt_of_lt_of_le hzl hb3.size
   replace hzc:=Nat.lt_of_lt_of_le hzc hb3.size
   clear hb3 HA2 HK2 HTG2 HMC2 HO2 hml
   obtain ⟨st,hst⟩:∃ st,stand cu.cut e2.cut.cut=st:=⟨_,rfl⟩
   rw [hst]
   have HST:=Lib.hid hst
   clear hst
   by_cases hz:st=0
   ·have HE2:Hid (sweepL m (rs.map REdge.edge)=out.map RSp.sp ++ go m cu.cut was (T+e1.step) lo.cut ((rs.drop (i+1)).map REdge.edge)):=by
     unfold Hid
     rw [HE1.out,HD2.out,go_like (show stand cu.cut e2.edge.cut=0 from HST.out.trans hz)]; rfl
    subst hz
    clear HE1
    go_wp2
    go_step3
    rw [show ((i:Int)+1)=((i+1:Nat):Int) from rfl]
    exact .inr ⟨rfl,SwJ1.mk ws rs (i+1) (T+e1.step) set out lo bc cu was HF.out HA1.out hnx HK1.out HTG1.out HCL.out HCR.out HE2.out rfl,by rw [hmm2]; simp [SwM1,intOf]; omega⟩
   ·have hn1:(st == 0)=false:=by simp [hz]
    have HEN:Hid (Ends cu.cut ((rs.drop (i+1)).map REdge.edge)):=.inr ⟨_,_,HD2.out,fun h=>hz (HST.out.symm.trans h)⟩
    clear hz HD2
    go_wp2_with fail
    refine (in_any (T+e1.step) m mb _ HMC1.out).mono ?_
    rintro e w' ⟨rfl,rfl⟩
    clear HMC1
    obtain ⟨_,hf,x0,x1,x2,x3,x4,x5⟩:=HA1.out.lob
    obtain ⟨_,_,y0,y1,y2,y3,y4,y5⟩:=HK1.out
    by_cases hmt:m≤T+e1.step
    ·rw [decide_eq_true hmt]
     cases was
     ·have HE2:Hid (sweepL m (rs.map REdge.edge)=out.map RSp.sp ++ nextL m (T+e1.step) cu.cut ((rs.drop (i+1)).map REdge.edge)):=by
       unfold Hid
       rw [HE1.out,go_open_ HEN.out hmt]; rfl
      have HA3:=Lib.hid (HA1.out.setlo cu HCL.out HCR.out)
      clear HE1 hmt
      go_wp2
      go_step3
      rw [show ((i:Int)+1)=((i+1:Nat):Int) from rfl]
      exact .inl ⟨rfl,SwJ0.mk ws rs (i+1) (T+e1.step) set out cu HF.out HA3.out HE2.out rfl,by rw [hmm2]; simp [SwM0,intOf]; omega⟩
     ·have HE2:Hid (sweepL m (rs.map REdge.edge)=out.map RSp.sp ++ nextL m (T+e1.step) lo.cut ((rs.drop (i+1)).map REdge.edge)):=by
       unfold Hid
       rw [HE1.out,go_same HEN.out (decide_eq_true hmt)]; rfl
      clear HE1 hmt
      go_wp2
      go_step3
      rw [show ((i:Int)+1)=((i+1:Nat):Int) from rfl]
      exact .inl ⟨rfl,SwJ0.mk ws rs (i+1) (T+e1.step) set out lo HF.out HA1.out HE2.out rfl,by rw [hmm2]; simp [SwM0,intOf]; omega⟩
    ·rw [decide_eq_false hmt]
     cases was
     ·have HE2:Hid (sweepL m (rs.map REdge.edge)=out.map RSp.sp ++ nextL m (T+e1.step) lo.cut ((rs.drop (i+1)).map REdge.edge)):=by
       unfold Hid
       rw [HE1.out,go_same HEN.out (decide_eq_false hmt)]; rfl
      clear HE1 hmt
      go_wp2
      go_step3
      rw [show ((i:Int)+1)=((i+1:Nat):Int) from rfl]
      exact .inl ⟨rfl,SwJ0.mk ws rs (i+1) (T+e1.step) set out lo HF.out HA1.out HE2.out rfl,by rw [hmm2]; simp [SwM0,intOf]; omega⟩
     ·have HE2:Hid (sweepL m (rs.map REdge.edge)=out.map RSp.sp ++ (⟨lo.cut,cu.cut⟩ :: nextL m (T+e1.step) lo.cut ((rs.drop (i+1)).map REdge.edge))):=by
       unfold Hid
       rw [HE1.out,go_shut HEN.out hmt]; rfl
      clear HE1 hmt
      go_upto_region 15 with (fail)
      have B0:=Lib.hid ((Below.refl Wc.heap.size Wc).drew)
      refine wp_region_held_drew (S:=fun w'=>Below (ws.heap.size+1) Wc w'∧At6B w' bc cu.kind cu.v.a cu.v.b cu.v.c (.slice cu.A cu.v.pre.length cu.c) (.slice cu.B cu.v.build.length cu.d)) (by kernel_rfl) ⟨B0.out.mono hzl,HK1.out.drew⟩ (fun hHeld=>?_)
      refine tk 0 rfl set ?_
      refine tk 1 rfl lo ?_ fun w' hS'=>by have q0:=(hS'.1.cell (p:=⟨ws.heap.size,0,none⟩) (Nat.lt_succ_self _)).trans x0; have q1:=(hS'.1.cell (p:=⟨ws.heap.size,1,none⟩) (Nat.lt_succ_self _)).trans x1; have q2:=(hS'.1.cell (p:=⟨ws.heap.size,2,none⟩) (Nat.lt_succ_self _)).trans x2; have q3:=(hS'.1.cell (p:=⟨ws.heap.size,3,none⟩) (Nat.lt_succ_self _)).trans x3; have q4:=(hS'.1.cell (p:=⟨ws.heap.size,4,none⟩) (Nat.lt_succ_self _)).trans x4; have q5:=(hS'.1.cell (p:=⟨ws.heap.size,5,none⟩) (Nat.lt_succ_self _)).trans x5; go_simp
      refine tk 3 rfl cu ?_ fun w' hS'=>by obtain ⟨_,_,_,q0,q1,q2,q3,q4,q5⟩:=hS'; go_simp
      refine cl 2 rfl fun K hK=>?_
      go_simp
      refine (copied_any lo _ ((HA1.out.lies.kept HO1.out).kept B0.out) (Nat.le_trans HA1.out.few (by omega))).mono ?_
      rintro e w5 ⟨lo',rfl,hlo5,ho5,hb5⟩
      have B5:=Lib.hid (B0.out.trans (hb5.mono B0.out.size))
      have O5:=Lib.hid (ho5.mono (Nat.le_trans hzl B0.out.size))
      have E5:=Lib.hid hlo5
      clear ho5 hb5 hlo5 hHeld
      refine hK.out _ _ ⟨B5.out.mono hzl,HK1.out.kept B5.out hzc⟩ (fun hHeld=>?_)
      clear hK K
      try simp only [Act.put,p1,p2,p3]
      refine cl 4 rfl fun K hK=>?_
      go_simp
      refine (copied_any cu _ ((HCL.out.kept HO1.out).kept B5.out) (Nat.le_trans (right_few HCR.out).1 (by omega))).mono ?_
      rintro e w6 ⟨cu',rfl,hcu6,ho6,hb6⟩
      have B6:=Lib.hid (B5.out.trans (hb6.mono B5.out.size))
      have O6:=Lib.hid (ho6.mono (Nat.le_trans hzl B5.out.size))
      have P6:=Lib.hid (O5.out.kept hb6)
      have E6:=Lib.hid hcu6
      clear ho6 hb6 hcu6 hHeld
      refine hK.out _ _ ⟨B6.out.mono hzl,HK1.out.kept B6.out hzc⟩ (fun hHeld=>?_)
      clear hK K
      try simp only [Act.put,p1,p2,p3]
      refine tk 5 rfl (lo',cu') ?_
      have A7:=Lib.hid ((Below.refl w6.heap.size w6).alloc (Nat.le_refl _) (lo',cu'))
      have B7:=Lib.hid (B6.out.trans (A7.out.mono B6.out.size))
      refine cl 6 rfl fun K hK=>?_
      go_simp
      refine hK.out _ _ ⟨B7.out.mono hzl,HK1.out.kept B7.out hzc⟩ (fun hHeld=>?_)
      clear hK K
      try simp only [Act.put,p1,p2,p3]
      obtain ⟨v8,w8,hrun,ho8,hg8⟩:=run_append_sp (w6.alloc (lo',cu')) 123 (ws.heap.size+1) set out.length out (own_below HA1.out.own B7.out) ⟨w6.heap.size,0,none⟩ 1 1 [⟨lo',cu'⟩] rfl (news_new w6 _ _) (by omega) (Nat.le_trans hzl B7.out.size)
      have HA8:=Lib.hid (HA1.out.more (s:=⟨lo',cu'⟩) B7.out (P6.out.kept A7.out) (O6.out.kept A7.out) hg8 ho8 (by omega))
      have K8:Hid (At6B w8 bc cu.kind cu.v.a cu.v.b cu.v.c (.slice cu.A cu.v.pre.length cu.c) (.slice cu.B cu.v.build.length cu.d)):=(HK1.out.kept B7.out hzc).grown hg8 ((HTG1.out.kept B7.out hzc).apart (own_below HA1.out.own B7.out))
      have B8:Hid (Below (ws.heap.size+1) Wc w8):=(B7.out.mono hzl).grown hg8 (Nat.le_trans hzl B7.out.size) (fun k hk=>(HA1.out.own.lt k hk).1)
      have HE3:Hid (sweepL m (rs.map REdge.edge)=(out ++ [(⟨lo',cu'⟩:RSp)]).map RSp.sp ++ nextL m (T+e1.step) lo.cut ((rs.drop (i+1)).map REdge.edge)):=by
       unfold Hid
       have e5:lo'.cut=lo.cut:=by rw [E5.out,HA1.out.bare]; rfl
       have e6:cu'.cut=cu.cut:=by rw [E6.out]; show (⟨cu.kind,bare cu.cut.v⟩:Cut)=_; rw [right_bare HCR.out]; rfl
       rw [HE2.out,List.map_append,List.append_assoc]; show _=_ ++ ([Sp.mk lo'.cut cu'.cut] ++ _); rw [e5,e6]; rfl
      clear ho8 hg8 hHeld HE2
      refine cl 7 rfl fun K hK=>?_
      refine region_append_sp (by rfl) _ _ rfl rfl rfl hrun ?_
      refine hK.out _ _ ⟨B8.out,K8.out⟩ (fun hHeld=>?_)
      clear hK K hrun
      try simp only [Act.put,p1,p2,p3]
      refine tk 8 rfl v8 ?_
      refine wpAnyH_done (by kernel_rfl) ?_ _
      clear hHeld
      go_wp2
      go_step3
      rw [show ((i:Int)+1)=((i+1:Nat):Int) from rfl]
      exact .inl ⟨rfl,SwJ0.mk ws rs (i+1) (T+e1.step) v8 (out ++ [⟨lo',cu'⟩]) lo HF.out HA8.out HE3.out rfl,by rw [hmm2]; simp [SwM0,intOf]; omega⟩
  ·have HEN:Hid (Ends cu.cut ((rs.drop (i+1)).map REdge.edge)):=.inl (by rw [List.drop_eq_nil_of_le (by rw [HF.out.len]; omega)]; rfl)
   obtain ⟨_,_,x0,x1,x2,x3,x4,x5⟩:=HK.out
   go_upto_region 10 with (fail)
   have hd1:decide ((i:Int)+1<(re.length:Int))=false:=decide_eq_false (by omega)
   have hd2:(re.length:Int)≤(i:Int)+1:=by omega
   refine wp_region_held_drew (S:=fun w'=>Below W.heap.size W w') (by kernel_rfl) (Below.refl _ _).drew (fun hHeld=>?_)
   refine tk 0 rfl (.int .i64 ((i:Int)+1)) ?_
   refine tk 1 rfl (.slice (some ⟨g,0,none⟩) re.length c) ?_
   refine tk 2 rfl (.int .i64 re.length) ?_
   refine tk 3 rfl (.bool false) ?_
   refine tk 4 rfl (.bool false) ?_
   refine sk 5 rfl ?_
   refine sk 6 rfl ?_
   refine sk 7 rfl ?_
   refine sk 8 rfl ?_
   refine sk 9 rfl ?_
   refine sk 10 rfl ?_
   refine sk 11 rfl ?_
   refine sk 12 rfl ?_
   refine tk 13 rfl (.bool false) ?_
   refine wpAnyH_done (by kernel_rfl) ?_ _
   clear hHeld
   change Exit.then _ _ _ _ W.drew
   have HA1:=Lib.hid ((HA.out.kept (Below.refl W.heap.size W).drew).step hst1 hst2 hlt)
   have HK1:=Lib.hid HK.out.drew
   have HTG1:Hid (Tag W.drew bc):=HTG.out
   have HMC1:Hid (W.drew.cell? ⟨mb,0,none⟩=some (.int .i64 m)):=HMC.out
   have hw2:W.drew.heap.size=W.heap.size:=rfl
   clear z0 z1 z2 z3 z4 z5 z6 x0 x1 x2 x3 x4 x5 hd1 hd2 HCE
   generalize W.drew=Wc at HA1 HK1 HTG1 HMC1 hw2 ⊢
   have HO1:=Lib.hid (HF.out.old.trans (HA1.out.bel.mono HF.out.old.size))
   rw [← hw2] at hml hzl hzc
   clear HA HK HTG HMC hw2 hgl2
   go_wp2_with fail
   refine (in_any (T+e1.step) m mb _ HMC1.out).mono ?_
   rintro e w' ⟨rfl,rfl⟩
   clear HMC1
   obtain ⟨_,hf,x0,x1,x2,x3,x4,x5⟩:=HA1.out.lob
   obtain ⟨_,_,y0,y1,y2,y3,y4,y5⟩:=HK1.out
   by_cases hmt:m≤T+e1.step
   ·rw [decide_eq_true hmt]
    cases was
    ·have HE2:Hid (sweepL m (rs.map REdge.edge)=out.map RSp.sp ++ nextL m (T+e1.step) cu.cut ((rs.drop (i+1)).map REdge.edge)):=by
      unfold Hid
      rw [HE1.out,go_open_ HEN.out hmt]; rfl
     have HA3:=Lib.hid (HA1.out.setlo cu HCL.out HCR.out)
     clear HE1 hmt
     go_wp2
     go_step3
     rw [show ((i:Int)+1)=((i+1:Nat):Int) from rfl]
     exact .inl ⟨rfl,SwJ0.mk ws rs (i+1) (T+e1.step) set out cu HF.out HA3.out HE2.out rfl,by rw [hmm2]; simp [SwM0,intOf]; omega⟩
    ·have HE2:Hid (sweepL m (rs.map REdge.edge)=out.map RSp.sp ++ nextL m (T+e1.step) lo.cut ((rs.drop (i+1)).map REdge.edge)):=by
      unfold Hid
      rw [HE1.out,go_same HEN.out (decide_eq_true hmt)]; rfl
     clear HE1 hmt
     go_wp2
     go_step3
     rw [show ((i:Int)+1)=((i+1:Nat):Int) from rfl]
     exact .inl ⟨rfl,SwJ0.mk ws rs (i+1) (T+e1.step) set out lo HF.out HA1.out HE2.out rfl,by rw [hmm2]; simp [SwM0,intOf]; omega⟩
   ·rw [decide_eq_false hmt]
    cases was
    ·have HE2:Hid (sweepL m (rs.map REdge.edge)=out.map RSp.sp ++ nextL m (T+e1.step) lo.cut ((rs.drop (i+1)).map REdge.edge)):=by
      unfold Hid
      rw [HE1.out,go_same HEN.out (decide_eq_false hmt)]; rfl
     clear HE1 hmt
     go_wp2
     go_step3
     rw [show ((i:Int)+1)=((i+1:Nat):Int) from rfl]
     exact .inl ⟨rfl,SwJ0.mk ws rs (i+1) (T+e1.step) set out lo HF.out HA1.out HE2.out rfl,by rw [hmm2]; simp [SwM0,intOf]; omega⟩
    ·have HE2:Hid (sweepL m (rs.map REdge.edge)=out.map RSp.sp ++ (⟨lo.cut,cu.cut⟩ :: nextL m (T+e1.step) lo.cut ((rs.drop (i+1)).map REdge.edge))):=by
      unfold Hid
      rw [HE1.out,go_shut HEN.out hmt]; rfl
     clear HE1 hmt
     go_upto_region 15 with (fail)
     have B0:=Lib.hid ((Below.refl Wc.heap.size Wc).drew)
     refine wp_region_held_drew (S:=fun w'=>Below (ws.heap.size+1) Wc w'∧At6B w' bc cu.kind cu.v.a cu.v.b cu.v.c (.slice cu.A cu.v.pre.length cu.c) (.slice cu.B cu.v.build.length cu.d)) (by kernel_rfl) ⟨B0.out.mono hzl,HK1.out.drew⟩ (fun hHeld=>?_)
     refine tk 0 rfl set ?_
     refine tk 1 rfl lo ?_ fun w' hS'=>by have q0:=(hS'.1.cell (p:=⟨ws.heap.size,0,none⟩) (Nat.lt_succ_self _)).trans x0; have q1:=(hS'.1.cell (p:=⟨ws.heap.size,1,none⟩) (Nat.lt_succ_self _)).trans x1; have q2:=(hS'.1.cell (p:=⟨ws.heap.size,2,none⟩) (Nat.lt_succ_self _)).trans x2; have q3:=(hS'.1.cell (p:=⟨ws.heap.size,3,none⟩) (Nat.lt_succ_self _)).trans x3; have q4:=(hS'.1.cell (p:=⟨ws.heap.size,4,none⟩) (Nat.lt_succ_self _)).trans x4; have q5:=(hS'.1.cell (p:=⟨ws.heap.size,5,none⟩) (Nat.lt_succ_self _)).trans x5; go_simp
     refine tk 3 rfl cu ?_ fun w' hS'=>by obtain ⟨_,_,_,q0,q1,q2,q3,q4,q5⟩:=hS'; go_simp
     refine cl 2 rfl fun K hK=>?_
     go_simp
     refine (copied_any lo _ ((HA1.out.lies.kept HO1.out).kept B0.out) (Nat.le_trans HA1.out.few (by omega))).mono ?_
     rintro e w5 ⟨lo',rfl,hlo5,ho5,hb5⟩
     have B5:=Lib.hid (B0.out.trans (hb5.mono B0.out.size))
     have O5:=Lib.hid (ho5.mono (Nat.le_trans hzl B0.out.size))
     have E5:=Lib.hid hlo5
     clear ho5 hb5 hlo5 hHeld
     refine hK.out _ _ ⟨B5.out.mono hzl,HK1.out.kept B5.out hzc⟩ (fun hHeld=>?_)
     clear hK K
     try simp only [Act.put,p1,p2,p3]
     refine cl 4 rfl fun K hK=>?_
     go_simp
     refine (copied_any cu _ ((HCL.out.kept HO1.out).kept B5.out) (Nat.le_trans (right_few HCR.out).1 (by omega))).mono ?_
     rintro e w6 ⟨cu',rfl,hcu6,ho6,hb6⟩
     have B6:=Lib.hid (B5.out.trans (hb6.mono B5.out.size))
     have O6:=Lib.hid (ho6.mono (Nat.le_trans hzl B5.out.size))
     have P6:=Lib.hid (O5.out.kept hb6)
     have E6:=Lib.hid hcu6
     clear ho6 hb6 hcu6 hHeld
     refine hK.out _ _ ⟨B6.out.mono hzl,HK1.out.kept B6.out hzc⟩ (fun hHeld=>?_)
     clear hK K
     try simp only [Act.put,p1,p2,p3]
     refine tk 5 rfl (lo',cu') ?_
     have A7:=Lib.hid ((Below.refl w6.heap.size w6).alloc (Nat.le_refl _) (lo',cu'))
     have B7:=Lib.hid (B6.out.trans (A7.out.mono B6.out.size))
     refine cl 6 rfl fun K hK=>?_
     go_simp
     refine hK.out _ _ ⟨B7.out.mono hzl,HK1.out.kept B7.out hzc⟩ (fun hHeld=>?_)
     clear hK K
     try simp only [Act.put,p1,p2,p3]
     obtain ⟨v8,w8,hrun,ho8,hg8⟩:=run_append_sp (w6.alloc (lo',cu')) 123 (ws.heap.size+1) set out.length out (own_below HA1.out.own B7.out) ⟨w6.heap.size,0,none⟩ 1 1 [⟨lo',cu'⟩] rfl (news_new w6 _ _) (by omega) (Nat.le_trans hzl B7.out.size)
     have HA8:=Lib.hid (HA1.out.more (s:=⟨lo',cu'⟩) B7.out (P6.out.kept A7.out) (O6.out.kept A7.out) hg8 ho8 (by omega))
     have K8:Hid (At6B w8 bc cu.kind cu.v.a cu.v.b cu.v.c (.slice cu.A cu.v.pre.length cu.c) (.slice cu.B cu.v.build.length cu.d)):=(HK1.out.kept B7.out hzc).grown hg8 ((HTG1.out.kept B7.out hzc).apart (own_below HA1.out.own B7.out))
     have B8:Hid (Below (ws.heap.size+1) Wc w8):=(B7.out.mono hzl).grown hg8 (Nat.le_trans hzl B7.out.size) (fun k hk=>(HA1.out.own.lt k hk).1)
     have HE3:Hid (sweepL m (rs.map REdge.edge)=(out ++ [(⟨lo',cu'⟩:RSp)]).map RSp.sp ++ nextL m (T+e1.step) lo.cut ((rs.drop (i+1)).map REdge.edge)):=by
      unfold Hid
      have e5:lo'.cut=lo.cut:=by rw [E5.out,HA1.out.bare]; rfl
      have e6:cu'.cut=cu.cut:=by rw [E6.out]; show (⟨cu.kind,bare cu.cut.v⟩:Cut)=_; rw [right_bare HCR.out]; rfl
      rw [HE2.out,List.map_append,List.append_assoc]; show _=_ ++ ([Sp.mk lo'.cut cu'.cut] ++ _); rw [e5,e6]; rfl
     clear ho8 hg8 hHeld HE2
     refine cl 7 rfl fun K hK=>?_
     refine region_append_sp (by rfl) _ _ rfl rfl rfl hrun ?_
     refine hK.out _ _ ⟨B8.out,K8.out⟩ (fun hHeld=>?_)
     clear hK K hrun
     try simp only [Act.put,p1,p2,p3]
     refine tk 8 rfl v8 ?_
     refine wpAnyH_done (by kernel_rfl) ?_ _
     clear hHeld
     go_wp2
     go_step3
     rw [show ((i:Int)+1)=((i+1:Nat):Int) from rfl]
     exact .inl ⟨rfl,SwJ0.mk ws rs (i+1) (T+e1.step) v8 (out ++ [⟨lo',cu'⟩]) lo HF.out HA8.out HE3.out rfl,by rw [hmm2]; simp [SwM0,intOf]; omega⟩
 ·intro HP
  intro mm
  refine SwJ0.out ?_
  intro W ws rs i T set out lo u9 u10 u11 u14 u15 u16 u17 u18 u19 u20 u21 u22 u23 u24 u25 u26 u27 u28 u29 u30 u31 u32 u33 u34 u35 u36 u37 u38 u39 u40 u41 u42 u43 u44 u45 u46 u47 u48 u49 u50 u51 u52 u53 u54 u55 u56 u57 u58 u59 u60 u61 u62 u63 u64 u65 u66 u67 u68 u69 u70 u71 u72 u73 hfix hat heq hmm
  have hmm2:mm=2 * (re.length - i)+1:=by rw [← hmm]; simp [SwM0,intOf]
  clear hmm
  have HF:=Lib.hid hfix
  have HA:=Lib.hid hat
  have HE:=Lib.hid heq
  have hi:=hat.ile
  have hsm:=hfix.small
  clear hfix hat heq
  by_cases hlt:i<re.length
  ·have e0:((i:Int) == (re.length:Int))=false:=by rw [beq_eq_false_iff_ne]; omega
   go_upto_region 7 with (fail)
   obtain ⟨g,rfl,hgl,hcl⟩:=HF.out.cells (by omega)
   obtain ⟨z0,z1,z2,z3,z4,z5,z6⟩:=ed_cells (w:=W) (g:=g) (n:=re.length) (l:=rs) (fun j hj q u hu=>(HA.out.bel.cell (p:=⟨g,0+j * 7+q,none⟩) hgl).trans (hcl j hj q u hu)) hlt
   have hmc:W.cell? ⟨mb,0,none⟩=some (.int .i64 m):=(HA.out.bel.cell (p:=⟨mb,0,none⟩) HF.out.mbl).trans HF.out.mbc
   clear hcl
   have HX:Hid (Lies w1 (rs.getD i default).cut∧right (rs.getD i default).cut.cut=true):=⟨HF.out.lies _ (getE_mem (by rw [HF.out.len]; exact hlt)),HF.out.right _ (getE_mem (by rw [HF.out.len]; exact hlt))⟩
   have HE1:Hid (sweepL m (rs.map REdge.edge)=out.map RSp.sp ++ go m (rs.getD i default).cut.cut (decide (m≤T)) T lo.cut ((rs.drop i).map REdge.edge)):=by
    unfold Hid; rw [HE.out,drop_ed rs i (by rw [HF.out.len]; exact hlt)]; rfl
   generalize rs.getD i default=e1 at z0 z1 z2 z3 z4 z5 z6 HX HE1
   have hml:mb<W.heap.size:=Nat.lt_of_lt_of_le HF.out.mbl HA.out.bel.size
   have hgl2:g<W.heap.size:=Nat.lt_of_lt_of_le hgl HA.out.bel.size
   refine wp_region_held_drew (S:=fun w'=>Below W.heap.size W w') (by kernel_rfl) (Below.refl _ _).drew (fun hHeld=>?_)
   refine tk 0 rfl (.slice (some ⟨g,0,none⟩) re.length c) ?_
   refine tk 1 rfl (.int .i64 i) ?_
   refine tk 2 rfl (.pointer (some ⟨g,i * 7,none⟩)) ?_
   refine tk 3 rfl (.pointer (some ⟨g,i * 7,none⟩)) ?_
   refine tk 4 rfl e1.cut ?_ fun w' hS'=>by have q0:=(hS'.cell (p:=⟨g,i * 7,none⟩) hgl2).trans z0; have q1:=(hS'.cell (p:=⟨g,i * 7+1,none⟩) hgl2).trans z1; have q2:=(hS'.cell (p:=⟨g,i * 7+2,none⟩) hgl2).trans z2; have q3:=(hS'.cell (p:=⟨g,i * 7+3,none⟩) hgl2).trans z3; have q4:=(hS'.cell (p:=⟨g,i * 7+4,none⟩) hgl2).trans z4; have q5:=(hS'.cell (p:=⟨g,i * 7+5,none⟩) hgl2).trans z5; go_simp
   refine tk 5 rfl (.func (.func 250) #[] #[.pointer (some ⟨mb,0,none⟩)]) ?_
   refine tk 6 rfl (.int .i64 T) ?_
   refine wpAnyH_ready (rs:=[7,8]) (by kernel_rfl) (by simp) ?_
   refine AllReadyH.cons (nth_ops (i:=7) rfl) (fun K hK=>?_) (AllReadyH.cons (nth_ops (i:=8) rfl) (fun K hK=>?_) AllReadyH.nil)
   ·go_simp
    refine (in_any T m mb _ ((hHeld.cell (p:=⟨mb,0,none⟩) hml).trans hmc)).mono ?_
    rintro e w2 ⟨rfl,rfl⟩
    refine hK.out _ _ hHeld (fun hHeld=>?_)
    clear hK K
    try simp only [Act.put,p1,p2,p3]
    refine cl 8 rfl fun K hK=>?_
    go_simp
    refine hK.out _ _ (((Below.refl W.heap.size W).alloc (Nat.le_refl _) _).drew) (fun hHeld=>?_)
    clear hK K
    try simp only [Act.put,p1,p2,p3]
    refine cl 9 rfl fun K hK=>?_
    go_simp
    refine hK.out _ _ (((Below.refl W.heap.size W).alloc (Nat.le_refl _) _).drew) (fun hHeld=>?_)
    clear hK K
    try simp only [Act.put,p1,p2,p3]
    refine tk 10 rfl (.bool (decide (m≤T))) ?_
    refine wpAnyH_done (by kernel_rfl) ?_ _
    clear hHeld
    go_wp2
    go_step3
    rename_i hK
    exact hK _ _ (HP.out _ _ _ (SwJ1.mk ws rs i T set out lo W.heap.size e1.cut (decide (m≤T)) HF.out (HA.out.kept (((Below.refl W.heap.size W).alloc (Nat.le_refl _) _).drew)) hlt (At6B.drew (At6B.new W _ _ _ _ _ _ _)) (Tag.new W _) HX.out.1 HX.out.2 HE1.out rfl) (by rw [hmm2]; simp [SwM1,intOf]))
   ·go_simp
    refine hK.out _ _ (((Below.refl W.heap.size W).alloc (Nat.le_refl _) _).drew) (fun hHeld=>?_)
    clear hK K
    try simp only [Act.put,p1,p2,p3]
    refine cl 7 rfl fun K hK=>?_
    go_simp
    refine (in_any T m mb _ ((hHeld.cell (p:=⟨mb,0,none⟩) hml).trans hmc)).mono ?_
    rintro e w2 ⟨rfl,rfl⟩
    refine hK.out _ _ hHeld (fun hHeld=>?_)
    clear hK K
    try simp only [Act.put,p1,p2,p3]
    refine cl 9 rfl fun K hK=>?_
    go_simp
    refine hK.out _ _ (((Below.refl W.heap.size W).alloc (Nat.le_refl _) _).drew) (fun hHeld=>?_)
    clear hK K
    try simp only [Act.put,p1,p2,p3]
    refine tk 10 rfl (.bool (decide (m≤T))) ?_
    refine wpAnyH_done (by kernel_rfl) ?_ _
    clear hHeld
    go_wp2
    go_step3
    rename_i hK
    exact hK _ _ (HP.out _ _ _ (SwJ1.mk ws rs i T set out lo W.heap.size e1.cut (decide (m≤T)) HF.out (HA.out.kept (((Below.refl W.heap.size W).alloc (Nat.le_refl _) _).drew)) hlt (At6B.drew (At6B.new W _ _ _ _ _ _ _)) (Tag.new W _) HX.out.1 HX.out.2 HE1.out rfl) (by rw [hmm2]; simp [SwM1,intOf]))
  ·have e0:((i:Int) == (re.length:Int))=true:=by rw [beq_iff_eq]; omega
   have HE2:Hid (out.map RSp.sp=sweepL m (rs.map REdge.edge)):=by
    unfold Hid
    rw [HE.out,List.drop_eq_nil_of_le (by rw [HF.out.len]; omega)]; simp [nextL]
   go_wp2
   simp only [jumps]
   exact bodyPost_ret (v:=set) (by simp [results,Tryz.results213,go_sem]) rfl ⟨ws.heap.size+1,set,out,rs,rfl,HF.out.perm,HF.out.sorted,HE2.out,Nat.le_succ_of_le HF.out.old.size,HA.out.own,HA.out.cuts,Nat.le_trans HA.out.len hi,HF.out.old.trans (HA.out.bel.mono HF.out.old.size)⟩
 ·intro HP
  go_wp2_with fail
  refine HS.out.mono ?_
  rintro e ws ⟨rfl,rs,hp,hpw,ho,hg⟩
  have HFX:Hid (SwFix w1 re A re.length mb m ws rs):=by
   have hln:=hp.length_eq
   obtain ⟨A',c',e',_,_,hcell⟩:=own_cells evals_len ho rfl
   injection e' with e1 e2 e3
   subst e1
   refine ⟨hp,hpw,hln,hn,fun e he=>HL.out e (hp.mem_iff.1 he),fun e he=>HR.out e (hp.mem_iff.1 he),fun e he=>HT.out e (hp.mem_iff.1 he),fun h0=>?_,Nat.lt_of_lt_of_le hmb hg.size,hg.cell HC.out (Ne.symm HN.out),HB.out.grown hg HB.out.size (fun k hk=>Nat.le_trans hbase (HOW.out.lt k hk).1)⟩
   obtain ⟨g,hg1,_,hg2,_,hg3⟩:=hcell (by rw [hln]; exact h0)
   exact ⟨g,hg1,hg2,by rw [← hln]; exact hg3⟩
  have HAT:Hid (SwAt w1 ws re.length 0 0 (.slice none 0 0) [] rlow (ws.alloc true)) :=
   {bel:=(Below.refl _ _).alloc (Nat.le_refl _) _,lob:=At6B.new ws _ _ _ _ _ _ _,own:=World.ownsRow_nil _ _ _ _,cuts:=(fun s hs=>by cases hs),lies:=Lies.low w1,bare:=rfl,few:=Nat.zero_le _,len:=Nat.le_refl _,lo10:=by omega,hi10:=by omega,ile:=Nat.zero_le _ }
  have HEQ:Hid (sweepL m (rs.map REdge.edge)=([]:List RSp).map RSp.sp ++ nextL m 0 rlow.cut ((rs.drop 0).map REdge.edge)):=sweepL_next m _
  clear HS hp hpw ho hg
  go_wp2
  go_step3
  rename_i hK
  exact hK _ _ (HP.out _ _ (SwJ0.mk ws rs 0 0 (.slice none 0 0) [] rlow HFX.out HAT.out HEQ.out rfl))
end Go.Proofs.YtgakcdcfblgagaaGreatDoor.Span
