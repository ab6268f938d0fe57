/-
  What the theorem of the last text needs of these: MoCopyD, NmCut, MoCopyG. Conditions: as each theorem states.
-/
import Derived.Test.YtgakcdcfblgagaaGreatDoorRoA1
import Derived.Test.YtgakcdcfblgagaaGreatDoorRoA16
import Derived.Test.YtgakcdcfblgagaaGreatDoorRoA20
import Derived.StillTailTactics
import Derived.Deep.CutBlock
import Derived.Deep.DeepCutAuto
import Derived.Deep.RegionHeld3
set_option maxRecDepth 100000
set_option maxHeartbeats 25600000
namespace Go.Proofs.YtgakcdcfblgagaaGreatDoor.Copy
open Go.RowKit Num Ident Semver Fr
open Range (Rng noRng RV Lies RgRow CellsAt KeepS LtB InS FitV wt wtL)
open KR (KRow AtV)
open Nrm (tot totL)

theorem cd_frame (t:Array Value) (h:t.size=65):∃ F:Nat→Value,t=#[t.getD 0 undef,t.getD 1 undef,t.getD 2 undef,t.getD 3 undef,t.getD 4 undef,F 5,F 6,F 7,F 8,F 9,F 10,F 11,F 12,F 13,F 14,F 15,F 16,F 17,F 18,F 19,F 20,F 21,F 22,F 23,F 24,F 25,F 26,F 27,F 28,F 29,F 30,F 31,F 32,F 33,F 34,F 35,F 36,F 37,F 38,F 39,F 40,F 41,F 42,F 43,F 44,F 45,F 46,F 47,F 48,F 49,F 50,F 51,F 52,F 53,F 54,F 55,F 56,F 57,F 58,F 59,F 60,F 61,F 62,F 63,F 64]:=⟨fun i=>t.getD i undef,Range.arr_lit t 65 h⟩
def CdJ (W1:World) (B:Nat) (r:Rng) (g0 bd:Nat) (d0:Value) (m:Nat) (a':Act) (W:World):Prop :=
 ∃ (G:Ghost) (v:Value) (T:List Td),CopyAt W1 W B G v T∧G g0=some [r]∧sumW T=m∧m≤1000 ∧
  a'.defers=[]∧a'.tmps.size=65∧a'.tmps.getD 0 undef=d0∧a'.tmps.getD 1 undef=.pointer (some ⟨bd,0,none⟩)∧a'.tmps.getD 2 undef=.pointer (some ⟨bd+1,0,none⟩)∧a'.tmps.getD 3 undef=.slice (some ⟨g0,0,none⟩) 1 1∧a'.tmps.getD 4 undef=v
theorem Not.below {W1 W:World} {B t:Nat} (h:Not W1 B t) (hb:Below W1.heap.size W1 W) (ht:t<W1.heap.size):Not W B t:=⟨h.1,fun cur q=>h.2 cur ((hb.block t ht).symm.trans q)⟩
theorem Typed.lt {W:World} {B:Nat} {G:Ghost} (h:Typed W B G) {g:Nat} {rs:List Rng} (hg:G g=some rs):g<W.heap.size:=by
 obtain ⟨c,xs,_,h2,_⟩:=h g rs hg
 exact (h2.lt g rfl).2
def setAll (W:World) (b:Nat):Nat→List Value→World
 | _,[]=>W
 | i,v :: M=>setAll (W.setCell ⟨b,i,none⟩ v) b (i+1) M
theorem but_fill (W:World) (b:Nat):∀ (M:List Value) (i:Nat),But (fun k=>k=b) W (setAll W b i M):=fun M=>by
 induction M generalizing W with
 | nil=>exact fun i=>But.refl _ _
 | cons v M ih=>exact fun i=>(But.one W b i v).trans (ih (W.setCell ⟨b,i,none⟩ v) (i+1)) (fun _ q=>.inl q)
theorem take_set_go (L:List Value) (i:Nat) (v:Value) (hi:i<L.length):(L.set i v).take (i+1)=L.take i ++ [v]:=by
 rw [List.take_set,List.take_succ_eq_append_getElem hi,List.set_append_right _ _ (by rw [List.length_take]; omega)]
 simp [List.length_take,Nat.min_eq_left (Nat.le_of_lt hi)]
theorem atv_fill {b:Nat}:∀ {W:World} {L:List Value} (_:AtV W b L) (M:List Value) (i:Nat),i+M.length=L.length→AtV (setAll W b i M) b (L.take i ++ M)
 | W,L,h,[],i,hl=>by
  have:L.take i=L:=List.take_of_length_le (by simp at hl; omega)
  rw [this,List.append_nil]; exact h
 | W,L,h,v :: M,i,hl=>by
  have hl':i+(M.length+1)=L.length:=hl
  have h1:=atv_fill (atv_set h i v (by omega)) M (i+1) (by rw [List.length_set]; omega)
  rw [take_set_go L i v (by omega),List.append_assoc] at h1
  exact h1
def Aside (w:World) (B b:Nat):Prop:=∀ t,t<w.heap.size→Not w B t→b≠t
theorem Aside.new {w:World} {B b:Nat} (h:w.heap.size≤b):Aside w B b:=fun t ht _ e=>by omega
theorem Aside.txt {w W:World} {B b:Nat} (hb:Below w.heap.size w W) (h:Txt W B b):Aside w B b:=fun _ ht hn=>h.ne (hn.below hb ht)
theorem Aside.up {w w':World} {B b:Nat} (h:Aside w' B b) (hb:Below w.heap.size w w'):Aside w B b:=fun t ht hn=>h t (Nat.lt_of_lt_of_le ht hb.size) (hn.below hb ht)
theorem Typed.liesIn {W:World} {B:Nat} {G:Ghost} (h:Typed W B G) (S:Nat→Prop) (h1:∀ b,Txt W B b→S b) (h2:∀ g rs,G g=some rs→S g):∀ (m:Nat) (r:Rng) (x:RV),wt r≤m→Ok1 W B G r x→Lies W S r x
 | 0,r,x,hm,_=>by rw [Range.wt_eq] at hm; omega
 | m+1,r,x,hm,hx=>by
  rw [Range.wt_eq] at hm
  obtain ⟨k,v,l⟩:=r
  have e1:k=x.kind:=hx.kind
  have e2:v=x.v:=hx.ver
  have e3:l.length=x.n:=hx.subs
  subst e1
  subst e2
  have mk:∀ f:Nat→RV,(0<x.n→∃ b o,x.L=some ⟨b,o,none⟩∧S b∧∀ j,j<x.n→CellsAt W b (o+j * 7) (f j))→(∀ j,j<x.n→Lies W S (l.getD j noRng) (f j))→Lies W S (.mk x.kind x.v l) x :=
   fun f=>Lies.mk x l f e3.symm hx.cap hx.pre hx.build (ins_map hx.ip h1) (ins_map hx.ib h1) hx.cp hx.cb hx.fit hx.nil
  rcases hx.at_ with ho | ⟨g,hL,hG⟩
  ·obtain ⟨f,_,q2,q3⟩:=ho
   refine mk f (fun h0=>?_) fun j hj=>(q3 j hj).mono fun b hb _=>h1 b (.inl hb)
   obtain ⟨b,o,e,hb,hc⟩:=q2 h0
   exact ⟨b,o,e,h1 b (.inl hb),hc⟩
  ·have hG:G g=some l:=hG
   obtain ⟨c,xs,q1,q2,q3⟩:=h g l hG
   refine mk (fun j=>xs.getD j default) (fun h0=>⟨g,0,hL,h2 g l hG,fun j hj=>?_⟩) fun j hj=>?_
   ·have:=(own_at q2 q1 (by omega:j<l.length)).2.2.2.2
    rwa [Nat.zero_add]
   ·refine Typed.liesIn h S h1 h2 m _ _ ?_ (q3 j (by omega))
    have hm':1+wtL l≤m+1:=hm
    have hmem:l.getD j noRng ∈ l:=by rw [List.getD_eq_getElem?_getD,List.getElem?_eq_getElem (by omega)]; exact List.getElem_mem _
    have:=Range.wt_mem hmem
    omega
theorem cd_start (w:World) (B:Nat) (nm:Value) (r:Rng) (x:RV) (hx:Lies w (LtB B) r x) (hB:B≤w.heap.size) (ht:tot r≤12) :
  ∃ W1 W3,W3=(((w.alloc (.cells #[nm,x.kind,x.v.a,x.v.b,x.v.c,.slice x.A x.v.pre.length x.c,.slice x.B x.v.build.length x.d,.slice x.L x.n x.e] 67)).alloc (.cells #[.string ⟨#[]⟩,.int .i64 0,.int .u64 0,.int .u64 0,.int .u64 0,.slice none 0 0,.slice none 0 0,.slice none 0 0] 67)).alloc x).alloc (.cells #[.slice (some ⟨w.heap.size+1+1,0,none⟩) 1 1] 63)∧W1.heap.size=w.heap.size+1+1∧Below w.heap.size w W1∧AtV W1 w.heap.size [nm,.int .i64 x.kind,.int .u64 x.v.a,.int .u64 x.v.b,.int .u64 x.v.c,.slice x.A x.v.pre.length x.c,.slice x.B x.v.build.length x.d,.slice x.L x.n x.e]∧AtV W1 (w.heap.size+1) [.string ⟨#[]⟩,.int .i64 0,.int .u64 0,.int .u64 0,.int .u64 0,.slice none 0 0,.slice none 0 0,.slice none 0 0]∧Not W1 B w.heap.size∧Not W1 B (w.heap.size+1) ∧
   CopyAt W1 W3 B (fun k=>if k=w.heap.size+1+1 then some [r] else none) (.slice (some ⟨w.heap.size+1+1+1,0,none⟩) 1 1) [⟨some ⟨w.heap.size+1+1,0,none⟩,1,[r]⟩]:=by
 obtain ⟨V1,hV1⟩:∃ V,V=w.alloc (.cells #[nm,x.kind,x.v.a,x.v.b,x.v.c,.slice x.A x.v.pre.length x.c,.slice x.B x.v.build.length x.d,.slice x.L x.n x.e] 67):=⟨_,rfl⟩
 have a1:AtV V1 w.heap.size [nm,.int .i64 x.kind,.int .u64 x.v.a,.int .u64 x.v.b,.int .u64 x.v.c,.slice x.A x.v.pre.length x.c,.slice x.B x.v.build.length x.d,.slice x.L x.n x.e]:=by rw [hV1]; exact AtV.new w _ _
 have z1:V1.heap.size=w.heap.size+1:=by rw [hV1]; simp
 have b1:Below w.heap.size w V1:=by rw [hV1]; exact (Below.refl _ _).alloc (Nat.le_refl _) _
 have n1:Not V1 B w.heap.size:=⟨hB,fun cur q=>by rw [hV1,heap_alloc_new] at q; injection q with q; injection q with _ q; exact absurd q (by decide)⟩
 obtain ⟨V2,hV2⟩:∃ V,V=V1.alloc (.cells #[.string ⟨#[]⟩,.int .i64 0,.int .u64 0,.int .u64 0,.int .u64 0,.slice none 0 0,.slice none 0 0,.slice none 0 0] 67):=⟨_,rfl⟩
 have k2:Below V1.heap.size V1 V2:=by rw [hV2]; exact (Below.refl _ _).alloc (Nat.le_refl _) _
 have a2:AtV V2 (w.heap.size+1) [.string ⟨#[]⟩,.int .i64 0,.int .u64 0,.int .u64 0,.int .u64 0,.slice none 0 0,.slice none 0 0,.slice none 0 0]:=by rw [hV2,← z1]; exact AtV.new V1 _ _
 have z2:V2.heap.size=w.heap.size+1+1:=by rw [hV2]; simp [z1]
 have n2:Not V2 B (w.heap.size+1):=⟨by omega,fun cur q=>by rw [hV2,← z1,heap_alloc_new] at q; injection q with q; injection q with _ q; exact absurd q (by decide)⟩
 have b2:Below w.heap.size w V2:=b1.trans (k2.mono (by omega))
 obtain ⟨V3,hV3⟩:∃ V,V=V2.alloc x:=⟨_,rfl⟩
 have k3:Below V2.heap.size V2 V3:=by rw [hV3]; exact (Below.refl _ _).alloc (Nat.le_refl _) _
 have o3:V3.ownsRow V2.heap.size 65 7 (.slice (some ⟨w.heap.size+1+1,0,none⟩) 1 1) 1 x.vals:=by
  rw [hV3,← z2]
  exact World.ownsRow_lit (base:=V2.heap.size) (e:=65) (size:=7) V2 #[x.kind,x.v.a,x.v.b,x.v.c,.slice x.A x.v.pre.length x.c,.slice x.B x.v.build.length x.d,.slice x.L x.n x.e] 1 (Nat.le_refl _) (by decide) rfl
 have z3:V3.heap.size=w.heap.size+1+1+1:=by rw [hV3]; simp [z2]
 obtain ⟨V4,hV4⟩:∃ V,V=V3.alloc (.cells #[.slice (some ⟨w.heap.size+1+1,0,none⟩) 1 1] 63):=⟨_,rfl⟩
 have k4:Below V3.heap.size V3 V4:=by rw [hV4]; exact (Below.refl _ _).alloc (Nat.le_refl _) _
 have o4:V4.ownsRow V2.heap.size 63 1 (.slice (some ⟨w.heap.size+1+1+1,0,none⟩) 1 1) 1 [.slice (some ⟨w.heap.size+1+1,0,none⟩) 1 1]:=by
  rw [hV4,← z3]
  exact World.ownsRow_lit (base:=V2.heap.size) (e:=63) (size:=1) V3 #[.slice (some ⟨w.heap.size+1+1,0,none⟩) 1 1] 1 (by omega) (by decide) rfl
 have bel:Below V2.heap.size V2 V4:=k3.trans (k4.mono k3.size)
 have hok:Ok1 V4 B (fun k=>if k=w.heap.size+1+1 then some [r] else none) r x:=Ok1.of_lies (hx.keep (KeepS.of_below (b2.trans (bel.mono b2.size))))
 refine ⟨V2,V4,by rw [hV4,hV3,hV2,hV1],z2,b2,a1.kept k2 (by omega),a2,n1.below k2 (by omega),n2,?_⟩
 refine ⟨fun g rs hg=>?_,o4,fun t ht=>?_,fun g rs hg=>?_,fun g rs hg=>?_,bel,Nat.le_trans hB b2.size⟩
 ·have hg:(if g=w.heap.size+1+1 then some [r] else none)=some rs:=hg
  by_cases e:g=w.heap.size+1+1
  ·rw [if_pos e] at hg
   injection hg with hg
   subst hg
   subst e
   refine ⟨1,[x],rfl,?_,fun j hj=>?_⟩
   ·have:=(own_below o3 k4).mono (base':=B) (Nat.le_trans hB b2.size)
    simpa using this
   ·obtain rfl:j=0:=by simpa using hj
    exact hok
  ·rw [if_neg e] at hg; cases hg
 ·rw [List.mem_singleton] at ht
  subst ht
  exact .inr ⟨_,rfl,if_pos rfl⟩
 ·have hg:(if g=w.heap.size+1+1 then some [r] else none)=some rs:=hg
  by_cases e:g=w.heap.size+1+1
  ·omega
  ·rw [if_neg e] at hg; cases hg
 ·have hg:(if g=w.heap.size+1+1 then some [r] else none)=some rs:=hg
  by_cases e:g=w.heap.size+1+1
  ·rw [if_pos e] at hg
   injection hg with hg
   subst hg
   intro q hq
   rw [List.mem_singleton] at hq
   rw [hq]; exact ht
  ·rw [if_neg e] at hg; cases hg
def CdPost (w:World) (B:Nat) (nm:Value) (r:Rng) (e:Ending) (w':World):Prop:=∃ x:RV,e=.returned (.agg #[nm,x.kind,x.v.a,x.v.b,x.v.c,.slice x.A x.v.pre.length x.c,.slice x.B x.v.build.length x.d,.slice x.L x.n x.e])∧Lies w' (Aside w B) r x∧Below w.heap.size w w'
theorem copiedDep_any (s:ByteArray) (r:Rng) (x:RV) (B:Nat) (w:World) (hx:Lies w (LtB B) r x) (hB:B≤w.heap.size) (ht:tot r≤12) :
  Calls Tryz.prog 101 #[.agg #[.string s,x.kind,x.v.a,x.v.b,x.v.c,.slice x.A x.v.pre.length x.c,.slice x.B x.v.build.length x.d,.slice x.L x.n x.e]] w (CdPost w B (.string s) r):=by
 obtain ⟨W1,W3,hW,hz1,hb1,ha,hr,hn1,hn2,hc⟩:=cd_start w B (.string s) r x hx hB ht
 have HA:=Lib.hid ha
 have HRB:=Lib.hid hr
 have HB1:=Lib.hid hb1
 have HN:=Lib.hid (And.intro hn1 hn2)
 have HC3:=Lib.hid hc
 have HWT:Hid (wt r≤12):=Nat.le_trans (Nrm.wt_tot r) ht
 have HLB:=Lib.hid hB
 clear hn1 hn2 ha hr hc hx ht hb1 hB
 obtain ⟨bd,hbd⟩:∃ bd,w.heap.size=bd:=⟨_,rfl⟩
 rw [hbd] at HA HRB HN HC3 hz1
 have HZ1:=Lib.hid hz1
 clear hz1
 go_enter Tryz.func101,Tryz.ntmps101
 rw [hbd] at hW
 go_wp2_with fail
 refine Range.wp_scope_back_of 0 (CdJ W1 B r (bd+1+1) bd (.agg #[.string s,x.kind,x.v.a,x.v.b,x.v.c,.slice x.A x.v.pre.length x.c,.slice x.B x.v.build.length x.d,.slice x.L x.n x.e])) rfl ?_ ?_
 ·rintro m ⟨tm,df⟩ W ⟨G,v,T,hC,hG,hsum,hmm,hd,hs,t0,t1,t2,t3,t4⟩
  simp only at hd hs t0 t1 t2 t3 t4
  obtain ⟨F,hF⟩:=cd_frame tm hs
  rw [t0,t1,t2,t3,t4] at hF
  clear t0 t1 t2 t3 t4 hs
  subst hF; subst hd
  have HC:=Lib.hid hC
  have HG:=Lib.hid hG
  clear hC hG
  by_cases h1:T=[]
  ·subst h1
   obtain ⟨y,hy⟩:=HC.out.typed.cur HG.out (j:=0) (by simp)
   have HY:=Lib.hid hy
   clear hy
   obtain ⟨_,hgl,hgf,hcl⟩:=HY.out.at_
   obtain ⟨c0,c1,c2,c3,c4,c5,c6⟩:=hcl.cells
   have HA2:=Lib.hid (HA.out.kept HC.out.bel (by have:=HZ1.out; omega))
   have HR2:=Lib.hid (HRB.out.kept HC.out.bel (by have:=HZ1.out; omega))
   have hal:=HA2.out.lt
   have haf:=HA2.out.fr
   have a0:=HA2.out.at_ 0 _ rfl
   have a1:=HA2.out.at_ 1 _ rfl
   have a2:=HA2.out.at_ 2 _ rfl
   have a3:=HA2.out.at_ 3 _ rfl
   have a4:=HA2.out.at_ 4 _ rfl
   have a5:=HA2.out.at_ 5 _ rfl
   have a6:=HA2.out.at_ 6 _ rfl
   have a7:=HA2.out.at_ 7 _ rfl
   rcases HC.out.own.2 with ⟨rfl,_⟩ | ⟨gg,cp,cur,rfl,_⟩
   all_goals
    go_upto_region 5 with (fail)
    have HA4:Hid (AtV (((((((W.setCell ⟨bd,1,none⟩ y.kind).setCell ⟨bd,2,none⟩ y.v.a).setCell ⟨bd,3,none⟩ y.v.b).setCell ⟨bd,4,none⟩ y.v.c).setCell ⟨bd,5,none⟩ (.slice y.A y.v.pre.length y.c)).setCell ⟨bd,6,none⟩ (.slice y.B y.v.build.length y.d)).setCell ⟨bd,7,none⟩ (.slice y.L y.n y.e)) bd [.string s,.int .i64 y.kind,.int .u64 y.v.a,.int .u64 y.v.b,.int .u64 y.v.c,.slice y.A y.v.pre.length y.c,.slice y.B y.v.build.length y.d,.slice y.L y.n y.e]):=atv_fill HA2.out [.int .i64 y.kind,.int .u64 y.v.a,.int .u64 y.v.b,.int .u64 y.v.c,.slice y.A y.v.pre.length y.c,.slice y.B y.v.build.length y.d,.slice y.L y.n y.e] 1 rfl
    have HB4:Hid (But (fun k=>k=bd) W (((((((W.setCell ⟨bd,1,none⟩ y.kind).setCell ⟨bd,2,none⟩ y.v.a).setCell ⟨bd,3,none⟩ y.v.b).setCell ⟨bd,4,none⟩ y.v.c).setCell ⟨bd,5,none⟩ (.slice y.A y.v.pre.length y.c)).setCell ⟨bd,6,none⟩ (.slice y.B y.v.build.length y.d)).setCell ⟨bd,7,none⟩ (.slice y.L y.n y.e))):=but_fill W bd [.int .i64 y.kind,.int .u64 y.v.a,.int .u64 y.v.b,.int .u64 y.v.c,.slice y.A y.v.pre.length y.c,.slice y.B y.v.build.length y.d,.slice y.L y.n y.e] 1
    have HR4:=Lib.hid (atv_but HR2.out HB4.out (by omega))
    clear a0 a1 a2 a3 a4 a5 a6 a7 c0 c1 c2 c3 c4 c5 c6 hal haf hgl hgf hcl
    generalize (((((((W.setCell ⟨bd,1,none⟩ y.kind).setCell ⟨bd,2,none⟩ y.v.a).setCell ⟨bd,3,none⟩ y.v.b).setCell ⟨bd,4,none⟩ y.v.c).setCell ⟨bd,5,none⟩ (.slice y.A y.v.pre.length y.c)).setCell ⟨bd,6,none⟩ (.slice y.B y.v.build.length y.d)).setCell ⟨bd,7,none⟩ (.slice y.L y.n y.e))=W4 at HA4 HB4 HR4 ⊢
    have hal:=HA4.out.lt
    have haf:=HA4.out.fr
    have a0:=HA4.out.at_ 0 _ rfl
    have a1:=HA4.out.at_ 1 _ rfl
    have a2:=HA4.out.at_ 2 _ rfl
    have a3:=HA4.out.at_ 3 _ rfl
    have a4:=HA4.out.at_ 4 _ rfl
    have a5:=HA4.out.at_ 5 _ rfl
    have a6:=HA4.out.at_ 6 _ rfl
    have a7:=HA4.out.at_ 7 _ rfl
    have hrl:=HR4.out.lt
    have hrf:=HR4.out.fr
    have r0:=HR4.out.at_ 0 _ rfl
    have r1:=HR4.out.at_ 1 _ rfl
    have r2:=HR4.out.at_ 2 _ rfl
    have r3:=HR4.out.at_ 3 _ rfl
    have r4:=HR4.out.at_ 4 _ rfl
    have r5:=HR4.out.at_ 5 _ rfl
    have r6:=HR4.out.at_ 6 _ rfl
    have r7:=HR4.out.at_ 7 _ rfl
    go_wp2
    have HA6:Hid (AtV ((((((((W4.setCell ⟨bd+1,0,none⟩ (.string s)).setCell ⟨bd+1,1,none⟩ y.kind).setCell ⟨bd+1,2,none⟩ y.v.a).setCell ⟨bd+1,3,none⟩ y.v.b).setCell ⟨bd+1,4,none⟩ y.v.c).setCell ⟨bd+1,5,none⟩ (.slice y.A y.v.pre.length y.c)).setCell ⟨bd+1,6,none⟩ (.slice y.B y.v.build.length y.d)).setCell ⟨bd+1,7,none⟩ (.slice y.L y.n y.e)) (bd+1) [.string s,.int .i64 y.kind,.int .u64 y.v.a,.int .u64 y.v.b,.int .u64 y.v.c,.slice y.A y.v.pre.length y.c,.slice y.B y.v.build.length y.d,.slice y.L y.n y.e]):=atv_fill HR4.out [.string s,.int .i64 y.kind,.int .u64 y.v.a,.int .u64 y.v.b,.int .u64 y.v.c,.slice y.A y.v.pre.length y.c,.slice y.B y.v.build.length y.d,.slice y.L y.n y.e] 0 rfl
    have HB6:Hid (But (fun k=>k=bd+1) W4 ((((((((W4.setCell ⟨bd+1,0,none⟩ (.string s)).setCell ⟨bd+1,1,none⟩ y.kind).setCell ⟨bd+1,2,none⟩ y.v.a).setCell ⟨bd+1,3,none⟩ y.v.b).setCell ⟨bd+1,4,none⟩ y.v.c).setCell ⟨bd+1,5,none⟩ (.slice y.A y.v.pre.length y.c)).setCell ⟨bd+1,6,none⟩ (.slice y.B y.v.build.length y.d)).setCell ⟨bd+1,7,none⟩ (.slice y.L y.n y.e))):=but_fill W4 (bd+1) [.string s,.int .i64 y.kind,.int .u64 y.v.a,.int .u64 y.v.b,.int .u64 y.v.c,.slice y.A y.v.pre.length y.c,.slice y.B y.v.build.length y.d,.slice y.L y.n y.e] 0
    clear a0 a1 a2 a3 a4 a5 a6 a7 r0 r1 r2 r3 r4 r5 r6 r7 hal haf hrl hrf
    simp only [Exit.jump]
    generalize ((((((((W4.setCell ⟨bd+1,0,none⟩ (.string s)).setCell ⟨bd+1,1,none⟩ y.kind).setCell ⟨bd+1,2,none⟩ y.v.a).setCell ⟨bd+1,3,none⟩ y.v.b).setCell ⟨bd+1,4,none⟩ y.v.c).setCell ⟨bd+1,5,none⟩ (.slice y.A y.v.pre.length y.c)).setCell ⟨bd+1,6,none⟩ (.slice y.B y.v.build.length y.d)).setCell ⟨bd+1,7,none⟩ (.slice y.L y.n y.e))=W6 at HA6 HB6 ⊢
    have z0:=HA6.out.at_ 0 _ rfl
    have z1:=HA6.out.at_ 1 _ rfl
    have z2:=HA6.out.at_ 2 _ rfl
    have z3:=HA6.out.at_ 3 _ rfl
    have z4:=HA6.out.at_ 4 _ rfl
    have z5:=HA6.out.at_ 5 _ rfl
    have z6:=HA6.out.at_ 6 _ rfl
    have z7:=HA6.out.at_ 7 _ rfl
    have n1:Not W B bd:=HN.out.1.below HC.out.bel (by have:=HZ1.out; omega)
    have n2:Not W4 B (bd+1):=by
     have:=HN.out.2.below HC.out.bel (by have:=HZ1.out; omega)
     exact ⟨this.1,fun cur q=>this.2 cur ((HB4.out.block (bd+1) (by have:=HR2.out.lt; omega) (by omega)).symm.trans q)⟩
    have g1:G bd=none:=by
     cases hq:G bd with
     | none=>rfl
     | some q=>have:=HC.out.hi bd q hq; have:=HZ1.out; omega
    have g2:G (bd+1)=none:=by
     cases hq:G (bd+1) with
     | none=>rfl
     | some q=>have:=HC.out.hi (bd+1) q hq; have:=HZ1.out; omega
    have hty:=(HC.out.typed.but HB4.out n1 g1).but HB6.out n2 g2
    have hok:=(HY.out.ok.but HB4.out n1).but HB6.out n2
    have hbw:Below w.heap.size w W6:=((HB1.out.trans (HC.out.bel.mono (by have:=HZ1.out; omega))).trans (HB4.out.below (B:=w.heap.size) (fun k e=>by omega) (by have:=HZ1.out; have:=HC.out.bel.size; omega))).trans (HB6.out.below (B:=w.heap.size) (fun k e=>by omega) (by have:=HR4.out.lt; omega))
    refine bodyPost_ret (v:=.agg #[.string s,y.kind,y.v.a,y.v.b,y.v.c,.slice y.A y.v.pre.length y.c,.slice y.B y.v.build.length y.d,.slice y.L y.n y.e]) (by simp [results,Tryz.results101,go_sem,z0,z1,z2,z3,z4,z5,z6,z7]) rfl ⟨y,rfl,?_,hbw⟩
    exact hty.liesIn (Aside w B) (fun b hb=>Aside.txt hbw hb) (fun g rs hg=>Aside.new (by have:=HC.out.hi g rs hg; have:=HZ1.out; omega)) (wt r) r y (Nat.le_refl _) hok
  ·obtain ⟨R,t,rfl⟩:∃ R y,T=R ++ [y]:=⟨T.dropLast,T.getLast h1,(List.dropLast_concat_getLast h1).symm⟩
   clear h1
   obtain ⟨tb,cp,rfl,htb,hcp,hce⟩:=HC.out.last
   obtain ⟨tA,tc,rs⟩:=t
   replace hce:W.cell? ⟨tb,R.length,none⟩=some (.slice tA rs.length tc):=hce
   have HOK:=Lib.hid (HC.out.ok ⟨tA,tc,rs⟩ (by simp))
   have HCp:=Lib.hid HC.out.pop
   have hsum:sumW R+(1+2 * wtL rs+0)=m:=by rw [← hsum,sumW_append]; rfl
   have hRs:=sumW_len R
   have hRl:R.length<1000:=by omega
   have hrl:=Range.wtL_len rs
   have hs1:IntKind.i64.wrap (((R.length+1:Nat):Int) - 1)=(R.length:Int):=by rw [IntKind.wrap_i64] <;> omega
   have hs2:(R.length:Int)<((R.length+1:Nat):Int):=by omega
   have hs3:(0:Int)≤(R.length:Int):=by omega
   clear HC
   go_wp2
   clear hs1 hs2 hs3 hce
   go_loopw [4,33] (fun y z W=>∃ (k:Nat) (G':Ghost) (K:List Td),k≤rs.length∧z=.int .i64 k∧Hid (CopyAt W1 W B G' y (R ++ K))∧Hid (Kids rs k K)∧Hid (∀ g q,G g=some q→G' g=some q)) (fun _ z _=>rs.length - (intOf z).toNat)
   case atStart=>exact ⟨0,G,[],Nat.zero_le _,rfl,by rw [List.append_nil]; exact HCp.out,⟨rfl,Nat.zero_le _⟩,fun _ _ q=>q⟩
   case round =>
    rename World=>wk
    obtain ⟨k,G',K,hk,rfl,HI,HK,HM⟩:=hrel
    by_cases hlt:k<rs.length
    ·rcases HOK.out with h0 | ⟨g,hA,hG0⟩
     ·have h0:rs=[]:=h0
      rw [h0] at hlt
      exact absurd hlt (Nat.not_lt_zero _)
     have hA:tA=some ⟨g,0,none⟩:=hA
     subst hA
     have hGg:G' g=some rs:=HM.out g rs hG0
     obtain ⟨y,hy⟩:=HI.out.typed.cur hGg hlt
     have HY:=Lib.hid hy
     have hk1:=hy.ok
     have hsm:y.v.pre.length≤12∧y.v.build.length≤12∧y.n≤12∧(rs.getD k noRng).subs.length=y.n:=by
      have h1:=HI.out.small g rs hGg (rs.getD k noRng) (by rw [List.getD_eq_getElem?_getD,List.getElem?_eq_getElem hlt]; exact List.getElem_mem _)
      rw [Nrm.tot_eq,hk1.ver] at h1
      have h2:=len_tot (rs.getD k noRng).subs
      have h3:=hk1.subs
      omega
     have HSM:=Lib.hid hsm
     have HP1:=Lib.hid hk1.pre
     have HP2:=Lib.hid hk1.build
     obtain ⟨_,hgl,hgf,hcl⟩:=hy.at_
     obtain ⟨c0,c1,c2,c3,c4,c5,c6⟩:=hcl.cells
     clear hy hk1 hcl hsm
     go_wp2_with fail
     refine (copiedVersion_any y.v y.A y.c y.B y.d _ HP1.out HP2.out (by have:=HSM.out.1; omega) (by have:=HSM.out.2.1; omega)).mono ?_
     rintro e W5 ⟨A5,c5',B5,d5,rfl,oA,oB,hb⟩
     have HC5:=Lib.hid (HI.out.below hb)
     have HY5:=Lib.hid (HY.out.below hb)
     have OA:=Lib.hid oA
     have OB:=Lib.hid oB
     clear oA oB hb c0 c1 c2 c3 c4 c5 c6 hgl hgf HI HY HP1 HP2
     obtain ⟨_,hgl,hgf,hcl⟩:=HY5.out.at_
     obtain ⟨c0,c1,c2,c3,c4,c5,c6⟩:=hcl.cells
     go_upto_region 12 with (fail)
     obtain ⟨hc6,hy6⟩:=ver_step HC5.out HY5.out OA.out OB.out
     clear c0 c1 c2 c3 c4 c5 c6 hgl hgf hcl HC5 HY5 OA OB
     unfold set5V at hc6 hy6
     generalize (((((W5.setCell ⟨g,k * 7+1,none⟩ y.v.a).setCell ⟨g,k * 7+2,none⟩ y.v.b).setCell ⟨g,k * 7+3,none⟩ y.v.c).setCell ⟨g,k * 7+4,none⟩ (.slice A5 y.v.pre.length c5')).setCell ⟨g,k * 7+5,none⟩ (.slice B5 y.v.build.length d5))=W6 at hc6 hy6 ⊢
     have HC6:=Lib.hid hc6
     have HY6:=Lib.hid hy6
     obtain ⟨xs,hrow,hkids⟩:=hc6.typed.kids hy6.ok
     have HKI:=Lib.hid hkids
     have HRW:=Lib.hid hrow
     obtain ⟨_,hgl,hgf,hcl⟩:=hy6.at_
     obtain ⟨c0,c1,c2,c3,c4,c5,c6⟩:=hcl.cells
     clear hc6 hy6 hkids hrow hcl
     go_wp2_with fail
     refine (cloneRange_any y.L y.n y.e xs _ _ HRW.out (by have:=HSM.out.2.2.1; omega) (by have:=HSM.out.2.2.1; unfold maxLen; omega)).mono ?_
     rintro e W7 ⟨v7,rfl,ho,hb⟩
     obtain ⟨A7,e7,rfl,_⟩:=own_slice ho
     have HC7:=Lib.hid (HC6.out.below hb)
     have HY7:=Lib.hid (HY6.out.below hb)
     have HKJ:Hid (∀ i,i<y.n→Ok1 W7 B G' ((rs.getD k noRng).subs.getD i noRng) (xs.getD i default)):=fun i hi=>(HKI.out i hi).below hb
     have HO:=Lib.hid ho
     have HFR:Hid (∀ k q,G' k=some q→k<W6.heap.size):=fun k q hq=>HC6.out.typed.lt hq
     have HZ6:=Lib.hid HC6.out.bel.size
     clear ho hb c0 c1 c2 c3 c4 c5 c6 hgl hgf HC6 HY6 HKI
     obtain ⟨_,hgl,hgf,hcl⟩:=HY7.out.at_
     obtain ⟨c0,c1,c2,c3,c4,c5,c6⟩:=hcl.cells
     go_upto_region 13 with (fail)
     obtain ⟨G8,hc8,hy8,hm8,ht8⟩:=sub_step HC7.out HY7.out HO.out HRW.out.1 HZ6.out HFR.out HKJ.out
     clear c0 c1 c2 c3 c4 c5 c6 hgl hgf hcl HC7 HY7 HO HFR HKJ HRW
     simp only at hc8 hy8
     generalize W7.setCell ⟨g,k * 7+6,none⟩ (.slice A7 y.n e7)=W8 at hc8 hy8 ⊢
     have HM8:Hid (∀ g q,G g=some q→G8 g=some q):=fun g q hq=>hm8 _ _ (HM.out g q hq)
     have HTD:=Lib.hid ht8
     have hlen:(R ++ K).length≤1000:=by rw [List.length_append,HK.out.1]; omega
     obtain ⟨v',w',hrun,hc9⟩:=push hc8 ht8 hlen 236
     have hrun:(Builtin.append_ #[236,236] 236 #[_,.slice (some ⟨W8.heap.size,0,none⟩) 1 1]).run Tryz.prog (W8.alloc (.cells #[.slice A7 (rs.getD k noRng).subs.length e7] 63))=.ok v' w':=hrun
     rw [HSM.out.2.2.2] at hrun
     have HC9:=Lib.hid hc9
     obtain ⟨_,hgl,hgf,hcl⟩:=hy8.at_
     obtain ⟨c0,c1,c2,c3,c4,c5,c6⟩:=hcl.cells
     clear hc8 hy8 hm8 ht8 hc9 hcl
     go_wp2_with (first
      | (at_builtin; refine wpList_ran rfl rfl rfl rfl hrun ?_)
      | go_in)
     clear hrun c0 c1 c2 c3 c4 c5 c6 hgl hgf
     go_wp2
     exact ⟨⟨v',.int .i64 k,.int .i64 ((k:Int)+1),⟨k+1,by omega,by go_num,G8,K ++ [⟨A7,e7,(rs.getD k noRng).subs⟩],by rw [← List.append_assoc]; exact HC9.out,HK.out.snoc hlt rfl,HM8.out⟩,rfl,rfl,rfl⟩,by simp [intOf]; omega⟩
    ·obtain rfl:k=rs.length:=by omega
     have hkk:=HK.out.2
     rw [List.take_length] at hkk
     go_wp2
     go_step3
     refine ⟨rfl,_,⟨G',_,R ++ K,HI.out,HM.out _ _ HG.out,rfl,?_,rfl,rfl,rfl,rfl,rfl,rfl,rfl⟩,?_⟩
     ·rw [sumW_append]; omega
     ·rw [sumW_append]; omega
 ·intro HP
  go_wp2
  go_step3
  rename_i hK
  refine hK _ _ (HP.out (sumW [⟨some ⟨bd+1+1,0,none⟩,1,[r]⟩]) _ _ ⟨_,_,[⟨some ⟨bd+1+1,0,none⟩,1,[r]⟩],by rw [← hW]; exact HC3.out,if_pos rfl,rfl,?_,rfl,rfl,rfl,rfl,rfl,rfl,rfl⟩)
  show 1+2 * (wt r+0)+0≤1000
  have:=HWT.out
  omega
end Go.Proofs.YtgakcdcfblgagaaGreatDoor.Copy
namespace Go.Proofs.YtgakcdcfblgagaaGreatDoor.Nrm
open Go.RowKit Num Ident Semver Prec Span
theorem ncut_any (k:Int) (v:Ver) (A:Option Addr) (c:Nat) (B:Option Addr) (d:Nat) (w:World) :
  Calls Tryz.prog 217 #[.int .i64 k,.agg #[v.a,v.b,v.c,.slice A v.pre.length c,.slice B v.build.length d]] w fun e w'=>e=.returned (.agg #[.int .i64 k,v.a,v.b,v.c,.slice A v.pre.length c,.slice none 0 0])∧Below w.heap.size w w':=by
 go_enter Tryz.func217,Tryz.ntmps217
 go_wp2
 refine bodyPost_ret (v:=.agg #[.int .i64 k,v.a,v.b,v.c,.slice A v.pre.length c,.slice none 0 0]) (by simp [results,Tryz.results217,go_sem]) rfl ?_
 exact ⟨rfl,((Below.refl _ _).alloc (Nat.le_refl _) _).alloc (by simp) _⟩
theorem nend_no (v:Ver) (A:Option Addr) (c:Nat) (B:Option Addr) (d:Nat) (w:World) :
  Calls Tryz.prog 219 #[.agg #[v.a,v.b,v.c,.slice A v.pre.length c,.slice B v.build.length d],.bool false] w fun e w'=>e=.returned (.agg #[.int .i64 3,.int .u64 0,.int .u64 0,.int .u64 0,.slice none 0 0,.slice none 0 0])∧Below w.heap.size w w':=by
 go_enter Tryz.func219,Tryz.ntmps219
 go_wp2
 refine bodyPost_ret (v:=.agg #[.int .i64 3,.int .u64 0,.int .u64 0,.int .u64 0,.slice none 0 0,.slice none 0 0]) (by simp [results,Tryz.results219,go_sem]) rfl ?_
 exact ⟨rfl,((Below.refl _ _).alloc (Nat.le_refl _) _).alloc (by simp) _⟩
theorem nend_yes (v:Ver) (A:Option Addr) (c:Nat) (B:Option Addr) (d:Nat) (w:World) :
  Calls Tryz.prog 219 #[.agg #[v.a,v.b,v.c,.slice A v.pre.length c,.slice B v.build.length d],.bool true] w fun e w'=>e=.returned (.agg #[.int .i64 1,v.a,v.b,v.c,.slice A v.pre.length c,.slice none 0 0])∧Below w.heap.size w w':=by
 have HB0:Hid (Below w.heap.size w ((w.alloc (v,A,c,B,d)).alloc true)):=((Below.refl _ _).alloc (Nat.le_refl _) _).alloc (by simp) _
 have J0:Hid (At6B ((w.alloc (v,A,c,B,d)).alloc true) (w.heap.size+1) (.int .i64 0) (.int .u64 0) (.int .u64 0) (.int .u64 0) (.slice none 0 0) (.slice none 0 0)):=by
  have:=At6B.new (w.alloc (v,A,c,B,d)) 193 (.int .i64 0) (.int .u64 0) (.int .u64 0) (.int .u64 0) (.slice none 0 0) (.slice none 0 0)
  rw [size_alloc] at this; exact this
 go_enter Tryz.func219,Tryz.ntmps219
 go_wp2_with fail
 generalize ((w.alloc (v,A,c,B,d)).alloc true)=W at HB0 J0 ⊢
 refine (ncut_any 1 v A c B d W).mono ?_
 rintro e w1 ⟨rfl,hb⟩
 have B1:=Lib.hid (HB0.out.trans (hb.mono HB0.out.size))
 have J1:=Lib.hid (J0.out.kept hb J0.out.1)
 clear hb J0 HB0
 have K3:=Lib.hid (J1.out.set6 (.int .i64 1) v.a v.b v.c (.slice A v.pre.length c) (.slice none 0 0))
 have B3:=Lib.hid (below_set6 B1.out (b:=w.heap.size+1) (by omega) (.int .i64 1) v.a v.b v.c (.slice A v.pre.length c) (.slice none 0 0))
 obtain ⟨z1,z2,y0,y1,y2,y3,y4,y5⟩:=J1.out
 go_wp2
 change bodyPost _ _ _ _ _ (Span.set6 w1 (w.heap.size+1) (.int .i64 1) v.a v.b v.c (.slice A v.pre.length c) (.slice none 0 0))
 generalize Span.set6 w1 (w.heap.size+1) (.int .i64 1) v.a v.b v.c (.slice A v.pre.length c) (.slice none 0 0)=W5 at K3 B3 ⊢
 clear z1 z2 y0 y1 y2 y3 y4 y5
 obtain ⟨z1,z2,y0,y1,y2,y3,y4,y5⟩:=K3.out
 exact bodyPost_ret (v:=.agg #[.int .i64 1,v.a,v.b,v.c,.slice A v.pre.length c,.slice none 0 0]) (by simp [results,Tryz.results219,go_sem,y0,y1,y2,y3,y4,y5]) rfl ⟨rfl,B3.out⟩
theorem between_any (x y:RCut) (w:World) (hx:Span.Lies w x) (hy:Span.Lies w y) :
  Calls Tryz.prog 218 #[.agg #[x.kind,x.v.a,x.v.b,x.v.c,.slice x.A x.v.pre.length x.c,.slice x.B x.v.build.length x.d],.agg #[y.kind,y.v.a,y.v.b,y.v.c,.slice y.A y.v.pre.length y.c,.slice y.B y.v.build.length y.d]] w (SetIn w 1 (NormalOf [⟨x.cut,y.cut⟩])):=by
 have HB0:Hid (Below w.heap.size w ((w.alloc x).alloc y)):=((Below.refl _ _).alloc (Nat.le_refl _) _).alloc (by simp) _
 have HS0:Hid (LiesS ((w.alloc x).alloc y) ⟨x,y⟩):=⟨hx.kept HB0.out,hy.kept HB0.out⟩
 clear hx hy
 go_enter Tryz.func218,Tryz.ntmps218
 go_upto_region 1 with (fail)
 have X0:=At6B.new w 193 x.kind x.v.a x.v.b x.v.c (.slice x.A x.v.pre.length x.c) (.slice x.B x.v.build.length x.d)
 have X1:Hid (At6B ((w.alloc x).alloc y) w.heap.size x.kind x.v.a x.v.b x.v.c (.slice x.A x.v.pre.length x.c) (.slice x.B x.v.build.length x.d)):=X0.kept ((Below.refl _ _).alloc (Nat.le_refl _) _) X0.1
 have Y1:Hid (At6B ((w.alloc x).alloc y) (w.heap.size+1) y.kind y.v.a y.v.b y.v.c (.slice y.A y.v.pre.length y.c) (.slice y.B y.v.build.length y.d)):=by
  have:=At6B.new (w.alloc x) 193 y.kind y.v.a y.v.b y.v.c (.slice y.A y.v.pre.length y.c) (.slice y.B y.v.build.length y.d)
  rw [size_alloc] at this; exact this
 clear X0
 generalize ((w.alloc x).alloc y)=W at HB0 HS0 X1 Y1 ⊢
 obtain ⟨a1,a2,x0,x1,x2,x3,x4,x5⟩:=X1.out
 obtain ⟨b1,b2,y0,y1,y2,y3,y4,y5⟩:=Y1.out
 have R1:=Lib.hid (SpRow.one W ⟨x,y⟩ HS0.out)
 have B1:Hid (Below w.heap.size w (W.alloc (.cells (RSp.mk x y).vals.toArray 196))):=HB0.out.alloc HB0.out.size _
 go_wp2_with fail
 refine (normal_in (some ⟨W.heap.size,0,none⟩) 1 1 [⟨x,y⟩] _ R1.out (by omega)).mono ?_
 intro e w3 h3
 have HS:=Lib.hid (h3.mono B1.out)
 obtain ⟨A3,n3,c3,out,rfl,q1,q2,q3,q4,q5,q6,q7⟩:=HS.out
 clear h3
 go_wp2
 go_ret
 exact HS.out
end Go.Proofs.YtgakcdcfblgagaaGreatDoor.Nrm
namespace Go.Proofs.YtgakcdcfblgagaaGreatDoor.Copy
open Go.RowKit Num Ident Semver Fr
open Range (Rng noRng RV Lies RgRow CellsAt KeepS LtB InS FitV)
open KR (KRow AtV)

theorem own_fill {g base k n c:Nat} {E:TypeId}:∀ (M:List Value) {W:World} {xs:List Value} (i:Nat),W.ownsRow base E k (.slice (some ⟨g,0,none⟩) n c) n xs→i+M.length≤xs.length→(setAll W g i M).ownsRow base E k (.slice (some ⟨g,0,none⟩) n c) n (xs.take i ++ M ++ xs.drop (i+M.length))
 | [],W,xs,i,h,hl=>by
  rw [List.append_nil,List.length_nil,Nat.add_zero,List.take_append_drop]; exact h
 | u :: M,W,xs,i,h,hl=>by
  rw [List.length_cons] at hl
  have h1:=own_fill M (i+1) (h.stored i u).1 (by rw [List.length_set]; omega)
  rw [take_set_go xs i u (by omega),List.drop_set_of_lt (by omega)] at h1
  rw [List.length_cons,show i+(M.length+1)=i+1+M.length by omega]
  show (setAll (W.setCell ⟨g,i,none⟩ u) g (i+1) M).ownsRow _ _ _ _ _ _
  simpa using h1
theorem flat_fill {α:Type} [Inhabited α] (f:α→List Value) (k:Nat) (hk:∀ x,(f x).length=k):∀ (l:List α) (j:Nat) (y:α),j<l.length→(l.flatMap f).take (j * k) ++ f y ++ (l.flatMap f).drop (j * k+k)=(l.set j y).flatMap f
 | [],j,y,hj=>by simp at hj
 | x :: l,0,y,_=>by
  rw [List.flatMap_cons,List.set_cons_zero,List.flatMap_cons,Nat.zero_mul,List.take_zero,Nat.zero_add,List.nil_append]
  rw [List.drop_append_of_le_length (by rw [hk]; exact Nat.le_refl _),List.drop_eq_nil_of_le (by rw [hk]; exact Nat.le_refl _),List.nil_append]
 | x :: l,j+1,y,hj=>by
  rw [List.flatMap_cons,List.set_cons_succ,List.flatMap_cons,← flat_fill f k hk l j y (by simpa using hj)]
  rw [List.take_append,List.drop_append,hk,show (j+1) * k - k=j * k by rw [Nat.succ_mul]; omega,show (j+1) * k+k - k=j * k+k by rw [Nat.succ_mul]; omega]
  rw [List.take_of_length_le (by rw [hk,Nat.succ_mul]; omega),List.drop_eq_nil_of_le (by rw [hk,Nat.succ_mul]; omega),List.nil_append,List.append_assoc,List.append_assoc,List.append_assoc]
structure Fine {α:Type} (Ok:World→(Nat→Prop)→α→Prop):Prop where
 keep:∀ {w w':World} {S:Nat→Prop} {x:α},Ok w S x→KeepS S w w'→Ok w' S x
 mono:∀ {w:World} {S S':Nat→Prop} {x:α},Ok w S x→(∀ b,S b→b<w.heap.size→S' b)→Ok w S' x
def Off (w:World) (B:Nat) (v:Value) (b:Nat):Prop:=Aside w B b∧v.ownBlock≠some b
structure Copied {α β:Type} [Inhabited α] (vals:α→List Value) (K:Nat) (E:TypeId) (pr:α→β) (Ok:World→(Nat→Prop)→α→Prop) (w:World) (B:Nat) (l:List α) (k:Nat) (v:Value) (cs:List α) (W:World):Prop where
 len:cs.length=l.length
 own:W.ownsRow w.heap.size E K v l.length (cs.flatMap vals)
 done:∀ j,j<k→pr (cs.getD j default)=pr (l.getD j default)∧Ok W (Off w B v) (cs.getD j default)
 rest:∀ j,k≤j→cs.getD j default=l.getD j default
 bel:Below w.heap.size w W
section
variable {α β:Type} [Inhabited α] {vals:α→List Value} {K:Nat} {E:TypeId} {pr:α→β} {Ok:World→(Nat→Prop)→α→Prop} {w W W':World} {B k:Nat} {l cs:List α} {v:Value}
theorem Copied.below (hf:Fine Ok) (h:Copied vals K E pr Ok w B l k v cs W) (hb:Below W.heap.size W W'):Copied vals K E pr Ok w B l k v cs W' :=
 ⟨h.len,own_below h.own hb,fun j hj=>⟨(h.done j hj).1,hf.keep (h.done j hj).2 (KeepS.of_below hb)⟩,h.rest,h.bel.trans (hb.mono h.bel.size)⟩
theorem Copied.cells (hk:∀ x,(vals x).length=K) (h:Copied vals K E pr Ok w B l k v cs W) (hkl:k<l.length):∃ g c,v=.slice (some ⟨g,0,none⟩) l.length c∧l.length≤c∧w.heap.size≤g∧g<W.heap.size∧(∀ o,W.frozen? ⟨g,o,none⟩=false)∧∀ i u,(vals (cs.getD k default))[i]?=some u→W.cell? ⟨g,k * K+i,none⟩=some u:=by
 obtain ⟨A,c,e,hc,_,h4⟩:=own_cells hk h.own h.len
 obtain ⟨g,e1,hg,hlt,hfz,hcl⟩:=h4 (by omega)
 refine ⟨g,c,by rw [e,e1],hc,hg,hlt,hfz,fun i u hu=>?_⟩
 have:=hcl k hkl i u hu
 rwa [Nat.zero_add] at this
theorem Copied.next (hE:E≠9) (hk:∀ x,(vals x).length=K) (hf:Fine Ok) {g c:Nat} (h:Copied vals K E pr Ok w B l k (.slice (some ⟨g,0,none⟩) l.length c) cs W) (hB:B≤w.heap.size) (hkl:k<l.length) (hb:Below W.heap.size W W') {y:α} (hp:pr y=pr (l.getD k default)) (hy:Ok W' (Aside W B) y) :
  Copied vals K E pr Ok w B l (k+1) (.slice (some ⟨g,0,none⟩) l.length c) (cs.set k y) (setAll W' g (k * K) (vals y)):=by
 obtain ⟨g',c',e,hc,hg,hlt,_,_⟩:=h.cells hk hkl
 injection e with e1 _ _
 injection e1 with e1
 injection e1 with e1
 subst e1
 have h':=h.below hf hb
 have hbt:=but_fill W' g (vals y) (k * K)
 have hS:∀ b,Off w B (.slice (some ⟨g,0,none⟩) l.length c) b→¬ b=g:=fun b hb e=>hb.2 (by rw [e]; rfl)
 have hks:=keep_but (S:=Off w B (.slice (some ⟨g,0,none⟩) l.length c)) hbt hS
 have hkc:k<cs.length:=by rw [h.len]; exact hkl
 have hnot:Not W B g:=⟨Nat.le_trans hB hg,(own_not h.own hE).2⟩
 have hy':Ok W' (Off w B (.slice (some ⟨g,0,none⟩) l.length c)) y:=hf.mono hy fun b hb _=>⟨hb.up h.bel,fun q=>hb g hlt hnot (by injection q with q; exact q.symm)⟩
 refine ⟨by rw [List.length_set]; exact h.len,?_,fun j hj=>?_,fun j hj=>?_,h'.bel.trans (hbt.below (B:=w.heap.size) (fun q e=>by rw [e]; exact hg) h'.bel.size)⟩
 ·rw [← flat_fill vals K hk cs k y hkc]
  have:=own_fill (vals y) (k * K) h'.own (by
   rw [flat_len vals K hk,hk]
   calc k * K+K=(k+1) * K:=by rw [Nat.succ_mul]
    _≤cs.length * K:=Nat.mul_le_mul_right K hkc)
  rw [hk] at this
  exact this
 ·rcases Nat.lt_or_ge j k with hj1 | hj1
  ·rw [set_other (by omega)]
   exact ⟨(h'.done j hj1).1,hf.keep (h'.done j hj1).2 hks⟩
  ·obtain rfl:j=k:=by omega
   rw [set_self hkc]
   exact ⟨hp,hf.keep hy' hks⟩
 ·rw [set_other (by omega)]
  exact h.rest j (by omega)
theorem Copied.map (h:Copied vals K E pr Ok w B l l.length v cs W):cs.map pr=l.map pr:=by
 apply List.ext_getElem (by simp [h.len])
 intro i h1 h2
 have hi:i<l.length:=by simpa using h2
 have hc:i<cs.length:=by simpa using h1
 have:=(h.done i hi).1
 rw [List.getD_eq_getElem?_getD,List.getD_eq_getElem?_getD,List.getElem?_eq_getElem hc,List.getElem?_eq_getElem hi] at this
 simpa using this
theorem Copied.all (h:Copied vals K E pr Ok w B l l.length v cs W):∀ x ∈ cs,Ok W (Off w B v) x:=fun x hx=>by
 obtain ⟨i,hi,rfl⟩:=List.getElem_of_mem hx
 have:=(h.done i (by rw [← h.len]; exact hi)).2
 rw [List.getD_eq_getElem?_getD,List.getElem?_eq_getElem hi] at this
 simpa using this
end
def CopyPost {α β:Type} [Inhabited α] (vals:α→List Value) (K:Nat) (E:TypeId) (pr:α→β) (Ok:World→(Nat→Prop)→α→Prop) (w:World) (B:Nat) (l:List α) (e:Ending) (w':World):Prop :=
 ∃ (v:Value) (cs:List α),e=.returned v∧Copied vals K E pr Ok w B l l.length v cs w'
def OnePost {α β:Type} (agg:α→Value) (pr:α→β) (Ok:World→(Nat→Prop)→α→Prop) (W:World) (B:Nat) (x:α) (e:Ending) (w':World):Prop :=
 ∃ y:α,e=.returned (agg y)∧pr y=pr x∧Ok w' (Aside W B) y∧Below W.heap.size W w'
end Go.Proofs.YtgakcdcfblgagaaGreatDoor.Copy
