/-
  What the theorem of the last text needs of these: MoPlain, MoMore, MoRefDep, MoCame, MoRefPins, MoRefAll. Conditions: as each theorem states.
-/
import Derived.Test.YtneilnibghhgmaaGreatDoorCkA1
import Derived.Test.YtneilnibghhgmaaGreatDoorCkA2
import Derived.Test.YtneilnibghhgmaaGreatDoorCkA6
import Derived.Test.YtneilnibghhgmaaGreatDoorCkA7
import Derived.Test.YtneilnibghhgmaaGreatDoorCkA13
import Derived.Test.YtneilnibghhgmaaGreatDoorCkA17
import Derived.Test.YtneilnibghhgmaaGreatDoorCkA20
import Derived.Test.YtneilnibghhgmaaGreatDoorCkA21
import Derived.Deep.CutBlock
import Derived.Deep.DeepCutAuto
set_option maxRecDepth 100000
set_option maxHeartbeats 25600000
namespace Go.Proofs.YtneilnibghhgmaaGreatDoor.Model
open Go.RowKit Num Ident Semver
open Range (Rng noRng goodR sameV_eq)
open Nrm (inV hasR)
open Name (isName)
open Prec (fullV)

structure SortOf {α:Type} (le:α→α→Prop) (l l':List α):Prop where
 perm:l'.Perm l
 up:l'.Pairwise le
 same:l.Pairwise le→l'=l
def relLe (a b:PRel):Prop:=fullV a.v b.v≤0
def packLe (p q:PPack):Prop:=¬ q.name<p.name
def PlainOf (x y:List PPack):Prop :=
 ∃ z:List PPack,z.length=x.length∧(∀ i,i<x.length→(z.getD i default).name=(x.getD i default).name∧SortOf relLe (x.getD i default).rels (z.getD i default).rels)∧SortOf packLe z y
theorem ahead_iff {α:Type} [Inhabited α] (f:α→α→Bool) (l:List α):(∀ k,k<l.length→((l.take k).any fun x=>f x (l.getD k default))=false)↔l.Pairwise fun a b=>f a b=false:=by
 rw [List.pairwise_iff_getElem]
 constructor
 ·intro h i j hi hj hij
  have:=h j hj
  rw [List.any_eq_false] at this
  have g:=this l[i] (by rw [List.mem_take_iff_getElem]; exact ⟨i,by omega,rfl⟩)
  rw [List.getD_eq_getElem?_getD,List.getElem?_eq_getElem hj] at g
  exact Bool.eq_false_iff.2 g
 ·intro h k hk
  rw [List.any_eq_false]
  intro a ha
  obtain ⟨i,hi,rfl⟩:=List.mem_take_iff_getElem.1 ha
  rw [List.getD_eq_getElem?_getD,List.getElem?_eq_getElem hk]
  have:=h i k (by omega) hk (by omega)
  exact Bool.eq_false_iff.1 this
section
variable {x z:List PPack} (hl:z.length=x.length) (hz:∀ i,i<x.length→(z.getD i default).name=(x.getD i default).name∧SortOf relLe (x.getD i default).rels (z.getD i default).rels)
include hl hz
end
end Go.Proofs.YtneilnibghhgmaaGreatDoor.Model
namespace Go.Proofs.YtneilnibghhgmaaGreatDoor.Model
open Go.RowKit Num Ident Semver Fr
open Range (Rng noRng RV KeepS LtB LenOk goodR wt)
open KR (KRow AtV)
theorem keepS_but {T S:Nat→Prop} {w w':World} (h:But T w w') (hn:∀ g,S g→¬ T g):KeepS S w w' :=
 ⟨h.size,fun _ _ _ hg hc=>(h.cell (Range.block_lt hc) (hn _ hg)).trans hc⟩
theorem _root_.Go.Proofs.YtneilnibghhgmaaGreatDoor.KR.AtV.but {T:Nat→Prop} {W W':World} {b:Nat} {L:List Value} (h:AtV W b L) (hb:But T W W') (hn:¬ T b):AtV W' b L :=
 ⟨Nat.lt_of_lt_of_le h.lt hb.size,fun o=>(hb.frozen h.lt hn).trans (h.fr o),fun i u hu=>(hb.cell h.lt hn).trans (h.at_ i u hu)⟩
theorem _root_.Go.Proofs.YtneilnibghhgmaaGreatDoor.KR.AtV.set {W:World} {b:Nat} {L:List Value} (h:AtV W b L) (i:Nat) (v:Value) (hi:i<L.length):AtV (W.setCell ⟨b,i,none⟩ v) b (L.set i v):=by
 refine ⟨by simpa using h.lt,fun o=>by simp [go_sem,h.fr],fun j u hu=>?_⟩
 by_cases e:j=i
 ·subst e
  rw [List.getElem?_set_self hi] at hu
  injection hu with hu
  subst hu
  exact World.cell?_setCell_same _ _ _ (h.at_ j L[j] (List.getElem?_eq_getElem hi))
 ·rw [List.getElem?_set_ne (fun q=>e q.symm)] at hu
  rw [cell_beside _ _ _ _ _ (fun q=>e q.symm)]
  exact h.at_ j u hu
theorem _root_.Go.Proofs.YtneilnibghhgmaaGreatDoor.Fr.But.to_below {mb:Nat} {w w':World} (h:But (fun k=>k=mb) w w') {B:Nat} (hB:B≤w.heap.size) (hm:B≤mb):Below B w w':=h.below (fun k e=>by omega) hB
theorem _root_.Go.Proofs.YtneilnibghhgmaaGreatDoor.Fr.But.then_same {T:Nat→Prop} {a w w':World} (h:But T a w) (k:Below w.heap.size w w'):But T a w':=h.trans (But.of_same k T) fun _ g=>.inl g
theorem _root_.Go.Proofs.YtneilnibghhgmaaGreatDoor.Fr.But.then_ {T:Nat→Prop} {a w w':World} (h:But T a w) (k:But T w w'):But T a w':=h.trans k fun _ g=>.inl g
end Go.Proofs.YtneilnibghhgmaaGreatDoor.Model
namespace Go.Proofs.YtneilnibghhgmaaGreatDoor.Model
open Go.RowKit Num Ident Semver
open Range (Rng noRng RV KeepS LtB LenOk goodR wt)
open KR (KRow AtV)
open Name (isName)

theorem depE_name {d:PDep} (h:isName d.name=false):depE d=12:=by unfold depE; rw [if_pos h]
theorem depE_range {d:PDep} (h:isName d.name=true) (g:goodR d.r 0=false):depE d=3:=by unfold depE; rw [if_neg (by rw [h]; decide),if_pos g]
theorem depE_good {d:PDep} (h:isName d.name=true) (g:goodR d.r 0=true):depE d=0:=by unfold depE; rw [if_neg (by rw [h]; decide),if_neg (by rw [g]; decide)]
theorem refDep_any (d:MDep) (B:Nat) (w:World) (h:DepOk w (LtB B) d) (hB:B≤w.heap.size) (hn:d.name.length≤1000000) :
  Calls Tryz.prog 34 #[d.agg] w fun e w'=>e=.returned (.int .i64 (depE d.p))∧Below w.heap.size w w':=by
 have HO:Hid (DepOk w (LtB w.heap.size) d):=h.mono fun _ g _=>Nat.lt_of_lt_of_le g hB
 have HN:=Lib.hid hn
 clear h hB hn
 have HE1:=Lib.hid (fun h=>depE_name (d:=d.p) h)
 have HE2:=Lib.hid (fun h g=>depE_range (d:=d.p) h g)
 have HE3:=Lib.hid (fun h g=>depE_good (d:=d.p) h g)
 obtain ⟨W0,hW,hav,hb0⟩:∃ W,W=w.alloc (.cells #[.string (Ident.mk d.name),d.x.kind,d.x.v.a,d.x.v.b,d.x.v.c,.slice d.x.A d.x.v.pre.length d.x.c,.slice d.x.B d.x.v.build.length d.x.d,.slice d.x.L d.x.n d.x.e] 61)∧AtV W w.heap.size [.string (Ident.mk d.name),.int .i64 d.x.kind,.int .u64 d.x.v.a,.int .u64 d.x.v.b,.int .u64 d.x.v.c,.slice d.x.A d.x.v.pre.length d.x.c,.slice d.x.B d.x.v.build.length d.x.d,.slice d.x.L d.x.n d.x.e]∧Below w.heap.size w W:=⟨_,rfl,AtV.new w _ _,(Below.refl _ _).alloc (Nat.le_refl _) _⟩
 have HAV:=Lib.hid hav
 have HB0:=Lib.hid hb0
 clear hav hb0
 obtain ⟨bd,hbd⟩:∃ bd,w.heap.size=bd:=⟨_,rfl⟩
 have HBD:=Lib.hid hbd
 unfold MDep.agg
 go_enter Tryz.func34,Tryz.ntmps34
 go_upto_region 1 with (fail)
 rw [← hW]
 clear hW
 rw [hbd] at HAV
 clear hbd
 have c0:=HAV.out.at_ 0 _ rfl
 go_wp2_with fail
 refine (Name.ref_good_any (Ident.mk d.name) _ (by rw [mk_size]; exact HN.out)).mono ?_
 rw [mk_list]
 rintro e W1 ⟨rfl,rfl⟩
 cases hnm:isName d.name
 ·have HF:=Lib.hid (HE1.out hnm)
  clear hnm
  go_wp2
  go_ret
  exact ⟨by rw [HF.out]; rfl,HB0.out⟩
 ·have HNM:=Lib.hid hnm
  clear hnm
  have c1:=HAV.out.at_ 1 _ rfl
  have c2:=HAV.out.at_ 2 _ rfl
  have c3:=HAV.out.at_ 3 _ rfl
  have c4:=HAV.out.at_ 4 _ rfl
  have c5:=HAV.out.at_ 5 _ rfl
  have c6:=HAV.out.at_ 6 _ rfl
  have c7:=HAV.out.at_ 7 _ rfl
  go_wp2_with fail
  refine (Range.refGoodR_full (wt d.r) d.r d.x w.heap.size 0 _ (Nat.le_refl _) HO.out.len (HO.out.lies.keep (KeepS.of_below HB0.out)) HB0.out.size (by omega)).mono ?_
  rintro e W1 ⟨rfl,hb⟩
  have HB1:=Lib.hid (HB0.out.trans (hb.mono HB0.out.size))
  clear hb c0 c1 c2 c3 c4 c5 c6 c7
  cases hg:goodR d.r 0
  ·have HF:=Lib.hid (HE2.out HNM.out hg)
   clear hg
   go_wp2
   go_ret
   exact ⟨by rw [HF.out]; rfl,HB1.out⟩
  ·have HF:=Lib.hid (HE3.out HNM.out hg)
   clear hg
   go_wp2
   go_ret
   exact ⟨by rw [HF.out]; rfl,HB1.out⟩
theorem toO_none {e:Int}:toO e=none↔e=0:=by unfold toO; split <;> simp_all
theorem toO_some {e:Int} (h:e≠0):toO e=some e:=by unfold toO; rw [if_neg h]
theorem map_at {α β:Type} [Inhabited α] [Inhabited β] (f:α→β) (l:List α) {k:Nat} (h:k<l.length):(l.map f).getD k default=f (l.getD k default):=by
 rw [List.getD_eq_getElem?_getD,List.getD_eq_getElem?_getD,List.getElem?_map,List.getElem?_eq_getElem h]; rfl
theorem getD_mem {α:Type} [Inhabited α] {l:List α} {k:Nat} (h:k<l.length):l.getD k default ∈ l:=by
 rw [List.getD_eq_getElem?_getD,List.getElem?_eq_getElem h]; exact List.getElem_mem _
theorem DRow.cells {w:World} {S:Nat→Prop} {A:Option Addr} {n:Nat} {l:List MDep} (h:DRow w S A n l) {k:Nat} (hk:k<n):∃ b o,A=some ⟨b,o,none⟩∧S b∧b<w.heap.size ∧
  w.cell? ⟨b,o+k * 8,none⟩=some (.string (Ident.mk (l.getD k default).name))∧w.cell? ⟨b,o+k * 8+1,none⟩=some (.int .i64 (l.getD k default).x.kind)∧w.cell? ⟨b,o+k * 8+2,none⟩=some (.int .u64 ((l.getD k default).x.v.a))∧w.cell? ⟨b,o+k * 8+3,none⟩=some (.int .u64 ((l.getD k default).x.v.b))∧w.cell? ⟨b,o+k * 8+4,none⟩=some (.int .u64 ((l.getD k default).x.v.c))∧w.cell? ⟨b,o+k * 8+5,none⟩=some (.slice (l.getD k default).x.A (l.getD k default).x.v.pre.length (l.getD k default).x.c)∧w.cell? ⟨b,o+k * 8+6,none⟩=some (.slice (l.getD k default).x.B (l.getD k default).x.v.build.length (l.getD k default).x.d)∧w.cell? ⟨b,o+k * 8+7,none⟩=some (.slice (l.getD k default).x.L (l.getD k default).x.n (l.getD k default).x.e):=by
 obtain ⟨b,o,e,hb,hlt,hc⟩:=h.row.at_ hk
 exact ⟨b,o,e,hb,hlt,hc 0 _ rfl,hc 1 _ rfl,hc 2 _ rfl,hc 3 _ rfl,hc 4 _ rfl,hc 5 _ rfl,hc 6 _ rfl,hc 7 _ rfl⟩
def out2V (o:Option (Nat × Int)):Value:=.tuple #[.int .i64 (out2 o).1,.int .i64 (out2 o).2]
theorem refRoots_any (A:Option Addr) (n c:Nat) (l:List MDep) (B:Nat) (w:World) (h:DRow w (LtB B) A n l) (hB:B≤w.heap.size) (hn:n≤maxLen) (hs:∀ d ∈ l,d.name.length≤1000000) :
  Calls Tryz.prog 12 #[.slice A n c] w fun e w'=>e=.returned (out2V (rootsF (l.map MDep.p)))∧Below w.heap.size w w':=by
 have HO:=Lib.hid h
 have HL:=Lib.hid h.row.1
 have HS:=Lib.hid hs
 unfold maxLen at hn
 clear h hs
 go_enter Tryz.func12,Tryz.ntmps12
 go_wp2
 go_loopw [4] (fun i W=>∃ k:Nat,k≤n∧i=.int .i64 k∧Hid (∀ j,j<k→depE (l.getD j default).p=0)∧Hid (Below w.heap.size w W)) (fun i _=>n - (intOf i).toNat)
 case atStart=>exact ⟨0,Nat.zero_le _,rfl,(fun j hj=>by omega),Below.refl _ _⟩
 case round =>
  rename World=>wk
  obtain ⟨k,hk,rfl,HD,HW⟩:=hrel
  by_cases hlt:k<n
  ·have hrow:=HO.out.keep (KeepS.of_below (S:=LtB B) HW.out)
   have HDO:Hid (DepOk wk (LtB B) (l.getD k default)):=hrow.ok _ (getD_mem (by rw [HL.out]; exact hlt))
   have HNS:=Lib.hid (HS.out _ (getD_mem (l:=l) (k:=k) (by rw [HL.out]; exact hlt)))
   obtain ⟨b,o,rfl,_,hb,c0,c1,c2,c3,c4,c5,c6,c7⟩:=hrow.cells hlt
   have HST:Hid (depE (l.getD k default).p≠0→rootsF (l.map MDep.p)=some (k,depE (l.getD k default).p)):=fun hne=>by
    have q:=firstG_stop (fun _ d=>toO (depE d)) (l.map MDep.p) 0 k (depE (l.getD k default).p) (by rw [List.length_map,HL.out]; exact hlt) (fun j hj=>by rw [map_at _ _ (by rw [HL.out]; omega)]; exact toO_none.2 (HD.out j hj)) (by rw [map_at _ _ (by rw [HL.out]; exact hlt)]; exact toO_some hne)
    rwa [Nat.zero_add] at q
   clear hrow
   have HMO:Hid (depE (l.getD k default).p=0→∀ j,j<k+1→depE (l.getD j default).p=0):=fun h j hj=>by
    rcases Nat.lt_or_ge j k with h1 | h1
    ·exact HD.out j h1
    ·obtain rfl:j=k:=by omega
     exact h
   generalize l.getD k default=d at c0 c1 c2 c3 c4 c5 c6 c7 HDO HNS HST HMO
   go_wp2_with fail
   refine (refDep_any d B _ HDO.out (Nat.le_trans hB HW.out.size) HNS.out).mono ?_
   rintro e W1 ⟨rfl,hb1⟩
   have HW1:=Lib.hid (HW.out.trans (hb1.mono HW.out.size))
   clear hb1 c0 c1 c2 c3 c4 c5 c6 c7
   obtain ⟨e,he⟩:∃ e,depE d.p=e:=⟨_,rfl⟩
   rw [he] at HST HMO ⊢
   by_cases h0:e=0
   ·have HM:=Lib.hid (HMO.out h0)
    have hb0:(e != 0)=false:=by rw [h0]; rfl
    clear h0
    go_wp2
    exact ⟨⟨k+1,by omega,by go_num,HM.out,HW1.out⟩,by simp [intOf]; omega⟩
   ·have HF:=Lib.hid (HST.out h0)
    have hb0:(e != 0)=true:=by simpa using h0
    clear h0
    go_wp2
    go_ret2
    exact ⟨by rw [HF.out]; rfl,HW1.out⟩
  ·obtain rfl:k=n:=by omega
   have HF:Hid (rootsF (l.map MDep.p)=none):=firstG_none _ _ 0 fun j hj=>by
    rw [List.length_map] at hj
    rw [map_at _ _ hj]; exact toO_none.2 (HD.out j (by rw [← HL.out]; exact hj))
   go_wp2
   go_ret2
   exact ⟨by rw [HF.out]; rfl,HW.out⟩
end Go.Proofs.YtneilnibghhgmaaGreatDoor.Model
namespace Go.Proofs.YtneilnibghhgmaaGreatDoor.Came
open Go.ChangeShapes Go.WideShapes Go.RowKit Go.Deep
open Range (Rng noRng RV LenOk LtB InS)
open KR (KRow)
open Model (MDep MVer MRel MPack MPin DepOk VerOk RelOk PackOk PinOk DRow RRow PRow SPRow)

theorem name_read {H:Type} {enc:TypeId × Value→H} {W:World} {n:Nat} {z:Value} {y:DataW H × List MemPlace} (h:DataW.trod enc Tryz.prog W 0 (fun _=>true) true n 9 [z]=some y):∃ s:List UInt8,z=.string (Ident.mk s)∧s.length≤maxLen:=by
 obtain ⟨s,e,_,hs⟩:=DataW.trod_string Tryz.underlying9 h
 simp at e
 exact ⟨s.data.toList,by rw [e]; rfl,by rw [← Lib.size_eq]; exact hs⟩
theorem bool_read {H:Type} {enc:TypeId × Value→H} {W:World} {n:Nat} {z:Value} {y:DataW H × List MemPlace} (h:DataW.trod enc Tryz.prog W 0 (fun _=>true) true n 4 [z]=some y):∃ b:Bool,z=.bool b:=by
 obtain ⟨b,e,_⟩:=DataW.trod_bool Tryz.underlying4 h
 simp at e
 exact ⟨b,e⟩
theorem mver_at {H:Type} {enc:TypeId × Value→H} {W:World} {fuel:Nat} {l:List Value} {y:DataW H × List MemPlace} (hf:DataW.trod enc Tryz.prog W 0 (fun _=>true) true fuel 47 l=some y):∃ x:MVer,l=x.vals∧VerOk W (LtB W.heap.size) x:=by
 obtain ⟨v,A,c,B,d,e,h1,h2,h3,h4,h5,_⟩:=ver_full hf
 exact ⟨⟨v,A,c,B,d⟩,e,h1,h2,ins_of h1,ins_of h2,h4,h5,h3⟩
theorem dep_at {H:Type} {enc:TypeId × Value→H} {W:World} {fuel:Nat} {l:List Value} {y:DataW H × List MemPlace} (hf:DataW.trod enc Tryz.prog W 0 (fun _=>true) true fuel 61 l=some y) (hs0:Sized 61 y.1):∃ d:MDep,l=d.vals∧DepOk W (LtB W.heap.size) d:=by
 have hC:Tryz.prog.cellsOf 61=8:=by kernel_rfl
 have cs:Tryz.prog.cellsOf 9=1:=by kernel_rfl
 have cr:Tryz.prog.cellsOf 59=7:=by kernel_rfl
 obtain ⟨xs,n,_,hy0,hsz,hlen,hg⟩:=DataW.trod_struct Tryz.underlying61 hf
 have hl:xs.length=2:=hlen
 rw [hC] at hsz
 match l,hsz with
 | [z0,z1,z2,z3,z4,z5,z6,z7],_ =>
  match xs,hl with
  | [y0,y1],_ =>
   have f0:DataW.trod enc Tryz.prog W 0 (fun _=>true) true n 9 (([z0,z1,z2,z3,z4,z5,z6,z7].drop 0).take (Tryz.prog.cellsOf 9))=some y0:=hg 0 _ rfl
   rw [cs] at f0
   have g0:DataW.trod enc Tryz.prog W 0 (fun _=>true) true n 9 [z0]=some y0:=f0
   have f1:DataW.trod enc Tryz.prog W 0 (fun _=>true) true n 59 (([z0,z1,z2,z3,z4,z5,z6,z7].drop 1).take (Tryz.prog.cellsOf 59))=some y1:=hg 1 _ rfl
   rw [cr] at f1
   have g1:DataW.trod enc Tryz.prog W 0 (fun _=>true) true n 59 [z1,z2,z3,z4,z5,z6,z7]=some y1:=f1
   rw [hy0] at hs0
   clear f0 f1 hg
   obtain ⟨s,rfl,hs⟩:=name_read g0
   obtain ⟨r,x,e,h1,h2,h3⟩:=rng_at n n _ _ (Nat.le_refl _) g1
   exact ⟨⟨s,r,x⟩,by rw [e]; rfl,hs,h1,h2,h3 (hs0.part Tryz.underlying61 (i:=1) rfl rfl)⟩
theorem deps_at {H:Type} {enc:TypeId × Value→H} {W:World} {fuel:Nat} {cs:List Value} {y:DataW H × List MemPlace} (hf:DataW.trod enc Tryz.prog W 0 (fun _=>true) true fuel 25 cs=some y) (hs0:Sized 25 y.1) :
  ∃ (A:Option Addr) (c:Nat) (l:List MDep),cs=[.slice A l.length c]∧DRow W (LtB W.heap.size) A l.length l∧l.length≤c∧c≤maxLen∧(A=none→c=0):=by
 obtain ⟨A,n,c,l,e,h1,h2,h3,h4,h5⟩:=KR.KRow.came (P:=DepOk W (LtB W.heap.size)) Tryz.underlying25 (by kernel_rfl) Model.dep_len (by omega) (fun _ _ _ h q=>dep_at h q) hf hs0
 obtain rfl:=h1.1
 exact ⟨A,c,l,e,⟨h1,h2⟩,h3,h4,h5⟩
theorem rel_at {H:Type} {enc:TypeId × Value→H} {W:World} {fuel:Nat} {l:List Value} {y:DataW H × List MemPlace} (hf:DataW.trod enc Tryz.prog W 0 (fun _=>true) true fuel 49 l=some y) (hs0:Sized 49 y.1):∃ r:MRel,l=r.vals∧RelOk W (LtB W.heap.size) r:=by
 have hC:Tryz.prog.cellsOf 49=8:=by kernel_rfl
 have cv:Tryz.prog.cellsOf 47=5:=by kernel_rfl
 have cb:Tryz.prog.cellsOf 4=1:=by kernel_rfl
 have cd:Tryz.prog.cellsOf 25=1:=by kernel_rfl
 obtain ⟨xs,n,_,hy0,hsz,hlen,hg⟩:=DataW.trod_struct Tryz.underlying49 hf
 have hl:xs.length=4:=hlen
 rw [hC] at hsz
 match l,hsz with
 | [z0,z1,z2,z3,z4,z5,z6,z7],_ =>
  match xs,hl with
  | [y0,y1,y2,y3],_ =>
   have f0:DataW.trod enc Tryz.prog W 0 (fun _=>true) true n 47 (([z0,z1,z2,z3,z4,z5,z6,z7].drop 0).take (Tryz.prog.cellsOf 47))=some y0:=hg 0 _ rfl
   rw [cv] at f0
   have g0:DataW.trod enc Tryz.prog W 0 (fun _=>true) true n 47 [z0,z1,z2,z3,z4]=some y0:=f0
   have f1:DataW.trod enc Tryz.prog W 0 (fun _=>true) true n 4 (([z0,z1,z2,z3,z4,z5,z6,z7].drop 5).take (Tryz.prog.cellsOf 4))=some y1:=hg 1 _ rfl
   rw [cb] at f1
   have g1:DataW.trod enc Tryz.prog W 0 (fun _=>true) true n 4 [z5]=some y1:=f1
   have f2:DataW.trod enc Tryz.prog W 0 (fun _=>true) true n 25 (([z0,z1,z2,z3,z4,z5,z6,z7].drop 6).take (Tryz.prog.cellsOf 25))=some y2:=hg 2 _ rfl
   rw [cd] at f2
   have g2:DataW.trod enc Tryz.prog W 0 (fun _=>true) true n 25 [z6]=some y2:=f2
   have f3:DataW.trod enc Tryz.prog W 0 (fun _=>true) true n 25 (([z0,z1,z2,z3,z4,z5,z6,z7].drop 7).take (Tryz.prog.cellsOf 25))=some y3:=hg 3 _ rfl
   rw [cd] at f3
   have g3:DataW.trod enc Tryz.prog W 0 (fun _=>true) true n 25 [z7]=some y3:=f3
   rw [hy0] at hs0
   clear f0 f1 f2 f3 hg
   obtain ⟨v,e,hv⟩:=mver_at g0
   obtain ⟨b,rfl⟩:=bool_read g1
   obtain ⟨N,nc,ln,e1,p1,p2,p3,p4⟩:=deps_at g2 (hs0.part Tryz.underlying49 (i:=2) rfl rfl)
   obtain ⟨B,bc,lb,e2,q1,q2,q3,q4⟩:=deps_at g3 (hs0.part Tryz.underlying49 (i:=3) rfl rfl)
   simp at e1 e2
   subst e1
   subst e2
   exact ⟨⟨v,b,N,nc,ln,B,bc,lb⟩,by show [z0,z1,z2,z3,z4] ++ [.bool b,.slice N ln.length nc,.slice B lb.length bc]=_; rw [e]; rfl,hv,p1,q1,⟨p2,p3⟩,⟨q2,q3⟩,p4,q4⟩
theorem rels_at {H:Type} {enc:TypeId × Value→H} {W:World} {fuel:Nat} {cs:List Value} {y:DataW H × List MemPlace} (hf:DataW.trod enc Tryz.prog W 0 (fun _=>true) true fuel 62 cs=some y) (hs0:Sized 62 y.1) :
  ∃ (A:Option Addr) (c:Nat) (l:List MRel),cs=[.slice A l.length c]∧RRow W (LtB W.heap.size) A l.length l∧l.length≤c∧c≤maxLen∧(A=none→c=0):=by
 obtain ⟨A,n,c,l,e,h1,h2,h3,h4,h5⟩:=KR.KRow.came (P:=RelOk W (LtB W.heap.size)) Tryz.underlying62 (by kernel_rfl) Model.rel_len (by omega) (fun _ _ _ h q=>rel_at h q) hf hs0
 obtain rfl:=h1.1
 exact ⟨A,c,l,e,⟨h1,h2⟩,h3,h4,h5⟩
theorem pack_at {H:Type} {enc:TypeId × Value→H} {W:World} {fuel:Nat} {l:List Value} {y:DataW H × List MemPlace} (hf:DataW.trod enc Tryz.prog W 0 (fun _=>true) true fuel 64 l=some y) (hs0:Sized 64 y.1):∃ p:MPack,l=p.vals∧PackOk W (LtB W.heap.size) p:=by
 have hC:Tryz.prog.cellsOf 64=2:=by kernel_rfl
 have cs:Tryz.prog.cellsOf 9=1:=by kernel_rfl
 have cr:Tryz.prog.cellsOf 62=1:=by kernel_rfl
 obtain ⟨xs,n,_,hy0,hsz,hlen,hg⟩:=DataW.trod_struct Tryz.underlying64 hf
 have hl:xs.length=2:=hlen
 rw [hC] at hsz
 match l,hsz with
 | [z0,z1],_ =>
  match xs,hl with
  | [y0,y1],_ =>
   have f0:DataW.trod enc Tryz.prog W 0 (fun _=>true) true n 9 (([z0,z1].drop 0).take (Tryz.prog.cellsOf 9))=some y0:=hg 0 _ rfl
   rw [cs] at f0
   have g0:DataW.trod enc Tryz.prog W 0 (fun _=>true) true n 9 [z0]=some y0:=f0
   have f1:DataW.trod enc Tryz.prog W 0 (fun _=>true) true n 62 (([z0,z1].drop 1).take (Tryz.prog.cellsOf 62))=some y1:=hg 1 _ rfl
   rw [cr] at f1
   have g1:DataW.trod enc Tryz.prog W 0 (fun _=>true) true n 62 [z1]=some y1:=f1
   rw [hy0] at hs0
   clear f0 f1 hg
   obtain ⟨s,rfl,hs⟩:=name_read g0
   obtain ⟨R,rc,l,e1,p1,p2,p3,p4⟩:=rels_at g1 (hs0.part Tryz.underlying64 (i:=1) rfl rfl)
   simp at e1
   subst e1
   exact ⟨⟨s,R,rc,l⟩,rfl,hs,p1,⟨p2,p3⟩,p4⟩
theorem packs_at {H:Type} {enc:TypeId × Value→H} {W:World} {fuel:Nat} {cs:List Value} {y:DataW H × List MemPlace} (hf:DataW.trod enc Tryz.prog W 0 (fun _=>true) true fuel 22 cs=some y) (hs0:Sized 22 y.1) :
  ∃ (A:Option Addr) (c:Nat) (l:List MPack),cs=[.slice A l.length c]∧PRow W (LtB W.heap.size) A l.length l∧l.length≤c∧c≤maxLen∧(A=none→c=0):=by
 obtain ⟨A,n,c,l,e,h1,h2,h3,h4,h5⟩:=KR.KRow.came (P:=PackOk W (LtB W.heap.size)) Tryz.underlying22 (by kernel_rfl) Model.pack_len (by omega) (fun _ _ _ h q=>pack_at h q) hf hs0
 obtain rfl:=h1.1
 exact ⟨A,c,l,e,⟨h1,h2⟩,h3,h4,h5⟩
theorem pin_at {H:Type} {enc:TypeId × Value→H} {W:World} {fuel:Nat} {l:List Value} {y:DataW H × List MemPlace} (hf:DataW.trod enc Tryz.prog W 0 (fun _=>true) true fuel 66 l=some y):∃ p:MPin,l=p.vals∧PinOk W (LtB W.heap.size) p:=by
 have hC:Tryz.prog.cellsOf 66=6:=by kernel_rfl
 have cs:Tryz.prog.cellsOf 9=1:=by kernel_rfl
 have cv:Tryz.prog.cellsOf 47=5:=by kernel_rfl
 obtain ⟨xs,n,_,_,hsz,hlen,hg⟩:=DataW.trod_struct Tryz.underlying66 hf
 have hl:xs.length=2:=hlen
 rw [hC] at hsz
 match l,hsz with
 | [z0,z1,z2,z3,z4,z5],_ =>
  match xs,hl with
  | [y0,y1],_ =>
   have f0:DataW.trod enc Tryz.prog W 0 (fun _=>true) true n 9 (([z0,z1,z2,z3,z4,z5].drop 0).take (Tryz.prog.cellsOf 9))=some y0:=hg 0 _ rfl
   rw [cs] at f0
   have g0:DataW.trod enc Tryz.prog W 0 (fun _=>true) true n 9 [z0]=some y0:=f0
   have f1:DataW.trod enc Tryz.prog W 0 (fun _=>true) true n 47 (([z0,z1,z2,z3,z4,z5].drop 1).take (Tryz.prog.cellsOf 47))=some y1:=hg 1 _ rfl
   rw [cv] at f1
   have g1:DataW.trod enc Tryz.prog W 0 (fun _=>true) true n 47 [z1,z2,z3,z4,z5]=some y1:=f1
   clear f0 f1 hg
   obtain ⟨s,rfl,hs⟩:=name_read g0
   obtain ⟨v,e,hv⟩:=mver_at g1
   exact ⟨⟨s,v⟩,by rw [e]; rfl,hs,hv⟩
theorem pins_at {H:Type} {enc:TypeId × Value→H} {W:World} {fuel:Nat} {cs:List Value} {y:DataW H × List MemPlace} (hf:DataW.trod enc Tryz.prog W 0 (fun _=>true) true fuel 26 cs=some y) (hs0:Sized 26 y.1) :
  ∃ (A:Option Addr) (c:Nat) (l:List MPin),cs=[.slice A l.length c]∧SPRow W (LtB W.heap.size) A l.length l∧l.length≤c∧c≤maxLen∧(A=none→c=0):=by
 obtain ⟨A,n,c,l,e,h1,h2,h3,h4,h5⟩:=KR.KRow.came (P:=PinOk W (LtB W.heap.size)) Tryz.underlying26 (by kernel_rfl) Model.pin_len (by omega) (fun _ _ _ h _=>pin_at h) hf hs0
 obtain rfl:=h1.1
 exact ⟨A,c,l,e,⟨h1,h2⟩,h3,h4,h5⟩
end Go.Proofs.YtneilnibghhgmaaGreatDoor.Came
namespace Go.Proofs.YtneilnibghhgmaaGreatDoor.Model
open Go.RowKit Num Ident Semver
open Range (Rng noRng RV KeepS LtB LenOk goodR wt)
open KR (KRow AtV)
open Name (isName)

theorem mk_ne {a b:List UInt8} (h:a≠b):((Ident.mk a).toList == (Ident.mk b).toList)=false:=by
 rw [Lib.toList_data,Lib.toList_data,beq_eq_false_iff_ne]; exact h
theorem mk_eq (a:List UInt8):((Ident.mk a).toList == (Ident.mk a).toList)=true:=by simp
theorem nameB_yes {α:Type} [Inhabited α] {nm:α→List UInt8} {l:List α} {k j:Nat} (hj:j<k) (hk:k<l.length) (h:nm (l.getD j default)=nm (l.getD k default)):nameB nm l k=true:=by
 unfold nameB
 rw [List.any_eq_true]
 refine ⟨l.getD j default,?_,by rw [beq_iff_eq]; exact h⟩
 rw [List.getD_eq_getElem?_getD,List.getElem?_eq_getElem (by omega)]
 exact List.mem_take_iff_getElem.2 ⟨j,by omega,rfl⟩
theorem nameB_no {α:Type} [Inhabited α] {nm:α→List UInt8} {l:List α} {k:Nat} (h:∀ j,j<k→nm (l.getD j default)≠nm (l.getD k default)):nameB nm l k=false:=by
 unfold nameB
 rw [List.any_eq_false]
 intro x hx
 obtain ⟨j,hj,rfl⟩:=List.mem_take_iff_getElem.1 hx
 have:=h j (by omega)
 rw [List.getD_eq_getElem?_getD,List.getElem?_eq_getElem (by omega)] at this
 simpa using this
theorem SPRow.cells {w:World} {S:Nat→Prop} {A:Option Addr} {n:Nat} {l:List MPin} (h:SPRow w S A n l) {k:Nat} (hk:k<n):∃ b o,A=some ⟨b,o,none⟩∧S b∧b<w.heap.size ∧
  w.cell? ⟨b,o+k * 6,none⟩=some (.string (Ident.mk (l.getD k default).name))∧w.cell? ⟨b,o+k * 6+1,none⟩=some (.int .u64 ((l.getD k default).ver.v.a))∧w.cell? ⟨b,o+k * 6+2,none⟩=some (.int .u64 ((l.getD k default).ver.v.b))∧w.cell? ⟨b,o+k * 6+3,none⟩=some (.int .u64 ((l.getD k default).ver.v.c))∧w.cell? ⟨b,o+k * 6+4,none⟩=some (.slice (l.getD k default).ver.A (l.getD k default).ver.v.pre.length (l.getD k default).ver.c)∧w.cell? ⟨b,o+k * 6+5,none⟩=some (.slice (l.getD k default).ver.B (l.getD k default).ver.v.build.length (l.getD k default).ver.d):=by
 obtain ⟨b,o,e,hb,hlt,hc⟩:=h.row.at_ hk
 exact ⟨b,o,e,hb,hlt,hc 0 _ rfl,hc 1 _ rfl,hc 2 _ rfl,hc 3 _ rfl,hc 4 _ rfl,hc 5 _ rfl⟩
theorem pinE_name {s:List PPin} {k:Nat} {p:PPin} (h:isName p.name=false):pinE s k p=12:=by unfold pinE; rw [if_pos h]
theorem pinE_ver {s:List PPin} {k:Nat} {p:PPin} (h:isName p.name=true) (g:goodV p.v=false):pinE s k p=3:=by unfold pinE; rw [if_neg (by rw [h]; decide),if_pos g]
theorem pinE_there {s:List PPin} {k:Nat} {p:PPin} (h:isName p.name=true) (g:goodV p.v=true) (q:nameB PPin.name s k=true):pinE s k p=6:=by unfold pinE; rw [if_neg (by rw [h]; decide),if_neg (by rw [g]; decide),if_pos q]
theorem pinE_good {s:List PPin} {k:Nat} {p:PPin} (h:isName p.name=true) (g:goodV p.v=true) (q:nameB PPin.name s k=false):pinE s k p=0:=by unfold pinE; rw [if_neg (by rw [h]; decide),if_neg (by rw [g]; decide),if_neg (by rw [q]; decide)]
theorem refPins_any (A:Option Addr) (n c:Nat) (l:List MPin) (B:Nat) (w:World) (h:SPRow w (LtB B) A n l) (_hB:B≤w.heap.size) (hn:n≤maxLen) (hs:∀ d ∈ l,d.name.length≤1000000) :
  Calls Tryz.prog 14 #[.slice A n c] w fun e w'=>e=.returned (out2V (pinsF (l.map MPin.p)))∧Below w.heap.size w w':=by
 have HO:=Lib.hid h
 have HL:=Lib.hid h.row.1
 have HS:=Lib.hid hs
 unfold maxLen at hn
 clear h hs
 go_enter Tryz.func14,Tryz.ntmps14
 go_wp2
 go_loopw [4] (fun i W=>∃ k:Nat,k≤n∧i=.int .i64 k∧Hid (∀ j,j<k→pinE (l.map MPin.p) j (l.getD j default).p=0)∧Hid (Below w.heap.size w W)) (fun i _=>n - (intOf i).toNat)
 case atStart=>exact ⟨0,Nat.zero_le _,rfl,(fun j hj=>by omega),Below.refl _ _⟩
 case round =>
  rename World=>wk
  obtain ⟨k,hk,rfl,HD,HW⟩:=hrel
  by_cases hlt:k<n
  ·have hrow:=HO.out.keep (KeepS.of_below (S:=LtB B) HW.out)
   have HDO:Hid (PinOk wk (LtB B) (l.getD k default)):=hrow.ok _ (getD_mem (by rw [HL.out]; exact hlt))
   have HNS:=Lib.hid (HS.out _ (getD_mem (l:=l) (k:=k) (by rw [HL.out]; exact hlt)))
   obtain ⟨b,o,e0,_,hb,c0,c1,c2,c3,c4,c5⟩:=hrow.cells hlt
   have HST:Hid (pinE (l.map MPin.p) k (l.getD k default).p≠0→pinsF (l.map MPin.p)=some (k,pinE (l.map MPin.p) k (l.getD k default).p)):=fun hne=>by
    have q:=firstG_stop (fun k p=>toO (pinE (l.map MPin.p) k p)) (l.map MPin.p) 0 k (pinE (l.map MPin.p) k (l.getD k default).p) (by rw [List.length_map,HL.out]; exact hlt) (fun j hj=>by rw [map_at _ _ (by rw [HL.out]; omega),Nat.zero_add]; exact toO_none.2 (HD.out j hj)) (by rw [map_at _ _ (by rw [HL.out]; exact hlt),Nat.zero_add]; exact toO_some hne)
    rwa [Nat.zero_add] at q
   have HYES:Hid (∀ j,j<k→(l.getD j default).name=(l.getD k default).name→nameB PPin.name (l.map MPin.p) k=true):=fun j hj e=>nameB_yes hj (by rw [List.length_map,HL.out]; exact hlt) (by rw [map_at _ _ (by rw [HL.out]; omega),map_at _ _ (by rw [HL.out]; exact hlt)]; exact e)
   have HNO:Hid ((∀ j,j<k→(l.getD j default).name≠(l.getD k default).name)→nameB PPin.name (l.map MPin.p) k=false):=fun q=>nameB_no fun j hj=>by rw [map_at _ _ (by rw [HL.out]; omega),map_at _ _ (by rw [HL.out]; exact hlt)]; exact q j hj
   clear hrow
   have HMO:Hid (pinE (l.map MPin.p) k (l.getD k default).p=0→∀ j,j<k+1→pinE (l.map MPin.p) j (l.getD j default).p=0):=fun h j hj=>by
    rcases Nat.lt_or_ge j k with h1 | h1
    ·exact HD.out j h1
    ·obtain rfl:j=k:=by omega
     exact h
   obtain ⟨p,hp⟩:∃ p,l.getD k default=p:=⟨_,rfl⟩
   rw [hp] at c0 c1 c2 c3 c4 c5 HDO HNS HST HMO HYES HNO
   have HPE:=Lib.hid hp
   clear hp
   subst e0
   go_wp2_with fail
   refine (Name.ref_good_any (Ident.mk p.name) _ (by rw [mk_size]; exact HNS.out)).mono ?_
   rw [mk_list]
   rintro e W1 ⟨rfl,rfl⟩
   cases hnm:isName p.name
   ·have HF:Hid (pinsF (l.map MPin.p)=some (k,12)):=by have q:=pinE_name (s:=l.map MPin.p) (k:=k) (p:=p.p) hnm; have:=HST.out; rw [q] at this; exact this (by decide)
    clear hnm
    go_wp2
    go_ret2
    exact ⟨by rw [HF.out]; rfl,HW.out⟩
   ·have HNM:=Lib.hid hnm
    clear hnm
    go_wp2_with fail
    refine (refGood_all p.ver.v p.ver.A p.ver.c p.ver.B p.ver.d _ HDO.out.ver.pre HDO.out.ver.build HDO.out.ver.fit.pre HDO.out.ver.fit.build HDO.out.ver.fit.pres HDO.out.ver.fit.builds).mono ?_
    rintro e W1 ⟨rfl,hb1⟩
    have HW1:=Lib.hid (HW.out.trans (hb1.mono HW.out.size))
    clear hb1 c0 c1 c2 c3 c4 c5
    cases hg:goodV p.ver.v
    ·have HF:Hid (pinsF (l.map MPin.p)=some (k,3)):=by have q:=pinE_ver (s:=l.map MPin.p) (k:=k) (p:=p.p) HNM.out hg; have:=HST.out; rw [q] at this; exact this (by decide)
     clear hg
     go_wp2
     go_ret2
     exact ⟨by rw [HF.out]; rfl,HW1.out⟩
    ·have HG:=Lib.hid hg
     clear hg hb
     go_wp2
     go_loopw [5] (fun i W=>∃ m:Nat,m≤k∧i=.int .i64 m∧Hid (∀ j,j<m→(l.getD j default).name≠p.name)∧Hid (Below w.heap.size w W)) (fun i _=>k - (intOf i).toNat)
     case atStart=>exact ⟨0,Nat.zero_le _,rfl,(fun j hj=>by omega),HW1.out⟩
     case round =>
      rename World=>wm
      obtain ⟨m,hm,rfl,HDM,HWM⟩:=hrel
      have hrow:=HO.out.keep (KeepS.of_below (S:=LtB B) HWM.out)
      obtain ⟨b2,o2,e2,_,hb2,c0,_⟩:=hrow.cells hlt
      injection e2 with e3
      injection e3 with e3 e4
      subst e3
      subst e4
      rw [HPE.out] at c0
      by_cases hmk:m<k
      ·obtain ⟨b2,o2,e2,_,_,f0,_⟩:=hrow.cells (show m<n by omega)
       injection e2 with e3
       injection e3 with e3 e4
       subst e3
       subst e4
       have HPM:Hid ((l.getD m default).name=p.name→nameB PPin.name (l.map MPin.p) k=true):=fun e=>HYES.out m hmk e
       have HDN:Hid ((l.getD m default).name≠p.name→∀ j,j<m+1→(l.getD j default).name≠p.name):=fun e j hj=>by
        rcases Nat.lt_or_ge j m with h1 | h1
        ·exact HDM.out j h1
        ·obtain rfl:j=m:=by omega
         exact e
       obtain ⟨q,hq⟩:∃ q,(l.getD m default).name=q:=⟨_,rfl⟩
       rw [hq] at f0 HPM HDN
       clear hq hrow
       have d0:wm.drew.cell? ⟨b,o+k * 6,none⟩=_:=c0
       have d1:wm.drew.cell? ⟨b,o+m * 6,none⟩=_:=f0
       have hmn:¬ n≤m:=by omega
       have hkn:¬ n≤k:=by omega
       by_cases hqp:q=p.name
       ·have HF:Hid (pinsF (l.map MPin.p)=some (k,6)):=by have r:=pinE_there (s:=l.map MPin.p) (k:=k) (p:=p.p) HNM.out HG.out (HPM.out hqp); have:=HST.out; rw [r] at this; exact this (by decide)
        have hbe:((Ident.mk q).toList == (Ident.mk p.name).toList)=true:=by rw [hqp]; exact mk_eq _
        clear hqp
        go_wp2
        refine wp_region_held_drew (S:=fun w'=>w'=wm.drew) (by kernel_rfl) rfl (fun hHeld=>?_)
        refine tk 0 rfl (.slice (some ⟨b,o,none⟩) n c) ?_ (hv:=fun w' hS'=>by subst hS'; go_simp)
        refine tk 1 rfl (.int .i64 m) ?_ (hv:=fun w' hS'=>by subst hS'; go_simp)
        refine tk 2 rfl (.pointer (some ⟨b,o+m * 6,none⟩)) ?_ (hv:=fun w' hS'=>by subst hS'; go_simp)
        refine tk 3 rfl (.pointer (some ⟨b,o+m * 6,none⟩)) ?_ (hv:=fun w' hS'=>by subst hS'; go_simp)
        refine tk 4 rfl (.string (Ident.mk q)) ?_ (hv:=fun w' hS'=>by subst hS'; go_simp)
        refine tk 5 rfl (.slice (some ⟨b,o,none⟩) n c) ?_ (hv:=fun w' hS'=>by subst hS'; go_simp)
        refine tk 6 rfl (.int .i64 k) ?_ (hv:=fun w' hS'=>by subst hS'; go_simp)
        refine tk 7 rfl (.pointer (some ⟨b,o+k * 6,none⟩)) ?_ (hv:=fun w' hS'=>by subst hS'; go_simp)
        refine tk 8 rfl (.pointer (some ⟨b,o+k * 6,none⟩)) ?_ (hv:=fun w' hS'=>by subst hS'; go_simp)
        refine tk 9 rfl (.string (Ident.mk p.name)) ?_ (hv:=fun w' hS'=>by subst hS'; go_simp)
        refine tk 10 rfl (.bool true) ?_ (hv:=fun w' hS'=>by subst hS'; go_simp)
        refine wpAnyH_done (by kernel_rfl) ?_ _
        have HW2:Hid (Below w.heap.size w wm.drew):=HWM.out.drew
        clear c0 f0 d0 d1 hHeld
        generalize wm.drew=wm2 at HW2 ⊢
        go_wp2
        go_ret2
        exact ⟨by rw [HF.out]; rfl,HW2.out⟩
       ·have HDN2:=Lib.hid (HDN.out hqp)
        have hbe:((Ident.mk q).toList == (Ident.mk p.name).toList)=false:=mk_ne hqp
        clear hqp
        go_wp2
        refine wp_region_held_drew (S:=fun w'=>w'=wm.drew) (by kernel_rfl) rfl (fun hHeld=>?_)
        refine tk 0 rfl (.slice (some ⟨b,o,none⟩) n c) ?_ (hv:=fun w' hS'=>by subst hS'; go_simp)
        refine tk 1 rfl (.int .i64 m) ?_ (hv:=fun w' hS'=>by subst hS'; go_simp)
        refine tk 2 rfl (.pointer (some ⟨b,o+m * 6,none⟩)) ?_ (hv:=fun w' hS'=>by subst hS'; go_simp)
        refine tk 3 rfl (.pointer (some ⟨b,o+m * 6,none⟩)) ?_ (hv:=fun w' hS'=>by subst hS'; go_simp)
        refine tk 4 rfl (.string (Ident.mk q)) ?_ (hv:=fun w' hS'=>by subst hS'; go_simp)
        refine tk 5 rfl (.slice (some ⟨b,o,none⟩) n c) ?_ (hv:=fun w' hS'=>by subst hS'; go_simp)
        refine tk 6 rfl (.int .i64 k) ?_ (hv:=fun w' hS'=>by subst hS'; go_simp)
        refine tk 7 rfl (.pointer (some ⟨b,o+k * 6,none⟩)) ?_ (hv:=fun w' hS'=>by subst hS'; go_simp)
        refine tk 8 rfl (.pointer (some ⟨b,o+k * 6,none⟩)) ?_ (hv:=fun w' hS'=>by subst hS'; go_simp)
        refine tk 9 rfl (.string (Ident.mk p.name)) ?_ (hv:=fun w' hS'=>by subst hS'; go_simp)
        refine tk 10 rfl (.bool false) ?_ (hv:=fun w' hS'=>by subst hS'; go_simp)
        refine wpAnyH_done (by kernel_rfl) ?_ _
        have HW2:Hid (Below w.heap.size w wm.drew):=HWM.out.drew
        clear c0 f0 d0 d1 hHeld
        generalize wm.drew=wm2 at HW2 ⊢
        go_wp2
        exact ⟨⟨m+1,by omega,by go_num,HDN2.out,HW2.out⟩,by simp [intOf]; omega⟩
      ·obtain rfl:m=k:=by omega
       have HM:Hid (∀ j,j<m+1→pinE (l.map MPin.p) j (l.getD j default).p=0):=HMO.out (pinE_good HNM.out HG.out (HNO.out HDM.out))
       clear hrow c0
       go_wp2
       exact ⟨⟨m+1,by omega,by go_num,HM.out,HWM.out⟩,by simp [intOf]; omega⟩
  ·obtain rfl:k=n:=by omega
   have HF:Hid (pinsF (l.map MPin.p)=none):=firstG_none _ _ 0 fun j hj=>by
    rw [List.length_map] at hj
    rw [map_at _ _ hj,Nat.zero_add]; exact toO_none.2 (HD.out j (by rw [← HL.out]; exact hj))
   go_wp2
   go_ret2
   exact ⟨by rw [HF.out]; rfl,HW.out⟩
end Go.Proofs.YtneilnibghhgmaaGreatDoor.Model
namespace Go.Proofs.YtneilnibghhgmaaGreatDoor.Model
open Go.RowKit Num Ident Semver
open Range (Rng noRng RV KeepS LtB LenOk goodR wt)
open KR (KRow AtV run_append_k region_append)

def AllPost (w:World) (B:Nat) (r:MRel) (e:Ending) (W:World):Prop :=
 ∃ (A:Option Addr) (c:Nat),e=.returned (.slice A (r.needs ++ r.bans).length c)∧(r.needs ++ r.bans).length≤c∧(A=none→c=0)∧KRow MDep.vals 8 W (fun g=>w.heap.size≤g) A (r.needs ++ r.bans).length (r.needs ++ r.bans)∧(∀ d ∈ r.needs ++ r.bans,DepOk W (LtB B) d)∧Below w.heap.size w W
theorem refAll_any (r:MRel) (B:Nat) (w:World) (h:RelOk w (LtB B) r) (hB:B≤w.heap.size) (h1:r.needs.length≤1000000) (h2:r.bans.length≤1000000) :
  Calls Tryz.prog 33 #[r.agg] w (AllPost w B r):=by
 have HO:=Lib.hid h
 have HBB:=Lib.hid hB
 have HN1:=Lib.hid h1
 have HN2:=Lib.hid h2
 clear h hB h1 h2
 obtain ⟨W0,hW,hav,hb0⟩:∃ W,W=w.alloc (.cells #[r.ver.v.a,r.ver.v.b,r.ver.v.c,.slice r.ver.A r.ver.v.pre.length r.ver.c,.slice r.ver.B r.ver.v.build.length r.ver.d,.bool r.yanked,.slice r.N r.needs.length r.nc,.slice r.B r.bans.length r.bc] 49)∧AtV W w.heap.size [.int .u64 r.ver.v.a,.int .u64 r.ver.v.b,.int .u64 r.ver.v.c,.slice r.ver.A r.ver.v.pre.length r.ver.c,.slice r.ver.B r.ver.v.build.length r.ver.d,.bool r.yanked,.slice r.N r.needs.length r.nc,.slice r.B r.bans.length r.bc]∧Below w.heap.size w W:=⟨_,rfl,AtV.new w _ _,(Below.refl _ _).alloc (Nat.le_refl _) _⟩
 have HAV:=Lib.hid hav
 have HB0:=Lib.hid hb0
 clear hav hb0
 obtain ⟨bd,hbd⟩:∃ bd,w.heap.size=bd:=⟨_,rfl⟩
 have HBD:=Lib.hid hbd
 unfold MRel.agg
 go_enter Tryz.func33,Tryz.ntmps33
 go_upto_region 1 with (fail)
 rw [← hW]
 clear hW
 rw [hbd] at HAV
 clear hbd
 have a6:=HAV.out.at_ 6 _ rfl
 have a7:=HAV.out.at_ 7 _ rfl
 have hlt:=HAV.out.lt
 have H0:Hid (Below W0.heap.size W0 W0.drew):=(Below.refl _ _).drew
 refine wp_region_held_drew (S:=fun w'=>Below W0.heap.size W0 w') (by kernel_rfl) H0.out (fun hHeld=>?_)
 generalize W0.drew=W1 at H0 hHeld ⊢
 refine tk 1 rfl (.pointer (some ⟨bd,6,none⟩)) ?_
 refine tk 2 rfl (.slice r.N r.needs.length r.nc) ?_ (hv:=fun w' hS'=>by have q:=(hS'.cell (p:=⟨bd,6,none⟩) hlt).trans a6; go_simp)
 refine tk 4 rfl (.pointer (some ⟨bd,7,none⟩)) ?_
 refine tk 5 rfl (.slice r.B r.bans.length r.bc) ?_ (hv:=fun w' hS'=>by have q:=(hS'.cell (p:=⟨bd,7,none⟩) hlt).trans a7; go_simp)
 refine cl 0 rfl fun K hK=>?_
 go_simp
 have H2:Hid (Below W0.heap.size W0 (W1.alloc (.cells #[] 61))):=H0.out.alloc H0.out.size _
 have O2:Hid (World.ownsRow (W1.alloc (.cells #[] 61)) W0.heap.size 61 8 (.slice (some ⟨W1.heap.size,0,none⟩) 0 0) 0 (([]:List MDep).flatMap MDep.vals)):=World.ownsRow_made (base:=W0.heap.size) (e:=61) (size:=8) W1 #[] 0 H0.out.size (by unfold maxLen; omega) rfl
 refine hK.out _ _ H2.out (fun hHeld2=>?_)
 clear hK K hHeld2
 try simp only [Act.put,p1,p2,p3]
 obtain ⟨g,hg⟩:∃ g,W1.heap.size=g:=⟨_,rfl⟩
 rw [hg] at O2 ⊢
 clear hg
 generalize W1.alloc (.cells #[] 61)=W2 at H2 O2 ⊢
 have HK2:Hid (KeepS (LtB B) w W2):=KeepS.of_below (HB0.out.trans (H2.out.mono HB0.out.size))
 refine cl 3 rfl fun K hK=>?_
 obtain ⟨v3,W3,hrun,ho,hgr⟩:=run_append_k Tryz.underlying25 depInfo rfl dep_len (by omega) dep_one W2 25 W0.heap.size (.slice (some ⟨g,0,none⟩) 0 0) 0 [] O2.out r.N r.needs.length r.nc r.needs (HO.out.needs.row.keep HK2.out) HO.out.nn (by have:=HN1.out; unfold maxLen; omega) (by have:=HN1.out; omega) H2.out.size
 have H3:Hid (Below W0.heap.size W0 W3):=H2.out.grown hgr H2.out.size (fun k hk=>(O2.out.lt k hk).1)
 have O3:=Lib.hid ho
 rw [Nat.zero_add,List.nil_append] at O3
 refine region_append (by rfl) _ _ rfl rfl rfl hrun ?_
 clear hrun ho hgr
 refine hK.out _ _ H3.out (fun hHeld3=>?_)
 clear hK K hHeld3
 try simp only [Act.put,p1,p2,p3]
 have HK3:Hid (KeepS (LtB B) w W3):=KeepS.of_below (HB0.out.trans (H3.out.mono HB0.out.size))
 refine cl 6 rfl fun K hK=>?_
 obtain ⟨v4,W4,hrun,ho,hgr⟩:=run_append_k Tryz.underlying25 depInfo rfl dep_len (by omega) dep_one W3 25 W0.heap.size v3 r.needs.length r.needs O3.out r.B r.bans.length r.bc r.bans (HO.out.bans.row.keep HK3.out) HO.out.bn (by have:=HN1.out; have:=HN2.out; unfold maxLen; omega) (by have:=HN1.out; have:=HN2.out; omega) H3.out.size
 have H4:Hid (Below W0.heap.size W0 W4):=H3.out.grown hgr H3.out.size (fun k hk=>(O3.out.lt k hk).1)
 have O4:Hid (World.ownsRow W4 W0.heap.size 61 8 v4 (r.needs ++ r.bans).length ((r.needs ++ r.bans).flatMap MDep.vals)):=by unfold Hid; rw [List.length_append]; exact ho
 refine region_append (by rfl) _ _ rfl rfl rfl hrun ?_
 clear hrun ho hgr
 refine hK.out _ _ H4.out (fun hHeld4=>?_)
 clear hK K hHeld4
 try simp only [Act.put,p1,p2,p3]
 obtain ⟨A5,c5,hv5,k1,k2,k3⟩:=KRow.of_own (S:=fun g=>w.heap.size≤g) dep_len O4.out rfl (fun g h _=>Nat.le_trans HB0.out.size h)
 subst hv5
 have HB4:=Lib.hid (HB0.out.trans (H4.out.mono HB0.out.size))
 refine tk 7 rfl (.slice A5 (r.needs ++ r.bans).length c5) ?_
 refine wpAnyH_done (by kernel_rfl) ?_ _
 have KK:=Lib.hid (And.intro k1 (And.intro k2 k3))
 clear k1 k2 k3 a6 a7 O4 O3 O2
 have HK4:Hid (KeepS (LtB B) w W4):=KeepS.of_below HB4.out
 have HDD:Hid (∀ d ∈ r.needs ++ r.bans,DepOk W4 (LtB B) d):=fun d hd=>by
  rcases List.mem_append.1 hd with h | h
  ·exact (HO.out.needs.ok d h).keep HK4.out
  ·exact (HO.out.bans.ok d h).keep HK4.out
 obtain ⟨L,hL⟩:∃ L,r.needs ++ r.bans=L:=⟨_,rfl⟩
 rw [hL] at KK HDD ⊢
 have HLL:=Lib.hid hL
 clear hL
 go_wp2
 go_ret
 have hL:=HLL.out
 unfold AllPost
 rw [hL]
 refine ⟨A5,c5,rfl,KK.out.1,KK.out.2.1,KK.out.2.2,HDD.out,HB4.out⟩
end Go.Proofs.YtneilnibghhgmaaGreatDoor.Model
