/-
  What the theorem of the last text needs of these: RgFore, SpSort, SpEdges, SpCopied, SpConcat. Conditions: as each theorem states.
-/
import Derived.Test.YtgakcdcfblgagaaGreatDoorRoA1
import Derived.Test.YtgakcdcfblgagaaGreatDoorRoA5
import Derived.Test.YtgakcdcfblgagaaGreatDoorRoA10
import Derived.Test.YtgakcdcfblgagaaGreatDoorRoA11
import Derived.Test.YtgakcdcfblgagaaGreatDoorRoA12
import Derived.Test.YtgakcdcfblgagaaGreatDoorShelfSort
import Derived.Shelf.SlSortCmp.NoneTotal
import Derived.Lib.QuietBelow
import Derived.Deep.CutBlock
import Derived.Deep.DeepCutAuto
import Derived.Test.YtgakcdcfblgagaaGreatDoorShelfGrow
set_option maxRecDepth 100000
set_option maxHeartbeats 25600000
namespace Go.Proofs.YtgakcdcfblgagaaGreatDoor.Range
open Num Ident Semver

theorem sameV_eq {u v:Ver} (h:sameV u v=true):u=v:=by
 unfold sameV at h
 rw [Bool.and_eq_true,Bool.and_eq_true,decide_eq_true_eq,sameB_iff,sameB_iff] at h
 obtain ⟨a,b,c,p,q⟩:=u
 obtain ⟨a',b',c',p',q'⟩:=v
 obtain ⟨⟨h1,h2,h3⟩,h4,h5⟩:=h
 simp only at h1 h2 h3 h4 h5
 rw [h1,h2,h3,h4,h5]
theorem good_cases {kind:Int} {v:Ver} {l:List Rng} {d:Nat} (h:goodR (.mk kind v l) d=true) :
  d≤64∧goodL kind l d=true∧((1≤kind∧kind≤8∧goodV v=true∧l=[])∨(v=noVer∧((kind=0∧l=[])∨((kind=9∨kind=10)∧2≤l.length)∨(kind=11∧∃ x,l=[x])))):=by
 rw [goodR_eq,Bool.and_eq_true,Bool.and_eq_true,decide_eq_true_eq] at h
 refine ⟨h.1.1,h.2,?_⟩
 have hf:=h.1.2
 unfold fits at hf
 by_cases h1:ofVersion kind=true
 ·rw [if_pos h1,Bool.and_eq_true,decide_eq_true_eq] at hf
  unfold ofVersion at h1
  rw [decide_eq_true_eq] at h1
  exact .inl ⟨h1.1,h1.2,hf.1,List.eq_nil_of_length_eq_zero hf.2⟩
 ·rw [if_neg h1] at hf
  by_cases h2:sameV v noVer=false
  ·rw [if_pos h2] at hf; cases hf
  ·rw [if_neg h2] at hf
   refine .inr ⟨sameV_eq (by simpa using h2),?_⟩
   by_cases h3:kind=0
   ·rw [if_pos h3,decide_eq_true_eq] at hf; exact .inl ⟨h3,List.eq_nil_of_length_eq_zero hf⟩
   ·rw [if_neg h3] at hf
    by_cases h4:kind=9∨kind=10
    ·rw [if_pos h4,decide_eq_true_eq] at hf; exact .inr (.inl ⟨h4,hf⟩)
    ·rw [if_neg h4] at hf
     by_cases h5:kind=11
     ·rw [if_pos h5,decide_eq_true_eq] at hf
      exact .inr (.inr ⟨h5,List.length_eq_one_iff.1 hf⟩)
     ·rw [if_neg h5] at hf; cases hf
theorem size_mem {x:Rng} {kind:Int} {v:Ver} {l:List Rng} (h:x ∈ l):SizeOf.sizeOf x<SizeOf.sizeOf (Rng.mk kind v l):=by
 have:=List.sizeOf_lt_of_mem h
 rw [Rng.mk.sizeOf_spec]; omega
theorem goodL_mem {o:Int} {x:Rng}:∀ {l:List Rng} {d:Nat},goodL o l d=true→x ∈ l→goodR x (d+opens o x.kind)=true
 | [],_,_,h=>by cases h
 | r :: rs,d,hg,h=>by
  rw [goodL_cons,Bool.and_eq_true] at hg
  rcases List.mem_cons.1 h with rfl | h
  ·exact hg.1
  ·exact goodL_mem hg.2 h

structure Reads (r:Rng) (k:Nat) (rest:List UInt8):Prop where
 one:r.kind≠9→r.kind≠10→pone k (textR r ++ rest)=(0,blanks rest,r)
 every:r.kind≠10→furO (blanks rest)=none→everyF (pone k) (textR r ++ rest)=(0,blanks rest,r)
 expr:furO (blanks rest)=none→furE (blanks rest)=none→exprF (pone k) (textR r ++ rest)=(0,blanks rest,r)
end Go.Proofs.YtgakcdcfblgagaaGreatDoor.Range
namespace Go.Proofs.YtgakcdcfblgagaaGreatDoor.Span
open Go.RowKit Num Ident Semver Prec

theorem sw1_anyD (x y:REdge) (w:World) (h1:Lies w x.cut) (h2:Lies w y.cut) :
  Calls Tryz.prog 246 #[.agg #[x.cut.kind,x.cut.v.a,x.cut.v.b,x.cut.v.c,.slice x.cut.A x.cut.v.pre.length x.cut.c,.slice x.cut.B x.cut.v.build.length x.cut.d,.int .i64 x.step],.agg #[y.cut.kind,y.cut.v.a,y.cut.v.b,y.cut.v.c,.slice y.cut.A y.cut.v.pre.length y.cut.c,.slice y.cut.B y.cut.v.build.length y.cut.d,.int .i64 y.step]] w fun e w'=>e=.returned (.int .i64 (stand x.cut.cut y.cut.cut))∧BelowD w.heap.size w w':=by
 have HBa:Hid (BelowD w.heap.size w ((w.alloc (.cells #[x.cut.kind,x.cut.v.a,x.cut.v.b,x.cut.v.c,.slice x.cut.A x.cut.v.pre.length x.cut.c,.slice x.cut.B x.cut.v.build.length x.cut.d,.int .i64 x.step] 281)).alloc (.cells #[y.cut.kind,y.cut.v.a,y.cut.v.b,y.cut.v.c,.slice y.cut.A y.cut.v.pre.length y.cut.c,.slice y.cut.B y.cut.v.build.length y.cut.d,.int .i64 y.step] 281))):=((BelowD.refl _ _).alloc (Nat.le_refl _) _).alloc (by simp) _
 have HL:=Lib.hid (h1.kept HBa.out.toBelow)
 have HM:=Lib.hid (h2.kept HBa.out.toBelow)
 have K0:Hid (At7B ((w.alloc (.cells #[x.cut.kind,x.cut.v.a,x.cut.v.b,x.cut.v.c,.slice x.cut.A x.cut.v.pre.length x.cut.c,.slice x.cut.B x.cut.v.build.length x.cut.d,.int .i64 x.step] 281)).alloc (.cells #[y.cut.kind,y.cut.v.a,y.cut.v.b,y.cut.v.c,.slice y.cut.A y.cut.v.pre.length y.cut.c,.slice y.cut.B y.cut.v.build.length y.cut.d,.int .i64 y.step] 281)) w.heap.size x.cut.kind x.cut.v.a x.cut.v.b x.cut.v.c (.slice x.cut.A x.cut.v.pre.length x.cut.c) (.slice x.cut.B x.cut.v.build.length x.cut.d) (.int .i64 x.step)):=(At7B.new w _ _ _ _ _ _ _ _).kept ((Below.refl _ _).alloc (Nat.le_refl _) _) (by simp)
 have J0:Hid (At7B ((w.alloc (.cells #[x.cut.kind,x.cut.v.a,x.cut.v.b,x.cut.v.c,.slice x.cut.A x.cut.v.pre.length x.cut.c,.slice x.cut.B x.cut.v.build.length x.cut.d,.int .i64 x.step] 281)).alloc (.cells #[y.cut.kind,y.cut.v.a,y.cut.v.b,y.cut.v.c,.slice y.cut.A y.cut.v.pre.length y.cut.c,.slice y.cut.B y.cut.v.build.length y.cut.d,.int .i64 y.step] 281)) (w.heap.size+1) y.cut.kind y.cut.v.a y.cut.v.b y.cut.v.c (.slice y.cut.A y.cut.v.pre.length y.cut.c) (.slice y.cut.B y.cut.v.build.length y.cut.d) (.int .i64 y.step)):=by
  have:=At7B.new (w.alloc (.cells #[x.cut.kind,x.cut.v.a,x.cut.v.b,x.cut.v.c,.slice x.cut.A x.cut.v.pre.length x.cut.c,.slice x.cut.B x.cut.v.build.length x.cut.d,.int .i64 x.step] 281)) 281 y.cut.kind y.cut.v.a y.cut.v.b y.cut.v.c (.slice y.cut.A y.cut.v.pre.length y.cut.c) (.slice y.cut.B y.cut.v.build.length y.cut.d) (.int .i64 y.step)
  rw [size_alloc] at this; exact this
 clear h1 h2
 go_enter Tryz.func246,Tryz.ntmps246
 go_upto_region 1 with (fail)
 generalize ((w.alloc (.cells #[x.cut.kind,x.cut.v.a,x.cut.v.b,x.cut.v.c,.slice x.cut.A x.cut.v.pre.length x.cut.c,.slice x.cut.B x.cut.v.build.length x.cut.d,.int .i64 x.step] 281)).alloc (.cells #[y.cut.kind,y.cut.v.a,y.cut.v.b,y.cut.v.c,.slice y.cut.A y.cut.v.pre.length y.cut.c,.slice y.cut.B y.cut.v.build.length y.cut.d,.int .i64 y.step] 281))=W at HBa HL HM K0 J0 ⊢
 obtain ⟨hz,_,x0,x1,x2,x3,x4,x5,x6⟩:=K0.out
 obtain ⟨hy,_,y0,y1,y2,y3,y4,y5,y6⟩:=J0.out
 go_wp2_with fail
 refine (stand_anyD x.cut y.cut _ HL.out HM.out).mono ?_
 rintro e w1 ⟨rfl,hb1⟩
 have B1:=Lib.hid (HBa.out.trans (hb1.mono HBa.out.size))
 clear hb1 x0 x1 x2 x3 x4 x5 x6 y0 y1 y2 y3 y4 y5 y6
 go_wp2
 go_ret
 exact ⟨rfl,B1.out⟩

theorem grow_of {w w':World} (h:BelowD w.heap.size w w'):∃ q os',w'=Go.Sort.grow (w.drewN q) os':=by
 obtain ⟨p,hp⟩:=regrown_of_below h.toBelow
 have hd:w'.drawn=p.d:=by rw [hp]; rfl
 have hle:=h.drawn
 refine ⟨p.d - w.drawn,p.os,?_⟩
 rw [hp]
 unfold Go.Sort.grow redrawn World.drewN
 simp only [World.mk.injEq,true_and,and_true]
 omega
structure Laid (w:World) where
 e:REdge
 h:Lies w e.cut
instance (w:World):Inhabited (Laid w):=⟨⟨⟨rlow,0⟩,Lies.low w⟩⟩
def encE (w:World) (x:Laid w):List Value:=x.e.vals
def cfE (w:World) (x y:Laid w):Int:=stand x.e.cut.cut y.e.cut.cut
theorem swoE (w:World):Go.Sort.SWO (ltOf (cfE w)):=by
 refine ⟨fun x=>?_,fun x y z h1 h2=>?_,fun x y z h1 h2=>?_⟩
 ·unfold ltOf cfE; rw [stand_self]; rfl
 ·unfold ltOf cfE at *; rw [decide_eq_true_eq] at *; exact lt_lt h1 h2
 ·unfold ltOf cfE at *
  rw [decide_eq_false_iff_not] at *
  have a:=not_lt h1
  have b:=not_lt h2
  exact le_not (le_le b a)
theorem below_sort {α:Type} [Inhabited α] (enc:α→List Value) (k:Nat) (w:World) (blk off m:Nat) (d:Array α) (os:Array Obj) (B:Nat) (hB:B≤blk) (hw:B≤w.heap.size):Below B w (sortWorldK enc k w blk off m d os):=by
 unfold sortWorldK Go.Sort.putRowK Go.Sort.putRow Go.Sort.mapBlock Go.Sort.grow Go.Sort.ahead
 refine ⟨rfl,rfl,rfl,by simp,fun i hi=>?_⟩
 rw [Array.getElem?_append_left (by simp; omega),Array.getElem?_modify,if_neg (by omega)]
theorem grown_sort {α:Type} [Inhabited α] (enc:α→List Value) (k:Nat) (w:World) (blk off m:Nat) (d:Array α) (os:Array Obj):w.grownBy (sortWorldK enc k w blk off m d os) (some blk):=by
 unfold sortWorldK Go.Sort.putRowK Go.Sort.putRow Go.Sort.mapBlock Go.Sort.grow Go.Sort.ahead
 refine ⟨rfl,rfl,rfl,by simp,fun i hi hne=>?_⟩
 rw [Array.getElem?_append_left (by simpa using hi),Array.getElem?_modify,if_neg (fun e=>hne (by rw [e]))]
theorem flatK_list {α:Type} [Inhabited α] (enc:α→List Value) (k:Nat) (hk:∀ x,(enc x).length=k) (h0:0<k) (d:Array α):(Go.Sort.flatK enc k d).toList=d.toList.flatMap enc:=by
 apply List.ext_getElem?
 intro t
 by_cases ht:t<d.size * k
 ·have hq:t / k<d.size:=Nat.div_lt_of_lt_mul (by rw [Nat.mul_comm]; exact ht)
  have hm:t % k<k:=Nat.mod_lt _ h0
  have e1:t=t / k * k+t % k:=by rw [Nat.mul_comm]; exact (Nat.div_add_mod t k).symm
  have e2:=flat_get enc k hk d.toList (t / k) (t % k) (by simpa using hq) hm
  rw [← e1] at e2
  rw [e2,Array.getElem?_toList,Array.getElem?_eq_getElem (by rw [Go.Sort.size_flatK]; exact ht)]
  have e3:=Go.Sort.get_flatK enc k d t ht
  rw [getElem!_pos _ t (by rw [Go.Sort.size_flatK]; exact ht)] at e3
  rw [e3]
  have e4:d.toList.getD (t / k) default=d[t / k]!:=by
   rw [getElem!_pos d _ hq]; simp [List.getD,hq]
  rw [e4,getElem!_pos _ (t % k) (by rw [hk]; exact hm),List.getElem?_eq_getElem]
 ·rw [List.getElem?_eq_none (by simp [Go.Sort.size_flatK]; omega),List.getElem?_eq_none (by rw [flat_len _ k hk]; simp; omega)]

theorem cmpLays (w1 w:World) (blk n:Nat) (hb:Below w1.heap.size w1 w) (hblk:w1.heap.size≤blk):CmpLays Tryz.prog 246 #[] (encE w1) 7 (cfE w1) blk 0 n w:=by
 intro m os dk _ x y
 have hB:Below w1.heap.size w1 (sortWorldK (encE w1) 7 w blk 0 m dk os):=hb.trans (below_sort _ _ _ _ _ _ _ _ _ hblk hb.size)
 generalize sortWorldK (encE w1) 7 w blk 0 m dk os=W at hB ⊢
 have h:=sw1_anyD x.e y.e W (x.h.kept hB) (y.h.kept hB)
 rw [Array.append_empty]
 exact h.mono fun e w' ⟨he,hw⟩=>⟨he,grow_of hw⟩
def SortPost (w:World) (base:Nat) (v:Value) (re:List REdge) (e:Ending) (w':World):Prop :=
 e=.returned (.tuple #[])∧∃ re':List REdge,re'.Perm re∧(re'.Pairwise fun x y=>stand x.cut.cut y.cut.cut≤0)∧w'.ownsRow base 281 7 v re'.length (re'.flatMap REdge.vals)∧w.grownBy w' v.ownBlock

theorem sort_any (w1 w:World) (base:Nat) (v:Value) (re:List REdge) (hown:w.ownsRow base 281 7 v re.length (re.flatMap REdge.vals)) (hl:∀ e ∈ re,Lies w1 e.cut) (hb:Below w1.heap.size w1 w) (hbase:w1.heap.size≤base) (hsz:re.length<4611686018427387904) :
  Calls Tryz.prog 245 #[v,.func (.func 246) #[] #[]] w (SortPost w base v re):=by
 have hown0:=hown
 obtain ⟨hlen,h2⟩:=hown
 rcases h2 with ⟨rfl,h0⟩ | ⟨g,cap,cur,rfl,hg0,hg,hnc,hcm,hcs,htk⟩
 ·have hre:re=[]:=List.eq_nil_of_length_eq_zero h0
  subst hre
  exact (AnyF.slices_SortFunc_none Tryz.sortL none 0 (.func (.func 246) #[] #[]) w).mono fun e w' ⟨he,hw⟩=>by
   subst hw
   exact ⟨he,[],List.Perm.refl _,List.Pairwise.nil,hown0,World.grownBy.refl _ _⟩
 ·obtain ⟨d,hd⟩:∃ d:Array (Laid w1),d.toList.map Laid.e=re:=⟨(re.pmap (fun e h=>(⟨e,h⟩:Laid w1)) hl).toArray,by simp [List.map_pmap]⟩
  have hdn:d.size=re.length:=by rw [← hd]; simp
  have hk:∀ x:Laid w1,(encE w1 x).length=7:=fun _=>rfl
  have hF:(Go.Sort.flatK (encE w1) 7 d).toList=re.flatMap REdge.vals:=by
   rw [flatK_list _ 7 hk (by omega),← hd,List.flatMap_map]; rfl
  have hgl:g<w.heap.size:=(Array.getElem?_eq_some_iff.1 hg).1
  have hH:Go.Sort.HoldsK (encE w1) 7 w g 0 d:=by
   intro j hj
   rw [Go.Sort.size_flatK,hdn] at hj
   have hj2:j<(Go.Sort.flatK (encE w1) 7 d).size:=by rw [Go.Sort.size_flatK,hdn]; exact hj
   refine ⟨?_,by simp [World.frozen?,hg]⟩
   have e1:=hown0.cells (g:=g) rfl j _ (by rw [← hF,Array.getElem?_toList]; exact Array.getElem?_eq_getElem hj2)
   rw [add_none] at e1
   rw [e1,getElem!_pos _ j hj2]; rfl
  have hcon:=AnyQ.slices_SortFunc Tryz.sortL 7 Tryz.isAgg281 Tryz.sizeOf281 (encE w1) hk (fun x u hu=>evals_one x.e u hu) (cfE w1) (swoE w1) 246 #[] g 0 cap d w (enters_of Tryz.func246 (by kernel_rfl) rfl) (cmpLays w1 w g d.size hb (Nat.le_trans hbase hg0)) hH hgl (by rw [hdn]; exact hsz)
  rw [hdn] at hcon
  refine hcon.mono fun e w' ⟨he,d',m,os,hp,hs,hw⟩=>⟨he,d'.toList.map Laid.e,?_,?_,?_,?_⟩
  ·have h1:=hp.2.2
   rw [← hdn,Array.extract_size] at h1
   have h3:(d'.extract 0 d.size)=d':=by rw [← hp.1,Array.extract_size]
   rw [h3] at h1
   rw [← hd]; exact h1.map _
  ·rw [List.pairwise_map,List.pairwise_iff_getElem]
   intro i j hi hj hij
   have hi':i<d'.size:=by simpa using hi
   have hj':j<d'.size:=by simpa using hj
   have h1:=hs i j (Nat.zero_le _) hij (by rw [← hdn,← hp.1]; exact hj')
   unfold ltOf cfE at h1
   rw [decide_eq_false_iff_not,getElem!_pos d' i hi',getElem!_pos d' j hj'] at h1
   simpa using not_lt h1
  ·have hsz':(Go.Sort.flatK (encE w1) 7 d').size=re.length * 7:=by rw [Go.Sort.size_flatK,hp.1,hdn]
   have hF':(Go.Sort.flatK (encE w1) 7 d').toList=(d'.toList.map Laid.e).flatMap REdge.vals:=by
    rw [flatK_list _ 7 hk (by omega),List.flatMap_map]; rfl
   have hl':(d'.toList.map Laid.e).length=re.length:=by rw [List.length_map,Array.length_toList,hp.1,hdn]
   rw [hl',← hF']
   refine ⟨by rw [Array.length_toList]; exact hsz',.inr ⟨g,cap,Go.Sort.putCells id 0 (Go.Sort.flatK (encE w1) 7 d') cur,rfl,hg0,?_,hnc,hcm,by unfold Go.Sort.putCells; rw [Array.size_mapIdx]; exact hcs,?_⟩⟩
   ·rw [hw]
    unfold sortWorldK Go.Sort.putRowK Go.Sort.putRow Go.Sort.mapBlock Go.Sort.grow Go.Sort.ahead
    show ((w.heap.modify g _) ++ os)[g]?=_
    rw [Array.getElem?_append_left (by simpa using hgl),Array.getElem?_modify,if_pos rfl,hg]; rfl
   ·apply List.ext_getElem?
    intro t
    have hcs':re.length * 7≤cur.size:=by rw [hcs]; exact Nat.mul_le_mul_right 7 hnc
    by_cases ht:t<re.length * 7
    ·rw [List.getElem?_take_of_lt ht,Array.getElem?_toList,Array.getElem?_toList]
     unfold Go.Sort.putCells
     rw [Array.getElem?_mapIdx,Array.getElem?_eq_getElem (show t<cur.size by omega),Array.getElem?_eq_getElem (show t<(Go.Sort.flatK (encE w1) 7 d').size by omega)]
     simp only [Option.map_some]
     rw [if_pos ⟨Nat.zero_le _,by omega⟩,Nat.sub_zero,getElem!_pos _ t (by omega)]; rfl
    ·rw [List.getElem?_eq_none (by rw [List.length_take]; omega),List.getElem?_eq_none (by rw [Array.length_toList,hsz']; omega)]
  ·rw [hw]; exact grown_sort _ _ _ _ _ _ _ _
end Go.Proofs.YtgakcdcfblgagaaGreatDoor.Span
namespace Go.Proofs.YtgakcdcfblgagaaGreatDoor.Span
open Go.RowKit Num Ident Semver Prec

def EdgesJ (w:World) (n:Nat) (l:List RSp) (step:Int) (v iv:Value) (W:World):Prop :=
 ∃ (k:Nat) (re:List REdge),k≤n∧iv=.int .i64 k∧W.ownsRow w.heap.size 281 7 v re.length (re.flatMap REdge.vals)∧re.map REdge.edge=edgesOf ((l.take k).map RSp.sp) step∧(∀ e ∈ re,Lies w e.cut)∧re.length≤2 * k∧Below w.heap.size w W
def EdgesPost (w:World) (l:List RSp) (step:Int) (e:Ending) (w':World):Prop :=
 ∃ (v:Value) (re:List REdge),e=.returned v∧w'.ownsRow w.heap.size 281 7 v re.length (re.flatMap REdge.vals)∧re.map REdge.edge=edgesOf (l.map RSp.sp) step∧(∀ e ∈ re,Lies w e.cut)∧re.length≤2 * l.length∧Below w.heap.size w w'
theorem take_sp (l:List RSp) (k:Nat) (h:k<l.length):(l.take (k+1)).map RSp.sp=(l.take k).map RSp.sp ++ [(l.getD k default).sp]:=by
 rw [List.take_succ_eq_append_getElem h,List.map_append]; simp [List.getD,List.getElem?_eq_getElem h]

theorem edges_any (A:Option Addr) (n c:Nat) (l:List RSp) (step:Int) (w:World) (hr:SpRow w A n l) (hn:n≤100000) (h1:-10≤step) (h2:step≤10) :
  Calls Tryz.prog 215 #[.slice A n c,.int .i64 step] w (EdgesPost w l step):=by
 have HR:=Lib.hid hr
 have HL:=Lib.hid hr.1
 clear hr
 go_enter Tryz.func215,Tryz.ntmps215
 go_wp2
 go_loopw [5,10] (fun v i W=>EdgesJ w n l step v i W) (fun _ i _=>n - (intOf i).toNat)
 case atStart=>exact ⟨0,[],Nat.zero_le _,rfl,World.ownsRow_nil _ _ _ _,by simp [edgesOf],(fun e he=>by cases he),Nat.zero_le _,Below.refl _ _⟩
 case round =>
  obtain ⟨k,re,hk,rfl,hown,hmap,hlie,hlen,hbel⟩:=hrel
  have HO:=Lib.hid hown
  have HM:=Lib.hid hmap
  have HI:=Lib.hid hlie
  have HB:=Lib.hid hbel
  have hsz:=hbel.size
  clear hown hmap hlie hbel
  by_cases hlt:k<n
  ·obtain ⟨b,o,rfl,hb,hc⟩:=(HR.out.kept HB.out).2.2 (by omega)
   obtain ⟨x0,x1,x2,x3,x4,x5,x6,x7,x8,x9,x10,x11⟩:=SpRow.cells hc hlt
   have HS0:=Lib.hid (HR.out.lies hlt)
   have HS:=Lib.hid (HS0.out.kept HB.out)
   have HT:=Lib.hid (take_sp l k (by rw [HL.out]; exact hlt))
   clear hc
   generalize l.getD k default=s at x0 x1 x2 x3 x4 x5 x6 x7 x8 x9 x10 x11 HS HS0 HT
   have HW:Hid (Below w.heap.size w (wr.alloc (s.lo,s.hi))):=HB.out.alloc hsz _
   have HS1:=Lib.hid (HS.out.kept ((Below.refl wr.heap.size wr).alloc (Nat.le_refl _) (s.lo,s.hi)))
   have HO1:=Lib.hid (HO.out.alloc (s.lo,s.hi))
   have K1:Hid (At12B (wr.alloc (s.lo,s.hi)) wr.heap.size s.lo.kind s.lo.v.a s.lo.v.b s.lo.v.c (.slice s.lo.A s.lo.v.pre.length s.lo.c) (.slice s.lo.B s.lo.v.build.length s.lo.d) s.hi.kind s.hi.v.a s.hi.v.b s.hi.v.c (.slice s.hi.A s.hi.v.pre.length s.hi.c) (.slice s.hi.B s.hi.v.build.length s.hi.d)):=At12B.new wr _ _ _ _ _ _ _ _ _ _ _ _ _
   go_upto_region 5 with (fail)
   generalize wr.alloc (s.lo,s.hi)=W1 at HW HS1 HO1 K1 ⊢
   clear x0 x1 x2 x3 x4 x5 x6 x7 x8 x9 x10 x11
   obtain ⟨hz1,_,x0,x1,x2,x3,x4,x5,x6,x7,x8,x9,x10,x11⟩:=K1.out
   go_wp2_with fail
   refine (counts_any s _ HS1.out).mono ?_
   rintro e w2 ⟨rfl,hb2⟩
   have HW2:=Lib.hid (HW.out.trans (hb2.mono HW.out.size))
   have HO2:=Lib.hid (own_below HO1.out hb2)
   have K2:=Lib.hid (K1.out.kept hb2 hz1)
   clear hb2 hz1 x0 x1 x2 x3 x4 x5 x6 x7 x8 x9 x10 x11 HS1 HW HO1 K1
   obtain ⟨hz2,_,x0,x1,x2,x3,x4,x5,x6,x7,x8,x9,x10,x11⟩:=K2.out
   cases hcn:cnt s.sp
   ·have HN:Hid (re.map REdge.edge=edgesOf ((l.take (k+1)).map RSp.sp) step):=by unfold Hid; rw [HT.out,edgesOf_snoc_no _ _ hcn]; exact HM.out
    clear hcn
    go_wp2
    exact ⟨⟨k+1,re,by omega,by go_num,HO2.out,HN.out,HI.out,by omega,HW2.out⟩,by simp [intOf]; omega⟩
   ·have HN:Hid ((re ++ [REdge.mk s.lo step,REdge.mk s.hi (-step)]).map REdge.edge=edgesOf ((l.take (k+1)).map RSp.sp) step):=by
     unfold Hid; rw [HT.out,edgesOf_snoc_yes _ _ hcn,List.map_append,HM.out,Int.zero_sub]; rfl
    have HI2:Hid (∀ e ∈ re ++ [REdge.mk s.lo step,REdge.mk s.hi (-step)],Lies w e.cut):=fun e he=>by
     rcases List.mem_append.1 he with he | he
     ·exact HI.out e he
     ·rcases List.mem_cons.1 he with rfl | he
      ·exact HS0.out.lo
      ·rw [List.mem_singleton] at he; subst he; exact HS0.out.hi
    have HO3:=Lib.hid (HO2.out.alloc (.cells #[s.lo.kind,s.lo.v.a,s.lo.v.b,s.lo.v.c,.slice s.lo.A s.lo.v.pre.length s.lo.c,.slice s.lo.B s.lo.v.build.length s.lo.d,.int .i64 step,s.hi.kind,s.hi.v.a,s.hi.v.b,s.hi.v.c,.slice s.hi.A s.hi.v.pre.length s.hi.c,.slice s.hi.B s.hi.v.build.length s.hi.d,.int .i64 (-step)] 281))
    have HW3:=Lib.hid (HW2.out.alloc HW2.out.size (.cells #[s.lo.kind,s.lo.v.a,s.lo.v.b,s.lo.v.c,.slice s.lo.A s.lo.v.pre.length s.lo.c,.slice s.lo.B s.lo.v.build.length s.lo.d,.int .i64 step,s.hi.kind,s.hi.v.a,s.hi.v.b,s.hi.v.c,.slice s.hi.A s.hi.v.pre.length s.hi.c,.slice s.hi.B s.hi.v.build.length s.hi.d,.int .i64 (-step)] 281))
    have hz3:=HW2.out.size
    clear hcn
    go_wp2_with (first
     | (at_builtin; refine wpList_append_ed _ rfl _ _ rfl w.heap.size _ re.length re rfl HO3.out ⟨w2.heap.size,0,none⟩ 2 2 [REdge.mk s.lo step,REdge.mk s.hi (-step)] rfl rfl (news_new w2 _ _) (by omega) (by simp; omega) ?_; intro v4 w4 ho4 hb4; have HB4:=Lib.hid (HW3.out.trans hb4); have HO4:=Lib.hid ho4; clear ho4 hb4)
     | fail)
    refine ⟨⟨k+1,re ++ [REdge.mk s.lo step,REdge.mk s.hi (-step)],by omega,by go_num,?_,HN.out,HI2.out,by rw [List.length_append]; simp; omega,HB4.out⟩,by simp [intOf]; omega⟩
    rw [List.length_append]; exact HO4.out
  ·obtain rfl:k=n:=by omega
   have HN:Hid (re.map REdge.edge=edgesOf (l.map RSp.sp) step):=by have:=HM.out; rwa [List.take_of_length_le (by rw [HL.out]; exact Nat.le_refl _)] at this
   go_wp2
   refine bodyPost_ret (v:=u5) (by simp [results,Tryz.results215,go_sem]) rfl ⟨u5,re,rfl,HO.out,HN.out,HI.out,by rw [HL.out]; exact hlen,HB.out⟩

theorem atLeast_any (m:Int) (w:World) :
  Calls Tryz.prog 216 #[.int .i64 m] w fun e w'=>e=.returned (.func (.func 250) #[] #[.pointer (some ⟨w.heap.size,0,none⟩)])∧w'=w.alloc (.cells #[.int .i64 m] 3):=by
 go_enter Tryz.func216,Tryz.ntmps216
 go_wp2
 go_ret
 exact ⟨rfl,rfl⟩
theorem in_any (t m:Int) (b:Nat) (w:World) (h:w.cell? ⟨b,0,none⟩=some (.int .i64 m)) :
  Calls Tryz.prog 250 #[.int .i64 t,.pointer (some ⟨b,0,none⟩)] w fun e w'=>e=.returned (.bool (decide (m≤t)))∧w=w':=by
 by_cases hm:m≤t
 ·have HF:=Lib.hid (decide_eq_true hm)
  go_enter Tryz.func250,Tryz.ntmps250
  go_wp2
  go_ret
  exact ⟨by rw [HF.out]; rfl,rfl⟩
 ·have HF:=Lib.hid (decide_eq_false hm)
  have hd:decide (m≤t)=false:=HF.out
  go_enter Tryz.func250,Tryz.ntmps250
  go_wp2
  go_ret
  exact ⟨rfl,rfl⟩

end Go.Proofs.YtgakcdcfblgagaaGreatDoor.Span
namespace Go.Proofs.YtgakcdcfblgagaaGreatDoor.Span
open Go.RowKit Num Ident Semver Prec

theorem At6B.set4 {W:World} {b:Nat} {u0 u1 u2 u3 u4 u5:Value} (h:At6B W b u0 u1 u2 u3 u4 u5) (v:Value):At6B (W.setCell ⟨b,4,none⟩ v) b u0 u1 u2 u3 v u5:=by
 obtain ⟨h1,h2,c0,c1,c2,c3,c4,c5⟩:=h
 refine ⟨by simpa using h1,fun o=>by simp [go_sem,h2],?_,?_,?_,?_,?_,?_⟩ <;> simp [go_sem,c0,c1,c2,c3,c4,c5]
theorem At6B.set5 {W:World} {b:Nat} {u0 u1 u2 u3 u4 u5:Value} (h:At6B W b u0 u1 u2 u3 u4 u5) (v:Value):At6B (W.setCell ⟨b,5,none⟩ v) b u0 u1 u2 u3 u4 v:=by
 obtain ⟨h1,h2,c0,c1,c2,c3,c4,c5⟩:=h
 refine ⟨by simpa using h1,fun o=>by simp [go_sem,h2],?_,?_,?_,?_,?_,?_⟩ <;> simp [go_sem,c0,c1,c2,c3,c4,c5]
theorem At6B.beside {W:World} {b b' o:Nat} {u0 u1 u2 u3 u4 u5:Value} (h:At6B W b u0 u1 u2 u3 u4 u5) (hb:b≠b') (v:Value):At6B (W.setCell ⟨b',o,none⟩ v) b u0 u1 u2 u3 u4 u5:=by
 obtain ⟨h1,h2,c0,c1,c2,c3,c4,c5⟩:=h
 have k:∀ j,(W.setCell ⟨b',o,none⟩ v).cell? ⟨b,j,none⟩=W.cell? ⟨b,j,none⟩:=fun j=>World.cell?_setCell_other _ _ _ _ (by intro e; injection e with e; exact hb e.symm)
 exact ⟨by simpa using h1,fun o=>by simp [go_sem,h2],(k 0).trans c0,(k 1).trans c1,(k 2).trans c2,(k 3).trans c3,(k 4).trans c4,(k 5).trans c5⟩
def set6 (w:World) (b:Nat) (v0 v1 v2 v3 v4 v5:Value):World:=(((((w.setCell ⟨b,0,none⟩ v0).setCell ⟨b,1,none⟩ v1).setCell ⟨b,2,none⟩ v2).setCell ⟨b,3,none⟩ v3).setCell ⟨b,4,none⟩ v4).setCell ⟨b,5,none⟩ v5
theorem At6B.set6 {W:World} {b:Nat} {u0 u1 u2 u3 u4 u5:Value} (h:At6B W b u0 u1 u2 u3 u4 u5) (v0 v1 v2 v3 v4 v5:Value):At6B (Span.set6 W b v0 v1 v2 v3 v4 v5) b v0 v1 v2 v3 v4 v5:=by
 obtain ⟨h1,h2,c0,c1,c2,c3,c4,c5⟩:=h
 unfold Span.set6
 refine ⟨by simpa using h1,fun o=>by simp [go_sem,h2],?_,?_,?_,?_,?_,?_⟩ <;> simp [go_sem,c0,c1,c2,c3,c4,c5]
theorem below_set6 {B:Nat} {a w:World} (h:Below B a w) {b:Nat} (hb:B≤b) (v0 v1 v2 v3 v4 v5:Value):Below B a (Span.set6 w b v0 v1 v2 v3 v4 v5) :=
 (((((h.setCell (p:=⟨b,0,none⟩) hb v0).setCell (p:=⟨b,1,none⟩) hb v1).setCell (p:=⟨b,2,none⟩) hb v2).setCell (p:=⟨b,3,none⟩) hb v3).setCell (p:=⟨b,4,none⟩) hb v4).setCell (p:=⟨b,5,none⟩) hb v5
structure OwnC (w:World) (B:Nat) (r:RCut):Prop where
 own:w.ownsRow B 9 1 (.slice r.A r.v.pre.length r.c) r.v.pre.length (strs r.v.pre)
 rb:r.B=none
 rd:r.d=0
 build:r.v.build=[]
 fit:Fit r.v.pre
theorem OwnC.lies {w:World} {B:Nat} {r:RCut} (h:OwnC w B r):Lies w r:=by
 obtain ⟨A,c,e,_,hr⟩:=SRow.of_own h.own
 injection e with e1 e2 e3
 subst e1
 exact ⟨hr,by rw [h.build]; exact SRow.none_ _ _,h.fit,by rw [h.build]; exact Fit.nil⟩
theorem own_mono {w:World} {B B':Nat} {e:TypeId} {size:Nat} {v:Value} {n:Nat} {xs:List Value} (h:w.ownsRow B e size v n xs) (hB:B'≤B):w.ownsRow B' e size v n xs:=by
 refine ⟨h.1,?_⟩
 rcases h.2 with h2 | ⟨g,cap,cur,hv,hg,r⟩
 ·exact .inl h2
 ·exact .inr ⟨g,cap,cur,hv,Nat.le_trans hB hg,r⟩
theorem OwnC.mono {w:World} {B B':Nat} {r:RCut} (h:OwnC w B r) (hB:B'≤B):OwnC w B' r:=⟨own_mono h.own hB,h.rb,h.rd,h.build,h.fit⟩
theorem OwnC.kept {w w':World} {B:Nat} {r:RCut} (h:OwnC w B r) (hb:Below w.heap.size w w'):OwnC w' B r:=⟨own_below h.own hb,h.rb,h.rd,h.build,h.fit⟩
theorem OwnC.set {w:World} {B:Nat} {r:RCut} (h:OwnC w B r) {b o:Nat} (hb:b<B) (v:Value):OwnC (w.setCell ⟨b,o,none⟩ v) B r:=⟨ownsRow_setCell_below h.own hb v,h.rb,h.rd,h.build,h.fit⟩
theorem OwnC.set6 {w:World} {B:Nat} {r:RCut} (h:OwnC w B r) {b:Nat} (hb:b<B) (v0 v1 v2 v3 v4 v5:Value):OwnC (Span.set6 w b v0 v1 v2 v3 v4 v5) B r:=(((((h.set hb v0).set hb v1).set hb v2).set hb v3).set hb v4).set hb v5
theorem OwnC.grown {w w':World} {B B2:Nat} {r:RCut} {set:Value} {n:Nat} {xs:List Value} (h:OwnC w B r) (hs:w.ownsRow B2 196 12 set n xs) (hg:w.grownBy w' set.ownBlock):OwnC w' B r :=
 ⟨h.own.kept hg (own_apart h.own hs (by decide)),h.rb,h.rd,h.build,h.fit⟩
theorem wpList_append_row (w:World) {ops:Array Oper} {rest:List Oper} {o:Oper} {a:Act} {Q:Exit→Act→World→Prop} (hgd:o.guard=none) (s x:Operand)
  (ho:o.op=.call { callee:=.builtin .append,args:=#[s,x],argTypes:=#[35,35] })
  (base:Nat) (v:Value) (n:Nat) (xs:List (List UInt8)) (hs:a.eval s=v) (hown:w.ownsRow base 9 1 v n (strs xs))
  (A:Option Addr) (m c:Nat) (ys:List (List UInt8)) (hx:a.eval x=.slice A m c) (hr:SRow w A m ys) (hb:(n+m) * 16≤140737488355328) (hbase:base≤w.heap.size)
  (h:∀ v' w',w'.ownsRow base 9 1 v' (n+m) (strs (xs ++ ys))→Below base w w'→wpList Tryz.prog ops Q rest (a.put o.dst v') w'):wpList Tryz.prog ops Q (o :: rest) a w:=by
 cases A with
 | some ad=>exact wpList_append_strs w hgd s x ho base v n xs hs hown (some ad) m c ys hx hr (fun e=>by cases e) hb hbase h
 | none =>
  obtain ⟨rfl,rfl⟩:=hr.nil
  obtain ⟨i,hi,_⟩:=info_parts strInfo
  have hrun:(Builtin.append_ #[35,35] o.type #[v,.slice none 0 c]).run Tryz.prog w=.ok v w:=by
   rcases hown.2 with ⟨rfl,rfl⟩ | ⟨g,cap,cur,rfl,_,_,hnc,_⟩
   ·simp [Builtin.append_,run_underlying Tryz.underlying35,sizeOf,typeInfo,hi,Builtin.lenOf,Builtin.firstCells]
   ·simp [Builtin.append_,run_underlying Tryz.underlying35,sizeOf,typeInfo,hi,Builtin.lenOf,Builtin.firstCells,hnc,storeCells]
  refine wpList_plain hgd fun K hK=>?_
  unfold Oper.wp execOp
  simp only [ho,resolve,invoke,builtin,Sem.run_bind,Sem.run_pure,Result.andThen_ok,List.map_toArray,List.map_cons,List.map_nil,hs,hx,hrun]
  exact hK _ _ (h v w (by simpa using hown) (Below.refl _ _))
def CopiedPost (w:World) (r:RCut) (e:Ending) (w':World):Prop :=
 ∃ r':RCut,e=.returned r'∧r'.cut=⟨r.kind,bare r.v⟩∧OwnC w' w.heap.size r'∧Below w.heap.size w w'

theorem copied_any (r:RCut) (w:World) (h:Lies w r) (hn:r.v.pre.length≤1000) :
  Calls Tryz.prog 247 #[.agg #[r.kind,r.v.a,r.v.b,r.v.c,.slice r.A r.v.pre.length r.c,.slice r.B r.v.build.length r.d]] w (CopiedPost w r):=by
 have HBa:Hid (Below w.heap.size w ((w.alloc r).alloc true)):=((Below.refl _ _).alloc (Nat.le_refl _) _).alloc (by simp) _
 have HL:=Lib.hid (h.kept HBa.out)
 have K0:Hid (At6B ((w.alloc r).alloc true) w.heap.size r.kind r.v.a r.v.b r.v.c (.slice r.A r.v.pre.length r.c) (.slice r.B r.v.build.length r.d)):=(At6B.new w _ _ _ _ _ _ _).kept ((Below.refl _ _).alloc (Nat.le_refl _) _) (by simp)
 have J0:Hid (At6B ((w.alloc r).alloc true) (w.heap.size+1) (.int .i64 0) (.int .u64 0) (.int .u64 0) (.int .u64 0) (.slice none 0 0) (.slice none 0 0)):=by
  have:=At6B.new (w.alloc r) 193 (.int .i64 0) (.int .u64 0) (.int .u64 0) (.int .u64 0) (.slice none 0 0) (.slice none 0 0)
  rw [size_alloc] at this; exact this
 clear h
 go_enter Tryz.func247,Tryz.ntmps247
 go_upto_region 1 with (fail)
 generalize ((w.alloc r).alloc true)=W at HBa HL K0 J0 ⊢
 obtain ⟨hz,_,x0,x1,x2,x3,x4,x5⟩:=K0.out
 have hy:=J0.out.1
 go_upto_region 3 with (first
  | (at_builtin; refine wpList_append_row _ rfl _ _ rfl W.heap.size _ 0 [] rfl (World.ownsRow_nil _ _ _ _) r.A r.v.pre.length r.c r.v.pre rfl HL.out.pre (by omega) (Nat.le_refl _) ?_; intro v3 w3 ho hb3; rw [Nat.zero_add,List.nil_append] at ho; obtain ⟨A3,c3,rfl,hc3,hr3⟩:=SRow.of_own ho; have R3:Hid (OwnC w3 W.heap.size ⟨r.kind,bare r.v,A3,c3,none,0⟩):=⟨ho,rfl,rfl,rfl,HL.out.fpre⟩; have K1:=Lib.hid (K0.out.kept hb3 hz); have J1:=Lib.hid (J0.out.kept hb3 hy); have B1:=Lib.hid (HBa.out.trans (hb3.mono HBa.out.size)); have hz3:=hb3.size; clear ho hr3 hb3 x0 x1 x2 x3 x4 x5; obtain ⟨_,hf,x0,x1,x2,x3,x4,x5⟩:=K1.out)
  | fail)
 have K2:=Lib.hid ((K1.out.set4 (.slice A3 r.v.pre.length c3)).set5 (.slice none 0 0))
 have J2:=Lib.hid ((J1.out.beside (b':=w.heap.size) (o:=4) (by omega) (.slice A3 r.v.pre.length c3)).beside (b':=w.heap.size) (o:=5) (by omega) (.slice none 0 0))
 have R4:=Lib.hid ((R3.out.set (b:=w.heap.size) (o:=4) hz (.slice A3 r.v.pre.length c3)).set (b:=w.heap.size) (o:=5) hz (.slice none 0 0))
 have B2:=Lib.hid ((B1.out.setCell (p:=⟨w.heap.size,4,none⟩) (Nat.le_refl _) (.slice A3 r.v.pre.length c3)).setCell (p:=⟨w.heap.size,5,none⟩) (Nat.le_refl _) (.slice none 0 0))
 clear x0 x1 x2 x3 x4 x5 R3 K1 J1 B1 hf
 generalize (w3.setCell ⟨w.heap.size,4,none⟩ (.slice A3 r.v.pre.length c3)).setCell ⟨w.heap.size,5,none⟩ (.slice none 0 0)=W4 at K2 J2 R4 B2 ⊢
 obtain ⟨_,_,x0,x1,x2,x3,x4,x5⟩:=K2.out
 obtain ⟨_,hg,y0,y1,y2,y3,y4,y5⟩:=J2.out
 have K3:=Lib.hid (J2.out.set6 r.kind r.v.a r.v.b r.v.c (.slice A3 r.v.pre.length c3) (.slice none 0 0))
 have B3:=Lib.hid (below_set6 B2.out (b:=w.heap.size+1) (by omega) r.kind r.v.a r.v.b r.v.c (.slice A3 r.v.pre.length c3) (.slice none 0 0))
 have R5:Hid (OwnC (Span.set6 W4 (w.heap.size+1) r.kind r.v.a r.v.b r.v.c (.slice A3 r.v.pre.length c3) (.slice none 0 0)) W.heap.size ⟨r.kind,bare r.v,A3,c3,none,0⟩):=R4.out.set6 hy _ _ _ _ _ _
 go_wp2
 change bodyPost _ _ _ _ _ (Span.set6 W4 (w.heap.size+1) r.kind r.v.a r.v.b r.v.c (.slice A3 r.v.pre.length c3) (.slice none 0 0))
 generalize Span.set6 W4 (w.heap.size+1) r.kind r.v.a r.v.b r.v.c (.slice A3 r.v.pre.length c3) (.slice none 0 0)=W5 at K3 B3 R5 ⊢
 obtain ⟨_,_,z0,z1,z2,z3,z4,z5⟩:=K3.out
 exact bodyPost_ret (v:=.agg #[r.kind,r.v.a,r.v.b,r.v.c,.slice A3 r.v.pre.length c3,.slice none 0 0]) (by simp [results,Tryz.results247,go_sem,z0,z1,z2,z3,z4,z5]) rfl ⟨⟨r.kind,bare r.v,A3,c3,none,0⟩,rfl,rfl,R5.out.mono HBa.out.size,B3.out⟩
end Go.Proofs.YtgakcdcfblgagaaGreatDoor.Span
namespace Go.Proofs.YtgakcdcfblgagaaGreatDoor.Span
open Go.RowKit Num Ident Semver Prec

def EdSrc (w:World) (v:Value) (re:List REdge):Prop :=
 ∃ A c,v=.slice A re.length c∧(A=none→re=[]∧c=0)∧∀ ad,A=some ad→ad.block<w.heap.size∧∀ j u,(re.flatMap REdge.vals)[j]?=some u→w.cell? (ad.add j)=some u
theorem EdSrc.kept {w w':World} {v:Value} {re:List REdge} (h:EdSrc w v re) (hb:Below w.heap.size w w'):EdSrc w' v re:=by
 obtain ⟨A,c,rfl,h1,h2⟩:=h
 refine ⟨A,c,rfl,h1,fun ad ha=>?_⟩
 obtain ⟨h3,h4⟩:=h2 ad ha
 refine ⟨Nat.lt_of_lt_of_le h3 hb.size,fun j u hu=>?_⟩
 rw [hb.cell (by unfold Addr.add; split <;> exact h3)]; exact h4 j u hu
theorem EdSrc.of_own {w:World} {base:Nat} {v:Value} {re:List REdge} (h:w.ownsRow base 281 7 v re.length (re.flatMap REdge.vals)):EdSrc w v re:=by
 have hcs:=fun g=>h.cells (g:=g)
 have hlt:=h.lt
 rcases h.2 with ⟨rfl,h0⟩ | ⟨g,cap,cur,rfl,_,hg,_⟩
 ·have:re=[]:=List.eq_nil_of_length_eq_zero h0
  subst this
  exact ⟨none,0,rfl,fun _=>⟨rfl,rfl⟩,fun ad ha=>by cases ha⟩
 ·refine ⟨_,cap,rfl,(fun e=>by cases e),fun ad ha=>?_⟩
  injection ha with ha
  subst ha
  exact ⟨(hlt g rfl).2,fun j u hu=>hcs g rfl j u hu⟩
theorem run_append_ed (w:World) (ty:TypeId) (base:Nat) (v:Value) (n:Nat) (l:List REdge) (hown:w.ownsRow base 281 7 v n (l.flatMap REdge.vals)) (x:Value) (r:List REdge) (hr:EdSrc w x r) (hb:(n+r.length) * 88≤140737488355328) (hbase:base≤w.heap.size) :
  ∃ v' w',(Builtin.append_ #[278,278] ty #[v,x]).run Tryz.prog w=.ok v' w'∧w'.ownsRow base 281 7 v' (n+r.length) ((l ++ r).flatMap REdge.vals)∧w.grownBy w' v.ownBlock:=by
 obtain ⟨i,hi,hz,hs,hby⟩:=info_parts edInfo
 obtain ⟨A,c,rfl,h1,h2⟩:=hr
 cases A with
 | none =>
  obtain ⟨rfl,rfl⟩:=h1 rfl
  exact ⟨v,w,run_append_owned_none (P:=Tryz.prog) (w:=w) base 278 ty 281 i 7 Tryz.underlying278 hi v n _ hown,by simpa using hown,World.grownBy.refl w _⟩
 | some ad =>
  obtain ⟨v',w',h3,h4,h5,_⟩:=run_append_own (P:=Tryz.prog) w base 278 ty 281 i _ 7 88 Tryz.underlying278 hi hz hs hby rfl (by omega) v n _ hown ad r.length c (r.flatMap REdge.vals)
   (by rw [flat_len _ 7 evals_len]) (h2 ad rfl).2 (flat_one _ evals_one r) (by unfold maxLen; omega) hb hbase
  exact ⟨v',w',h3,by rw [List.flatMap_append]; exact h4,h5⟩
theorem wpList_append_eds (w:World) {ops:Array Oper} {rest:List Oper} {o:Oper} {a:Act} {Q:Exit→Act→World→Prop} (hgd:o.guard=none) (s x:Operand)
  (ho:o.op=.call { callee:=.builtin .append,args:=#[s,x],argTypes:=#[278,278] })
  (base:Nat) (v:Value) (n:Nat) (l:List REdge) (hs:a.eval s=v) (hown:w.ownsRow base 281 7 v n (l.flatMap REdge.vals)) (y:Value) (r:List REdge) (hx:a.eval x=y) (hr:EdSrc w y r) (hb:(n+r.length) * 88≤140737488355328) (hbase:base≤w.heap.size)
  (h:∀ v' w',w'.ownsRow base 281 7 v' (n+r.length) ((l ++ r).flatMap REdge.vals)→Below base w w'→wpList Tryz.prog ops Q rest (a.put o.dst v') w'):wpList Tryz.prog ops Q (o :: rest) a w:=by
 refine wpList_plain hgd fun K hK=>?_
 obtain ⟨v',w',hrun,h2,h3⟩:=run_append_ed w o.type base v n l hown y r hr hb hbase
 unfold Oper.wp execOp
 simp only [ho,resolve,invoke,builtin,Sem.run_bind,Sem.run_pure,Result.andThen_ok,List.map_toArray,List.map_cons,List.map_nil,hs,hx,hrun]
 exact hK _ _ (h v' w' h2 ((Below.refl base w).grown h3 hbase fun k hk=>(hown.lt k hk).1))
def GrowPost (w:World) (e:Ending) (w':World):Prop:=∃ v,e=.returned v∧w'.ownsRow w.heap.size 281 7 v 0 []∧Below w.heap.size w w'
theorem grow_any (n:Nat) (w:World) (hn:n≤1000000):Calls Tryz.prog 248 #[.slice none 0 0,.int .i64 n] w (GrowPost w):=by
 obtain ⟨i,hi,hz,hs,hby⟩:=info_parts edInfo
 by_cases h0:n=0
 ·subst h0
  exact (Any8.slices_Grow_room Tryz.growL none 0 0 0 w (Nat.le_refl _) (by omega) (by omega) (Nat.le_refl _)).mono fun e w' ⟨he,hw⟩=>by
   subst hw; exact ⟨_,he,World.ownsRow_nil _ _ _ _,Below.refl _ _⟩
 ·refine (Any8.slices_Grow_grow Tryz.growL i _ hi hz (by rw [hs]; omega) none 0 0 n [] w (Nat.le_refl _) (by omega) (by rw [hby]; omega) (by omega) (by simp) (fun _=>rfl) (fun a ha=>by cases ha)).mono fun e w' ⟨he,hw⟩=>?_
  have h1:=grownCap_ge w (0+n) 0 281
  have h2:=grownCap_le_maxLen w (0+n) 0 281 (by unfold maxLen; omega)
  refine ⟨_,he,?_,?_⟩
  ·rw [hw]
   refine World.ownsRow_made (base:=w.heap.size) (e:=281) (size:=7) w.drew _ _ (Nat.le_refl _) h2 ?_
   rw [Array.size_append,Array.size_append,size_zeroCells,size_zeroCells]
   show 0+(0+n - 0) * 7+(grownCap w (0+n) 0 281 - (0+n)) * 7=grownCap w (0+n) 0 281 * 7
   omega
  ·rw [hw]; exact ((Below.refl _ _).drew).alloc (Nat.le_refl _) _
def ConcatPost (w:World) (re:List REdge) (e:Ending) (w':World):Prop:=∃ v,e=.returned v∧w'.ownsRow w.heap.size 281 7 v re.length (re.flatMap REdge.vals)∧Below w.heap.size w w'
def upto (r1 r2:List REdge) (k:Nat):List REdge:=if k=0 then [] else if k=1 then r1 else r1 ++ r2
def ConcatJ (w:World) (r1 r2:List REdge) (v iv:Value) (W:World):Prop :=
 ∃ k:Nat,k≤2∧iv=.int .i64 k∧W.ownsRow w.heap.size 281 7 v (upto r1 r2 k).length ((upto r1 r2 k).flatMap REdge.vals)∧Below w.heap.size w W

theorem concat_any (q:Nat) (v1 v2:Value) (r1 r2:List REdge) (w:World) (hq:q<w.heap.size) (c1:w.cell? ⟨q,0,none⟩=some v1) (c2:w.cell? ⟨q,1,none⟩=some v2) (s1:EdSrc w v1 r1) (s2:EdSrc w v2 r2) (h1:r1.length≤100000) (h2:r2.length≤100000) :
  Calls Tryz.prog 214 #[.slice (some ⟨q,0,none⟩) 2 2] w (ConcatPost w (r1 ++ r2)):=by
 have S1:=Lib.hid s1
 have S2:=Lib.hid s2
 obtain ⟨A1,d1,rfl,_,_⟩:=s1
 obtain ⟨A2,d2,rfl,_,_⟩:=s2
 go_enter Tryz.func214,Tryz.ntmps214
 go_wp2
 go_loop [3,11] (fun n i=>∃ k:Nat,k≤2∧i=.int .i64 k∧n=.int .i64 ((upto r1 r2 k).length)) (fun _ i=>2 - (intOf i).toNat)
 case atStart=>exact ⟨0,by omega,rfl,rfl⟩
 case round =>
  obtain ⟨k,hk,rfl,rfl⟩:=hrel
  obtain rfl | rfl | rfl:k=0∨k=1∨k=2:=by omega
  ·have e0:(upto r1 r2 0).length=0:=rfl
   rw [e0]
   go_wp2
   exact ⟨⟨1,by omega,rfl,rfl⟩,by simp [intOf]⟩
  ·have e0:(upto r1 r2 1).length=r1.length:=rfl
   rw [e0]
   go_wp2
   exact ⟨⟨2,by omega,rfl,by show _=Value.int .i64 (((r1 ++ r2).length:Nat):Int); rw [List.length_append,Int.natCast_add]⟩,by simp [intOf]⟩
  ·have e0:(upto r1 r2 2).length=r1.length+r2.length:=by show (r1 ++ r2).length=_; rw [List.length_append]
   rw [e0]
   have HG:Hid (Calls Tryz.prog 248 #[.slice none 0 0,.int .i64 ((r1.length:Int)+(r2.length:Int))] w (GrowPost w)):=by
    have:=grow_any (r1.length+r2.length) w (by omega); rw [Int.natCast_add] at this; exact this
   clear e0
   go_wp2_with fail
   refine HG.out.mono ?_
   rintro e w1 ⟨v,rfl,ho,hb⟩
   have HO:=Lib.hid ho
   have HB:=Lib.hid hb
   clear ho hb HG
   go_wp2
   go_loopw [6,27] (fun v i W=>ConcatJ w r1 r2 v i W) (fun _ i _=>2 - (intOf i).toNat)
   case atStart=>exact ⟨0,by omega,rfl,HO.out,HB.out⟩
   case round =>
    obtain ⟨k,hk,rfl,hown,hbel⟩:=hrel
    have HO1:=Lib.hid hown
    have HB1:=Lib.hid hbel
    have hsz:=hbel.size
    have T1:=Lib.hid (S1.out.kept hbel)
    have T2:=Lib.hid (S2.out.kept hbel)
    have x1:=(hbel.cell (p:=⟨q,0,none⟩) hq).trans c1
    have x2:=(hbel.cell (p:=⟨q,1,none⟩) hq).trans c2
    clear hown hbel HO HB
    obtain rfl | rfl | rfl:k=0∨k=1∨k=2:=by omega
    ·go_wp2_with (first
      | (at_builtin; refine wpList_append_eds _ rfl _ _ rfl w.heap.size _ 0 [] rfl HO1.out _ r1 rfl T1.out (by omega) hsz ?_; intro v4 w4 ho4 hb4; have HB4:=Lib.hid (HB1.out.trans hb4); have HO4:=Lib.hid ho4; clear ho4 hb4)
      | fail)
     refine ⟨⟨1,by omega,rfl,?_,HB4.out⟩,by simp [intOf]⟩
     have:=HO4.out
     rw [Nat.zero_add,List.nil_append] at this
     exact this
    ·go_wp2_with (first
      | (at_builtin; refine wpList_append_eds _ rfl _ _ rfl w.heap.size _ r1.length r1 rfl HO1.out _ r2 rfl T2.out (by omega) hsz ?_; intro v4 w4 ho4 hb4; have HB4:=Lib.hid (HB1.out.trans hb4); have HO4:=Lib.hid ho4; clear ho4 hb4)
      | fail)
     refine ⟨⟨2,by omega,rfl,?_,HB4.out⟩,by simp [intOf]⟩
     have:=HO4.out
     rw [← List.length_append] at this
     exact this
    ·go_wp2
     exact bodyPost_ret (v:=u6) (by simp [results,Tryz.results214,go_sem]) rfl ⟨u6,rfl,HO1.out,HB1.out⟩
end Go.Proofs.YtgakcdcfblgagaaGreatDoor.Span
