/-
  What the theorem of the last text needs of these: SpConcat, SpSort, SpEdges, SpHas. Conditions: as each theorem states.
-/
import Derived.Test.YtnpjklaaokiikaaGreatDoorSvA1
import Derived.Test.YtnpjklaaokiikaaGreatDoorSvA11
import Derived.Test.YtnpjklaaokiikaaGreatDoorShelfGrow
import Derived.Test.YtnpjklaaokiikaaGreatDoorShelfSort
import Derived.Shelf.SlSortCmp.NoneTotal
import Derived.Lib.QuietBelow
import Derived.Test.YtnpjklaaokiikaaGreatDoorShelfHas
import Derived.RegionTactic
import Derived.ChangeAlike
set_option maxRecDepth 100000
set_option maxHeartbeats 25600000
namespace Go.Proofs.YtnpjklaaokiikaaGreatDoor.Span
open Go.RowKit Num Ident Semver Prec

def EdSrc (w:World) (v:Value) (re:List REdge):Prop :=
 ∃ A c,v=.slice A re.length c∧(A=none→re=[]∧c=0)∧∀ ad,A=some ad→ad.block<w.heap.size∧∀ j u,(re.flatMap REdge.vals)[j]?=some u→w.cell? (ad.add j)=some u
theorem EdSrc.kept {w w':World} {v:Value} {re:List REdge} (h:EdSrc w v re) (hb:Below w.heap.size w w'):EdSrc w' v re:=by
 obtain ⟨A,c,rfl,h1,h2⟩:=h
 refine ⟨A,c,rfl,h1,fun ad ha=>?_⟩
 obtain ⟨h3,h4⟩:=h2 ad ha
 refine ⟨Nat.lt_of_lt_of_le h3 hb.size,fun j u hu=>?_⟩
 rw [hb.cell (by unfold Addr.add; split <;> exact h3)]; exact h4 j u hu
theorem EdSrc.of_own {w:World} {base:Nat} {v:Value} {re:List REdge} (h:w.ownsRow base 268 7 v re.length (re.flatMap REdge.vals)):EdSrc w v re:=by
 have hcs:=fun g=>h.cells (g:=g)
 have hlt:=h.lt
 rcases h.2 with ⟨rfl,h0⟩ | ⟨g,cap,cur,rfl,_,hg,_⟩
 ·have:re=[]:=List.eq_nil_of_length_eq_zero h0
  subst this
  exact ⟨none,0,rfl,fun _=>⟨rfl,rfl⟩,fun ad ha=>by cases ha⟩
 ·refine ⟨_,cap,rfl,(fun e=>by cases e),fun ad ha=>?_⟩
  injection ha with ha
  subst ha
  exact ⟨(hlt g rfl).2,fun j u hu=>hcs g rfl j u hu⟩
theorem run_append_ed (w:World) (ty:TypeId) (base:Nat) (v:Value) (n:Nat) (l:List REdge) (hown:w.ownsRow base 268 7 v n (l.flatMap REdge.vals)) (x:Value) (r:List REdge) (hr:EdSrc w x r) (hb:(n+r.length) * 88≤140737488355328) (hbase:base≤w.heap.size) :
  ∃ v' w',(Builtin.append_ #[265,265] ty #[v,x]).run Tryz.prog w=.ok v' w'∧w'.ownsRow base 268 7 v' (n+r.length) ((l ++ r).flatMap REdge.vals)∧w.grownBy w' v.ownBlock:=by
 obtain ⟨i,hi,hz,hs,hby⟩:=info_parts edInfo
 obtain ⟨A,c,rfl,h1,h2⟩:=hr
 cases A with
 | none =>
  obtain ⟨rfl,rfl⟩:=h1 rfl
  exact ⟨v,w,run_append_owned_none (P:=Tryz.prog) (w:=w) base 265 ty 268 i 7 Tryz.underlying265 hi v n _ hown,by simpa using hown,World.grownBy.refl w _⟩
 | some ad =>
  obtain ⟨v',w',h3,h4,h5,_⟩:=run_append_own (P:=Tryz.prog) w base 265 ty 268 i _ 7 88 Tryz.underlying265 hi hz hs hby rfl (by omega) v n _ hown ad r.length c (r.flatMap REdge.vals)
   (by rw [flat_len _ 7 evals_len]) (h2 ad rfl).2 (flat_one _ evals_one r) (by unfold maxLen; omega) hb hbase
  exact ⟨v',w',h3,by rw [List.flatMap_append]; exact h4,h5⟩
theorem wpList_append_eds (w:World) {ops:Array Oper} {rest:List Oper} {o:Oper} {a:Act} {Q:Exit→Act→World→Prop} (hgd:o.guard=none) (s x:Operand)
  (ho:o.op=.call { callee:=.builtin .append,args:=#[s,x],argTypes:=#[265,265] })
  (base:Nat) (v:Value) (n:Nat) (l:List REdge) (hs:a.eval s=v) (hown:w.ownsRow base 268 7 v n (l.flatMap REdge.vals)) (y:Value) (r:List REdge) (hx:a.eval x=y) (hr:EdSrc w y r) (hb:(n+r.length) * 88≤140737488355328) (hbase:base≤w.heap.size)
  (h:∀ v' w',w'.ownsRow base 268 7 v' (n+r.length) ((l ++ r).flatMap REdge.vals)→Below base w w'→wpList Tryz.prog ops Q rest (a.put o.dst v') w'):wpList Tryz.prog ops Q (o :: rest) a w:=by
 refine wpList_plain hgd fun K hK=>?_
 obtain ⟨v',w',hrun,h2,h3⟩:=run_append_ed w o.type base v n l hown y r hr hb hbase
 unfold Oper.wp execOp
 simp only [ho,resolve,invoke,builtin,Sem.run_bind,Sem.run_pure,Result.andThen_ok,List.map_toArray,List.map_cons,List.map_nil,hs,hx,hrun]
 exact hK _ _ (h v' w' h2 ((Below.refl base w).grown h3 hbase fun k hk=>(hown.lt k hk).1))
def GrowPost (w:World) (e:Ending) (w':World):Prop:=∃ v,e=.returned v∧w'.ownsRow w.heap.size 268 7 v 0 []∧Below w.heap.size w w'
theorem grow_any (n:Nat) (w:World) (hn:n≤1000000):Calls Tryz.prog 249 #[.slice none 0 0,.int .i64 n] w (GrowPost w):=by
 obtain ⟨i,hi,hz,hs,hby⟩:=info_parts edInfo
 by_cases h0:n=0
 ·subst h0
  exact (Any8.slices_Grow_room Tryz.growL none 0 0 0 w (Nat.le_refl _) (by omega) (by omega) (Nat.le_refl _)).mono fun e w' ⟨he,hw⟩=>by
   subst hw; exact ⟨_,he,World.ownsRow_nil _ _ _ _,Below.refl _ _⟩
 ·refine (Any8.slices_Grow_grow Tryz.growL i _ hi hz (by rw [hs]; omega) none 0 0 n [] w (Nat.le_refl _) (by omega) (by rw [hby]; omega) (by omega) (by simp) (fun _=>rfl) (fun a ha=>by cases ha)).mono fun e w' ⟨he,hw⟩=>?_
  have h1:=grownCap_ge w (0+n) 0 268
  have h2:=grownCap_le_maxLen w (0+n) 0 268 (by unfold maxLen; omega)
  refine ⟨_,he,?_,?_⟩
  ·rw [hw]
   refine World.ownsRow_made (base:=w.heap.size) (e:=268) (size:=7) w.drew _ _ (Nat.le_refl _) h2 ?_
   rw [Array.size_append,Array.size_append,size_zeroCells,size_zeroCells]
   show 0+(0+n - 0) * 7+(grownCap w (0+n) 0 268 - (0+n)) * 7=grownCap w (0+n) 0 268 * 7
   omega
  ·rw [hw]; exact ((Below.refl _ _).drew).alloc (Nat.le_refl _) _
def ConcatPost (w:World) (re:List REdge) (e:Ending) (w':World):Prop:=∃ v,e=.returned v∧w'.ownsRow w.heap.size 268 7 v re.length (re.flatMap REdge.vals)∧Below w.heap.size w w'
def upto (r1 r2:List REdge) (k:Nat):List REdge:=if k=0 then [] else if k=1 then r1 else r1 ++ r2
def ConcatJ (w:World) (r1 r2:List REdge) (v iv:Value) (W:World):Prop :=
 ∃ k:Nat,k≤2∧iv=.int .i64 k∧W.ownsRow w.heap.size 268 7 v (upto r1 r2 k).length ((upto r1 r2 k).flatMap REdge.vals)∧Below w.heap.size w W

theorem concat_any (q:Nat) (v1 v2:Value) (r1 r2:List REdge) (w:World) (hq:q<w.heap.size) (c1:w.cell? ⟨q,0,none⟩=some v1) (c2:w.cell? ⟨q,1,none⟩=some v2) (s1:EdSrc w v1 r1) (s2:EdSrc w v2 r2) (h1:r1.length≤100000) (h2:r2.length≤100000) :
  Calls Tryz.prog 221 #[.slice (some ⟨q,0,none⟩) 2 2] w (ConcatPost w (r1 ++ r2)):=by
 have S1:=Lib.hid s1
 have S2:=Lib.hid s2
 obtain ⟨A1,d1,rfl,_,_⟩:=s1
 obtain ⟨A2,d2,rfl,_,_⟩:=s2
 go_enter Tryz.func221,Tryz.ntmps221
 go_wp2
 go_loop [3,11] (fun n i=>∃ k:Nat,k≤2∧i=.int .i64 k∧n=.int .i64 ((upto r1 r2 k).length)) (fun _ i=>2 - (intOf i).toNat)
 case atStart=>exact ⟨0,by omega,rfl,rfl⟩
 case round =>
  obtain ⟨k,hk,rfl,rfl⟩:=hrel
  obtain rfl | rfl | rfl:k=0∨k=1∨k=2:=by omega
  ·have e0:(upto r1 r2 0).length=0:=rfl
   rw [e0]
   go_wp2
   exact ⟨⟨1,by omega,rfl,rfl⟩,by simp [intOf]⟩
  ·have e0:(upto r1 r2 1).length=r1.length:=rfl
   rw [e0]
   go_wp2
   exact ⟨⟨2,by omega,rfl,by show _=Value.int .i64 (((r1 ++ r2).length:Nat):Int); rw [List.length_append,Int.natCast_add]⟩,by simp [intOf]⟩
  ·have e0:(upto r1 r2 2).length=r1.length+r2.length:=by show (r1 ++ r2).length=_; rw [List.length_append]
   rw [e0]
   have HG:Hid (Calls Tryz.prog 249 #[.slice none 0 0,.int .i64 ((r1.length:Int)+(r2.length:Int))] w (GrowPost w)):=by
    have:=grow_any (r1.length+r2.length) w (by omega); rw [Int.natCast_add] at this; exact this
   clear e0
   go_wp2_with fail
   refine HG.out.mono ?_
   rintro e w1 ⟨v,rfl,ho,hb⟩
   have HO:=Lib.hid ho
   have HB:=Lib.hid hb
   clear ho hb HG
   go_wp2
   go_loopw [6,27] (fun v i W=>ConcatJ w r1 r2 v i W) (fun _ i _=>2 - (intOf i).toNat)
   case atStart=>exact ⟨0,by omega,rfl,HO.out,HB.out⟩
   case round =>
    obtain ⟨k,hk,rfl,hown,hbel⟩:=hrel
    have HO1:=Lib.hid hown
    have HB1:=Lib.hid hbel
    have hsz:=hbel.size
    have T1:=Lib.hid (S1.out.kept hbel)
    have T2:=Lib.hid (S2.out.kept hbel)
    have x1:=(hbel.cell (p:=⟨q,0,none⟩) hq).trans c1
    have x2:=(hbel.cell (p:=⟨q,1,none⟩) hq).trans c2
    clear hown hbel HO HB
    obtain rfl | rfl | rfl:k=0∨k=1∨k=2:=by omega
    ·go_wp2_with (first
      | (at_builtin; refine wpList_append_eds _ rfl _ _ rfl w.heap.size _ 0 [] rfl HO1.out _ r1 rfl T1.out (by omega) hsz ?_; intro v4 w4 ho4 hb4; have HB4:=Lib.hid (HB1.out.trans hb4); have HO4:=Lib.hid ho4; clear ho4 hb4)
      | fail)
     refine ⟨⟨1,by omega,rfl,?_,HB4.out⟩,by simp [intOf]⟩
     have:=HO4.out
     rw [Nat.zero_add,List.nil_append] at this
     exact this
    ·go_wp2_with (first
      | (at_builtin; refine wpList_append_eds _ rfl _ _ rfl w.heap.size _ r1.length r1 rfl HO1.out _ r2 rfl T2.out (by omega) hsz ?_; intro v4 w4 ho4 hb4; have HB4:=Lib.hid (HB1.out.trans hb4); have HO4:=Lib.hid ho4; clear ho4 hb4)
      | fail)
     refine ⟨⟨2,by omega,rfl,?_,HB4.out⟩,by simp [intOf]⟩
     have:=HO4.out
     rw [← List.length_append] at this
     exact this
    ·go_wp2
     exact bodyPost_ret (v:=u6) (by simp [results,Tryz.results221,go_sem]) rfl ⟨u6,rfl,HO1.out,HB1.out⟩
end Go.Proofs.YtnpjklaaokiikaaGreatDoor.Span
namespace Go.Proofs.YtnpjklaaokiikaaGreatDoor.Span
open Go.RowKit Num Ident Semver Prec

theorem sw1_anyD (x y:REdge) (w:World) (h1:Lies w x.cut) (h2:Lies w y.cut) :
  Calls Tryz.prog 247 #[.agg #[x.cut.kind,x.cut.v.a,x.cut.v.b,x.cut.v.c,.slice x.cut.A x.cut.v.pre.length x.cut.c,.slice x.cut.B x.cut.v.build.length x.cut.d,.int .i64 x.step],.agg #[y.cut.kind,y.cut.v.a,y.cut.v.b,y.cut.v.c,.slice y.cut.A y.cut.v.pre.length y.cut.c,.slice y.cut.B y.cut.v.build.length y.cut.d,.int .i64 y.step]] w fun e w'=>e=.returned (.int .i64 (stand x.cut.cut y.cut.cut))∧BelowD w.heap.size w w':=by
 have HBa:Hid (BelowD w.heap.size w ((w.alloc (.cells #[x.cut.kind,x.cut.v.a,x.cut.v.b,x.cut.v.c,.slice x.cut.A x.cut.v.pre.length x.cut.c,.slice x.cut.B x.cut.v.build.length x.cut.d,.int .i64 x.step] 268)).alloc (.cells #[y.cut.kind,y.cut.v.a,y.cut.v.b,y.cut.v.c,.slice y.cut.A y.cut.v.pre.length y.cut.c,.slice y.cut.B y.cut.v.build.length y.cut.d,.int .i64 y.step] 268))):=((BelowD.refl _ _).alloc (Nat.le_refl _) _).alloc (by simp) _
 have HL:=Lib.hid (h1.kept HBa.out.toBelow)
 have HM:=Lib.hid (h2.kept HBa.out.toBelow)
 have K0:Hid (At7B ((w.alloc (.cells #[x.cut.kind,x.cut.v.a,x.cut.v.b,x.cut.v.c,.slice x.cut.A x.cut.v.pre.length x.cut.c,.slice x.cut.B x.cut.v.build.length x.cut.d,.int .i64 x.step] 268)).alloc (.cells #[y.cut.kind,y.cut.v.a,y.cut.v.b,y.cut.v.c,.slice y.cut.A y.cut.v.pre.length y.cut.c,.slice y.cut.B y.cut.v.build.length y.cut.d,.int .i64 y.step] 268)) w.heap.size x.cut.kind x.cut.v.a x.cut.v.b x.cut.v.c (.slice x.cut.A x.cut.v.pre.length x.cut.c) (.slice x.cut.B x.cut.v.build.length x.cut.d) (.int .i64 x.step)):=(At7B.new w _ _ _ _ _ _ _ _).kept ((Below.refl _ _).alloc (Nat.le_refl _) _) (by simp)
 have J0:Hid (At7B ((w.alloc (.cells #[x.cut.kind,x.cut.v.a,x.cut.v.b,x.cut.v.c,.slice x.cut.A x.cut.v.pre.length x.cut.c,.slice x.cut.B x.cut.v.build.length x.cut.d,.int .i64 x.step] 268)).alloc (.cells #[y.cut.kind,y.cut.v.a,y.cut.v.b,y.cut.v.c,.slice y.cut.A y.cut.v.pre.length y.cut.c,.slice y.cut.B y.cut.v.build.length y.cut.d,.int .i64 y.step] 268)) (w.heap.size+1) y.cut.kind y.cut.v.a y.cut.v.b y.cut.v.c (.slice y.cut.A y.cut.v.pre.length y.cut.c) (.slice y.cut.B y.cut.v.build.length y.cut.d) (.int .i64 y.step)):=by
  have:=At7B.new (w.alloc (.cells #[x.cut.kind,x.cut.v.a,x.cut.v.b,x.cut.v.c,.slice x.cut.A x.cut.v.pre.length x.cut.c,.slice x.cut.B x.cut.v.build.length x.cut.d,.int .i64 x.step] 268)) 268 y.cut.kind y.cut.v.a y.cut.v.b y.cut.v.c (.slice y.cut.A y.cut.v.pre.length y.cut.c) (.slice y.cut.B y.cut.v.build.length y.cut.d) (.int .i64 y.step)
  rw [size_alloc] at this; exact this
 clear h1 h2
 go_enter Tryz.func247,Tryz.ntmps247
 go_upto_region 1 with (fail)
 generalize ((w.alloc (.cells #[x.cut.kind,x.cut.v.a,x.cut.v.b,x.cut.v.c,.slice x.cut.A x.cut.v.pre.length x.cut.c,.slice x.cut.B x.cut.v.build.length x.cut.d,.int .i64 x.step] 268)).alloc (.cells #[y.cut.kind,y.cut.v.a,y.cut.v.b,y.cut.v.c,.slice y.cut.A y.cut.v.pre.length y.cut.c,.slice y.cut.B y.cut.v.build.length y.cut.d,.int .i64 y.step] 268))=W at HBa HL HM K0 J0 ⊢
 obtain ⟨hz,_,x0,x1,x2,x3,x4,x5,x6⟩:=K0.out
 obtain ⟨hy,_,y0,y1,y2,y3,y4,y5,y6⟩:=J0.out
 go_wp2_with fail
 refine (stand_anyD x.cut y.cut _ HL.out HM.out).mono ?_
 rintro e w1 ⟨rfl,hb1⟩
 have B1:=Lib.hid (HBa.out.trans (hb1.mono HBa.out.size))
 clear hb1 x0 x1 x2 x3 x4 x5 x6 y0 y1 y2 y3 y4 y5 y6
 go_wp2
 go_ret
 exact ⟨rfl,B1.out⟩

theorem grow_of {w w':World} (h:BelowD w.heap.size w w'):∃ q os',w'=Go.Sort.grow (w.drewN q) os':=by
 obtain ⟨p,hp⟩:=regrown_of_below h.toBelow
 have hd:w'.drawn=p.d:=by rw [hp]; rfl
 have hle:=h.drawn
 refine ⟨p.d - w.drawn,p.os,?_⟩
 rw [hp]
 unfold Go.Sort.grow redrawn World.drewN
 simp only [World.mk.injEq,true_and,and_true]
 omega
structure Laid (w:World) where
 e:REdge
 h:Lies w e.cut
instance (w:World):Inhabited (Laid w):=⟨⟨⟨rlow,0⟩,Lies.low w⟩⟩
def encE (w:World) (x:Laid w):List Value:=x.e.vals
def cfE (w:World) (x y:Laid w):Int:=stand x.e.cut.cut y.e.cut.cut
theorem swoE (w:World):Go.Sort.SWO (ltOf (cfE w)):=by
 refine ⟨fun x=>?_,fun x y z h1 h2=>?_,fun x y z h1 h2=>?_⟩
 ·unfold ltOf cfE; rw [stand_self]; rfl
 ·unfold ltOf cfE at *; rw [decide_eq_true_eq] at *; exact lt_lt h1 h2
 ·unfold ltOf cfE at *
  rw [decide_eq_false_iff_not] at *
  have a:=not_lt h1
  have b:=not_lt h2
  exact le_not (le_le b a)
theorem below_sort {α:Type} [Inhabited α] (enc:α→List Value) (k:Nat) (w:World) (blk off m:Nat) (d:Array α) (os:Array Obj) (B:Nat) (hB:B≤blk) (hw:B≤w.heap.size):Below B w (sortWorldK enc k w blk off m d os):=by
 unfold sortWorldK Go.Sort.putRowK Go.Sort.putRow Go.Sort.mapBlock Go.Sort.grow Go.Sort.ahead
 refine ⟨rfl,rfl,rfl,by simp,fun i hi=>?_⟩
 rw [Array.getElem?_append_left (by simp; omega),Array.getElem?_modify,if_neg (by omega)]
theorem grown_sort {α:Type} [Inhabited α] (enc:α→List Value) (k:Nat) (w:World) (blk off m:Nat) (d:Array α) (os:Array Obj):w.grownBy (sortWorldK enc k w blk off m d os) (some blk):=by
 unfold sortWorldK Go.Sort.putRowK Go.Sort.putRow Go.Sort.mapBlock Go.Sort.grow Go.Sort.ahead
 refine ⟨rfl,rfl,rfl,by simp,fun i hi hne=>?_⟩
 rw [Array.getElem?_append_left (by simpa using hi),Array.getElem?_modify,if_neg (fun e=>hne (by rw [e]))]
theorem flatK_list {α:Type} [Inhabited α] (enc:α→List Value) (k:Nat) (hk:∀ x,(enc x).length=k) (h0:0<k) (d:Array α):(Go.Sort.flatK enc k d).toList=d.toList.flatMap enc:=by
 apply List.ext_getElem?
 intro t
 by_cases ht:t<d.size * k
 ·have hq:t / k<d.size:=Nat.div_lt_of_lt_mul (by rw [Nat.mul_comm]; exact ht)
  have hm:t % k<k:=Nat.mod_lt _ h0
  have e1:t=t / k * k+t % k:=by rw [Nat.mul_comm]; exact (Nat.div_add_mod t k).symm
  have e2:=flat_get enc k hk d.toList (t / k) (t % k) (by simpa using hq) hm
  rw [← e1] at e2
  rw [e2,Array.getElem?_toList,Array.getElem?_eq_getElem (by rw [Go.Sort.size_flatK]; exact ht)]
  have e3:=Go.Sort.get_flatK enc k d t ht
  rw [getElem!_pos _ t (by rw [Go.Sort.size_flatK]; exact ht)] at e3
  rw [e3]
  have e4:d.toList.getD (t / k) default=d[t / k]!:=by
   rw [getElem!_pos d _ hq]; simp [List.getD,hq]
  rw [e4,getElem!_pos _ (t % k) (by rw [hk]; exact hm),List.getElem?_eq_getElem]
 ·rw [List.getElem?_eq_none (by simp [Go.Sort.size_flatK]; omega),List.getElem?_eq_none (by rw [flat_len _ k hk]; simp; omega)]

theorem cmpLays (w1 w:World) (blk n:Nat) (hb:Below w1.heap.size w1 w) (hblk:w1.heap.size≤blk):CmpLays Tryz.prog 247 #[] (encE w1) 7 (cfE w1) blk 0 n w:=by
 intro m os dk _ x y
 have hB:Below w1.heap.size w1 (sortWorldK (encE w1) 7 w blk 0 m dk os):=hb.trans (below_sort _ _ _ _ _ _ _ _ _ hblk hb.size)
 generalize sortWorldK (encE w1) 7 w blk 0 m dk os=W at hB ⊢
 have h:=sw1_anyD x.e y.e W (x.h.kept hB) (y.h.kept hB)
 rw [Array.append_empty]
 exact h.mono fun e w' ⟨he,hw⟩=>⟨he,grow_of hw⟩
def SortPost (w:World) (base:Nat) (v:Value) (re:List REdge) (e:Ending) (w':World):Prop :=
 e=.returned (.tuple #[])∧∃ re':List REdge,re'.Perm re∧(re'.Pairwise fun x y=>stand x.cut.cut y.cut.cut≤0)∧w'.ownsRow base 268 7 v re'.length (re'.flatMap REdge.vals)∧w.grownBy w' v.ownBlock

theorem sort_any (w1 w:World) (base:Nat) (v:Value) (re:List REdge) (hown:w.ownsRow base 268 7 v re.length (re.flatMap REdge.vals)) (hl:∀ e ∈ re,Lies w1 e.cut) (hb:Below w1.heap.size w1 w) (hbase:w1.heap.size≤base) (hsz:re.length<4611686018427387904) :
  Calls Tryz.prog 246 #[v,.func (.func 247) #[] #[]] w (SortPost w base v re):=by
 have hown0:=hown
 obtain ⟨hlen,h2⟩:=hown
 rcases h2 with ⟨rfl,h0⟩ | ⟨g,cap,cur,rfl,hg0,hg,hnc,hcm,hcs,htk⟩
 ·have hre:re=[]:=List.eq_nil_of_length_eq_zero h0
  subst hre
  exact (AnyF.slices_SortFunc_none Tryz.sortL none 0 (.func (.func 247) #[] #[]) w).mono fun e w' ⟨he,hw⟩=>by
   subst hw
   exact ⟨he,[],List.Perm.refl _,List.Pairwise.nil,hown0,World.grownBy.refl _ _⟩
 ·obtain ⟨d,hd⟩:∃ d:Array (Laid w1),d.toList.map Laid.e=re:=⟨(re.pmap (fun e h=>(⟨e,h⟩:Laid w1)) hl).toArray,by simp [List.map_pmap]⟩
  have hdn:d.size=re.length:=by rw [← hd]; simp
  have hk:∀ x:Laid w1,(encE w1 x).length=7:=fun _=>rfl
  have hF:(Go.Sort.flatK (encE w1) 7 d).toList=re.flatMap REdge.vals:=by
   rw [flatK_list _ 7 hk (by omega),← hd,List.flatMap_map]; rfl
  have hgl:g<w.heap.size:=(Array.getElem?_eq_some_iff.1 hg).1
  have hH:Go.Sort.HoldsK (encE w1) 7 w g 0 d:=by
   intro j hj
   rw [Go.Sort.size_flatK,hdn] at hj
   have hj2:j<(Go.Sort.flatK (encE w1) 7 d).size:=by rw [Go.Sort.size_flatK,hdn]; exact hj
   refine ⟨?_,by simp [World.frozen?,hg]⟩
   have e1:=hown0.cells (g:=g) rfl j _ (by rw [← hF,Array.getElem?_toList]; exact Array.getElem?_eq_getElem hj2)
   rw [add_none] at e1
   rw [e1,getElem!_pos _ j hj2]; rfl
  have hcon:=AnyQ.slices_SortFunc Tryz.sortL 7 Tryz.isAgg268 Tryz.sizeOf268 (encE w1) hk (fun x u hu=>evals_one x.e u hu) (cfE w1) (swoE w1) 247 #[] g 0 cap d w (enters_of Tryz.func247 (by kernel_rfl) rfl) (cmpLays w1 w g d.size hb (Nat.le_trans hbase hg0)) hH hgl (by rw [hdn]; exact hsz)
  rw [hdn] at hcon
  refine hcon.mono fun e w' ⟨he,d',m,os,hp,hs,hw⟩=>⟨he,d'.toList.map Laid.e,?_,?_,?_,?_⟩
  ·have h1:=hp.2.2
   rw [← hdn,Array.extract_size] at h1
   have h3:(d'.extract 0 d.size)=d':=by rw [← hp.1,Array.extract_size]
   rw [h3] at h1
   rw [← hd]; exact h1.map _
  ·rw [List.pairwise_map,List.pairwise_iff_getElem]
   intro i j hi hj hij
   have hi':i<d'.size:=by simpa using hi
   have hj':j<d'.size:=by simpa using hj
   have h1:=hs i j (Nat.zero_le _) hij (by rw [← hdn,← hp.1]; exact hj')
   unfold ltOf cfE at h1
   rw [decide_eq_false_iff_not,getElem!_pos d' i hi',getElem!_pos d' j hj'] at h1
   simpa using not_lt h1
  ·have hsz':(Go.Sort.flatK (encE w1) 7 d').size=re.length * 7:=by rw [Go.Sort.size_flatK,hp.1,hdn]
   have hF':(Go.Sort.flatK (encE w1) 7 d').toList=(d'.toList.map Laid.e).flatMap REdge.vals:=by
    rw [flatK_list _ 7 hk (by omega),List.flatMap_map]; rfl
   have hl':(d'.toList.map Laid.e).length=re.length:=by rw [List.length_map,Array.length_toList,hp.1,hdn]
   rw [hl',← hF']
   refine ⟨by rw [Array.length_toList]; exact hsz',.inr ⟨g,cap,Go.Sort.putCells id 0 (Go.Sort.flatK (encE w1) 7 d') cur,rfl,hg0,?_,hnc,hcm,by unfold Go.Sort.putCells; rw [Array.size_mapIdx]; exact hcs,?_⟩⟩
   ·rw [hw]
    unfold sortWorldK Go.Sort.putRowK Go.Sort.putRow Go.Sort.mapBlock Go.Sort.grow Go.Sort.ahead
    show ((w.heap.modify g _) ++ os)[g]?=_
    rw [Array.getElem?_append_left (by simpa using hgl),Array.getElem?_modify,if_pos rfl,hg]; rfl
   ·apply List.ext_getElem?
    intro t
    have hcs':re.length * 7≤cur.size:=by rw [hcs]; exact Nat.mul_le_mul_right 7 hnc
    by_cases ht:t<re.length * 7
    ·rw [List.getElem?_take_of_lt ht,Array.getElem?_toList,Array.getElem?_toList]
     unfold Go.Sort.putCells
     rw [Array.getElem?_mapIdx,Array.getElem?_eq_getElem (show t<cur.size by omega),Array.getElem?_eq_getElem (show t<(Go.Sort.flatK (encE w1) 7 d').size by omega)]
     simp only [Option.map_some]
     rw [if_pos ⟨Nat.zero_le _,by omega⟩,Nat.sub_zero,getElem!_pos _ t (by omega)]; rfl
    ·rw [List.getElem?_eq_none (by rw [List.length_take]; omega),List.getElem?_eq_none (by rw [Array.length_toList,hsz']; omega)]
  ·rw [hw]; exact grown_sort _ _ _ _ _ _ _ _
end Go.Proofs.YtnpjklaaokiikaaGreatDoor.Span
namespace Go.Proofs.YtnpjklaaokiikaaGreatDoor.Span
open Go.RowKit Num Ident Semver Prec

def EdgesJ (w:World) (n:Nat) (l:List RSp) (step:Int) (v iv:Value) (W:World):Prop :=
 ∃ (k:Nat) (re:List REdge),k≤n∧iv=.int .i64 k∧W.ownsRow w.heap.size 268 7 v re.length (re.flatMap REdge.vals)∧re.map REdge.edge=edgesOf ((l.take k).map RSp.sp) step∧(∀ e ∈ re,Lies w e.cut)∧re.length≤2 * k∧Below w.heap.size w W
def EdgesPost (w:World) (l:List RSp) (step:Int) (e:Ending) (w':World):Prop :=
 ∃ (v:Value) (re:List REdge),e=.returned v∧w'.ownsRow w.heap.size 268 7 v re.length (re.flatMap REdge.vals)∧re.map REdge.edge=edgesOf (l.map RSp.sp) step∧(∀ e ∈ re,Lies w e.cut)∧re.length≤2 * l.length∧Below w.heap.size w w'
theorem take_sp (l:List RSp) (k:Nat) (h:k<l.length):(l.take (k+1)).map RSp.sp=(l.take k).map RSp.sp ++ [(l.getD k default).sp]:=by
 rw [List.take_succ_eq_append_getElem h,List.map_append]; simp [List.getD,List.getElem?_eq_getElem h]

theorem edges_any (A:Option Addr) (n c:Nat) (l:List RSp) (step:Int) (w:World) (hr:SpRow w A n l) (hn:n≤100000) (h1:-10≤step) (h2:step≤10) :
  Calls Tryz.prog 222 #[.slice A n c,.int .i64 step] w (EdgesPost w l step):=by
 have HR:=Lib.hid hr
 have HL:=Lib.hid hr.1
 clear hr
 go_enter Tryz.func222,Tryz.ntmps222
 go_wp2
 go_loopw [5,10] (fun v i W=>EdgesJ w n l step v i W) (fun _ i _=>n - (intOf i).toNat)
 case atStart=>exact ⟨0,[],Nat.zero_le _,rfl,World.ownsRow_nil _ _ _ _,by simp [edgesOf],(fun e he=>by cases he),Nat.zero_le _,Below.refl _ _⟩
 case round =>
  obtain ⟨k,re,hk,rfl,hown,hmap,hlie,hlen,hbel⟩:=hrel
  have HO:=Lib.hid hown
  have HM:=Lib.hid hmap
  have HI:=Lib.hid hlie
  have HB:=Lib.hid hbel
  have hsz:=hbel.size
  clear hown hmap hlie hbel
  by_cases hlt:k<n
  ·obtain ⟨b,o,rfl,hb,hc⟩:=(HR.out.kept HB.out).2.2 (by omega)
   obtain ⟨x0,x1,x2,x3,x4,x5,x6,x7,x8,x9,x10,x11⟩:=SpRow.cells hc hlt
   have HS0:=Lib.hid (HR.out.lies hlt)
   have HS:=Lib.hid (HS0.out.kept HB.out)
   have HT:=Lib.hid (take_sp l k (by rw [HL.out]; exact hlt))
   clear hc
   generalize l.getD k default=s at x0 x1 x2 x3 x4 x5 x6 x7 x8 x9 x10 x11 HS HS0 HT
   have HW:Hid (Below w.heap.size w (wr.alloc (s.lo,s.hi))):=HB.out.alloc hsz _
   have HS1:=Lib.hid (HS.out.kept ((Below.refl wr.heap.size wr).alloc (Nat.le_refl _) (s.lo,s.hi)))
   have HO1:=Lib.hid (HO.out.alloc (s.lo,s.hi))
   have K1:Hid (At12B (wr.alloc (s.lo,s.hi)) wr.heap.size s.lo.kind s.lo.v.a s.lo.v.b s.lo.v.c (.slice s.lo.A s.lo.v.pre.length s.lo.c) (.slice s.lo.B s.lo.v.build.length s.lo.d) s.hi.kind s.hi.v.a s.hi.v.b s.hi.v.c (.slice s.hi.A s.hi.v.pre.length s.hi.c) (.slice s.hi.B s.hi.v.build.length s.hi.d)):=At12B.new wr _ _ _ _ _ _ _ _ _ _ _ _ _
   go_upto_region 5 with (fail)
   generalize wr.alloc (s.lo,s.hi)=W1 at HW HS1 HO1 K1 ⊢
   clear x0 x1 x2 x3 x4 x5 x6 x7 x8 x9 x10 x11
   obtain ⟨hz1,_,x0,x1,x2,x3,x4,x5,x6,x7,x8,x9,x10,x11⟩:=K1.out
   go_wp2_with fail
   refine (counts_any s _ HS1.out).mono ?_
   rintro e w2 ⟨rfl,hb2⟩
   have HW2:=Lib.hid (HW.out.trans (hb2.mono HW.out.size))
   have HO2:=Lib.hid (own_below HO1.out hb2)
   have K2:=Lib.hid (K1.out.kept hb2 hz1)
   clear hb2 hz1 x0 x1 x2 x3 x4 x5 x6 x7 x8 x9 x10 x11 HS1 HW HO1 K1
   obtain ⟨hz2,_,x0,x1,x2,x3,x4,x5,x6,x7,x8,x9,x10,x11⟩:=K2.out
   cases hcn:cnt s.sp
   ·have HN:Hid (re.map REdge.edge=edgesOf ((l.take (k+1)).map RSp.sp) step):=by unfold Hid; rw [HT.out,edgesOf_snoc_no _ _ hcn]; exact HM.out
    clear hcn
    go_wp2
    exact ⟨⟨k+1,re,by omega,by go_num,HO2.out,HN.out,HI.out,by omega,HW2.out⟩,by simp [intOf]; omega⟩
   ·have HN:Hid ((re ++ [REdge.mk s.lo step,REdge.mk s.hi (-step)]).map REdge.edge=edgesOf ((l.take (k+1)).map RSp.sp) step):=by
     unfold Hid; rw [HT.out,edgesOf_snoc_yes _ _ hcn,List.map_append,HM.out,Int.zero_sub]; rfl
    have HI2:Hid (∀ e ∈ re ++ [REdge.mk s.lo step,REdge.mk s.hi (-step)],Lies w e.cut):=fun e he=>by
     rcases List.mem_append.1 he with he | he
     ·exact HI.out e he
     ·rcases List.mem_cons.1 he with rfl | he
      ·exact HS0.out.lo
      ·rw [List.mem_singleton] at he; subst he; exact HS0.out.hi
    have HO3:=Lib.hid (HO2.out.alloc (.cells #[s.lo.kind,s.lo.v.a,s.lo.v.b,s.lo.v.c,.slice s.lo.A s.lo.v.pre.length s.lo.c,.slice s.lo.B s.lo.v.build.length s.lo.d,.int .i64 step,s.hi.kind,s.hi.v.a,s.hi.v.b,s.hi.v.c,.slice s.hi.A s.hi.v.pre.length s.hi.c,.slice s.hi.B s.hi.v.build.length s.hi.d,.int .i64 (-step)] 268))
    have HW3:=Lib.hid (HW2.out.alloc HW2.out.size (.cells #[s.lo.kind,s.lo.v.a,s.lo.v.b,s.lo.v.c,.slice s.lo.A s.lo.v.pre.length s.lo.c,.slice s.lo.B s.lo.v.build.length s.lo.d,.int .i64 step,s.hi.kind,s.hi.v.a,s.hi.v.b,s.hi.v.c,.slice s.hi.A s.hi.v.pre.length s.hi.c,.slice s.hi.B s.hi.v.build.length s.hi.d,.int .i64 (-step)] 268))
    have hz3:=HW2.out.size
    clear hcn
    go_wp2_with (first
     | (at_builtin; refine wpList_append_ed _ rfl _ _ rfl w.heap.size _ re.length re rfl HO3.out ⟨w2.heap.size,0,none⟩ 2 2 [REdge.mk s.lo step,REdge.mk s.hi (-step)] rfl rfl (news_new w2 _ _) (by omega) (by simp; omega) ?_; intro v4 w4 ho4 hb4; have HB4:=Lib.hid (HW3.out.trans hb4); have HO4:=Lib.hid ho4; clear ho4 hb4)
     | fail)
    refine ⟨⟨k+1,re ++ [REdge.mk s.lo step,REdge.mk s.hi (-step)],by omega,by go_num,?_,HN.out,HI2.out,by rw [List.length_append]; simp; omega,HB4.out⟩,by simp [intOf]; omega⟩
    rw [List.length_append]; exact HO4.out
  ·obtain rfl:k=n:=by omega
   have HN:Hid (re.map REdge.edge=edgesOf (l.map RSp.sp) step):=by have:=HM.out; rwa [List.take_of_length_le (by rw [HL.out]; exact Nat.le_refl _)] at this
   go_wp2
   refine bodyPost_ret (v:=u5) (by simp [results,Tryz.results222,go_sem]) rfl ⟨u5,re,rfl,HO.out,HN.out,HI.out,by rw [HL.out]; exact hlen,HB.out⟩

theorem atLeast_any (m:Int) (w:World) :
  Calls Tryz.prog 223 #[.int .i64 m] w fun e w'=>e=.returned (.func (.func 251) #[] #[.pointer (some ⟨w.heap.size,0,none⟩)])∧w'=w.alloc (.cells #[.int .i64 m] 3):=by
 go_enter Tryz.func223,Tryz.ntmps223
 go_wp2
 go_ret
 exact ⟨rfl,rfl⟩
theorem in_any (t m:Int) (b:Nat) (w:World) (h:w.cell? ⟨b,0,none⟩=some (.int .i64 m)) :
  Calls Tryz.prog 251 #[.int .i64 t,.pointer (some ⟨b,0,none⟩)] w fun e w'=>e=.returned (.bool (decide (m≤t)))∧w=w':=by
 by_cases hm:m≤t
 ·have HF:=Lib.hid (decide_eq_true hm)
  go_enter Tryz.func251,Tryz.ntmps251
  go_wp2
  go_ret
  exact ⟨by rw [HF.out]; rfl,rfl⟩
 ·have HF:=Lib.hid (decide_eq_false hm)
  have hd:decide (m≤t)=false:=HF.out
  go_enter Tryz.func251,Tryz.ntmps251
  go_wp2
  go_ret
  exact ⟨rfl,rfl⟩

end Go.Proofs.YtnpjklaaokiikaaGreatDoor.Span
namespace Go.Proofs.YtnpjklaaokiikaaGreatDoor.Span
open Go.RowKit Num Ident Semver Prec

def hasOne (a b:Cut) (s:Sp):Bool:=decide (cmpC s.lo a≤0) && decide (0≤cmpC s.hi b)

theorem has1_any (s:RSp) (ra rb:RCut) (p1 p2:Nat) (w:World) (h:LiesS w s) (k1:At6B w p1 ra.kind ra.v.a ra.v.b ra.v.c (.slice ra.A ra.v.pre.length ra.c) (.slice ra.B ra.v.build.length ra.d)) (k2:At6B w p2 rb.kind rb.v.a rb.v.b rb.v.c (.slice rb.A rb.v.pre.length rb.c) (.slice rb.B rb.v.build.length rb.d)) (h1:Lies w ra) (h2:Lies w rb) :
  Calls Tryz.prog 127 #[.agg #[s.lo.kind,s.lo.v.a,s.lo.v.b,s.lo.v.c,.slice s.lo.A s.lo.v.pre.length s.lo.c,.slice s.lo.B s.lo.v.build.length s.lo.d,s.hi.kind,s.hi.v.a,s.hi.v.b,s.hi.v.c,.slice s.hi.A s.hi.v.pre.length s.hi.c,.slice s.hi.B s.hi.v.build.length s.hi.d],.pointer (some ⟨p1,0,none⟩),.pointer (some ⟨p2,0,none⟩)] w fun e w'=>e=.returned (.bool (hasOne ra.cut rb.cut s.sp))∧Below w.heap.size w w':=by
 have HBa:Hid (Below w.heap.size w (w.alloc (s.lo,s.hi))):=(Below.refl _ _).alloc (Nat.le_refl _) _
 have HL:=Lib.hid (h.kept HBa.out)
 have HA:=Lib.hid (h1.kept HBa.out)
 have HB:=Lib.hid (h2.kept HBa.out)
 have K0:Hid (At12B (w.alloc (s.lo,s.hi)) w.heap.size s.lo.kind s.lo.v.a s.lo.v.b s.lo.v.c (.slice s.lo.A s.lo.v.pre.length s.lo.c) (.slice s.lo.B s.lo.v.build.length s.lo.d) s.hi.kind s.hi.v.a s.hi.v.b s.hi.v.c (.slice s.hi.A s.hi.v.pre.length s.hi.c) (.slice s.hi.B s.hi.v.build.length s.hi.d)):=At12B.new w _ _ _ _ _ _ _ _ _ _ _ _ _
 have Y0:=Lib.hid (k1.kept HBa.out k1.1)
 have Z0:=Lib.hid (k2.kept HBa.out k2.1)
 clear h h1 h2 k1 k2
 have HF:Hid (hasOne ra.cut rb.cut s.sp=(decide (cmpC s.lo.cut ra.cut≤0) && decide (0≤cmpC s.hi.cut rb.cut))):=rfl
 go_enter Tryz.func127,Tryz.ntmps127
 go_upto_region 1 with (fail)
 generalize (w.alloc (s.lo,s.hi))=W at HBa HL HA HB K0 Y0 Z0 ⊢
 obtain ⟨hz,_,x0,x1,x2,x3,x4,x5,x6,x7,x8,x9,x10,x11⟩:=K0.out
 obtain ⟨hy,_,y0,y1,y2,y3,y4,y5⟩:=Y0.out
 go_wp2_with fail
 refine (compareC_any s.lo ra _ HL.out.lo HA.out).mono ?_
 rintro e w1 ⟨rfl,hb1⟩
 have K1:=Lib.hid (K0.out.kept hb1 hz)
 have Z1:=Lib.hid (Z0.out.kept hb1 Z0.out.1)
 have L1:=Lib.hid (HL.out.kept hb1)
 have M1:=Lib.hid (HB.out.kept hb1)
 have B1:=Lib.hid (HBa.out.trans (hb1.mono HBa.out.size))
 clear hb1 hz hy x0 x1 x2 x3 x4 x5 x6 x7 x8 x9 x10 x11 y0 y1 y2 y3 y4 y5
 obtain ⟨hz1,_,x0,x1,x2,x3,x4,x5,x6,x7,x8,x9,x10,x11⟩:=K1.out
 obtain ⟨_,_,z0,z1,z2,z3,z4,z5⟩:=Z1.out
 generalize cmpC s.lo.cut ra.cut=c1 at HF ⊢
 by_cases hc:c1≤0
 ·have hd:decide (c1≤0)=true:=decide_eq_true hc
  go_wp2_with fail
  refine (compareC_any s.hi rb _ L1.out.hi M1.out).mono ?_
  rintro e w2 ⟨rfl,hb2⟩
  have B2:=Lib.hid (B1.out.trans (hb2.mono B1.out.size))
  clear hb2 x0 x1 x2 x3 x4 x5 x6 x7 x8 x9 x10 x11 z0 z1 z2 z3 z4 z5
  generalize cmpC s.hi.cut rb.cut=c2 at HF ⊢
  by_cases hc2:0≤c2
  ·have HF2:Hid (hasOne ra.cut rb.cut s.sp=true):=by have:=HF.out; unfold Hid; rw [this]; simp [hc,hc2]
   clear HF
   go_wp2
   go_ret
   exact ⟨by rw [HF2.out]; rfl,B2.out⟩
  ·have HF2:Hid (hasOne ra.cut rb.cut s.sp=false):=by have:=HF.out; unfold Hid; rw [this]; simp [hc]; omega
   have hd2:decide (0≤c2)=false:=decide_eq_false hc2
   clear HF
   go_wp2
   go_ret
   exact ⟨by rw [HF2.out]; rfl,B2.out⟩
 ·have HF2:Hid (hasOne ra.cut rb.cut s.sp=false):=by have:=HF.out; unfold Hid; rw [this,decide_eq_false hc]; rfl
  have hd:decide (c1≤0)=false:=decide_eq_false hc
  clear HF
  go_wp2
  go_ret
  exact ⟨by rw [HF2.out]; rfl,B1.out⟩

structure LaidS (w:World) where
 s:RSp
 h:LiesS w s
instance (w:World):Inhabited (LaidS w):=⟨⟨⟨rlow,rlow⟩,⟨Lies.low w,Lies.low w⟩⟩⟩
theorem index_none (P:Option Addr) (c:Nat) (f:Value) (w:World):Calls Tryz.prog 177 #[.slice P 0 c,f] w fun e w'=>e=.returned (.int .i64 (-1))∧w=w':=by
 go_enter Tryz.func177,Tryz.ntmps177
 go_wp2
 go_loop [5,8] (fun _ i=>i=.int .i64 0) (fun _ _=>0)
 case atStart=>rfl
 case round =>
  subst hrel
  go_wp2
  go_ret
  exact ⟨rfl,rfl⟩
theorem contains_none (P:Option Addr) (c:Nat) (f:Value) (w:World):Calls Tryz.prog 126 #[.slice P 0 c,f] w fun e w'=>e=.returned (.bool false)∧w=w':=by
 go_enter Tryz.func126,Tryz.ntmps126
 go_wp2_with fail
 refine (index_none _ _ _ _).mono ?_
 rintro e w' ⟨rfl,rfl⟩
 go_wp2
 go_ret
 exact ⟨rfl,rfl⟩
theorem contains_any (P:Option Addr) (n c:Nat) (l:List RSp) (p1 p2:Nat) (ra rb:RCut) (w:World) (hr:SpRow w P n l) (hn:n≤100000) (k1:At6B w p1 ra.kind ra.v.a ra.v.b ra.v.c (.slice ra.A ra.v.pre.length ra.c) (.slice ra.B ra.v.build.length ra.d)) (k2:At6B w p2 rb.kind rb.v.a rb.v.b rb.v.c (.slice rb.A rb.v.pre.length rb.c) (.slice rb.B rb.v.build.length rb.d)) (h1:Lies w ra) (h2:Lies w rb) :
  Calls Tryz.prog 126 #[.slice P n c,.func (.func 127) #[] #[.pointer (some ⟨p1,0,none⟩),.pointer (some ⟨p2,0,none⟩)]] w fun e w'=>e=.returned (.bool ((l.map RSp.sp).any (hasOne ra.cut rb.cut)))∧Below w.heap.size w w':=by
 obtain ⟨hl,hlie,hc⟩:=hr
 rcases Nat.eq_zero_or_pos n with h0 | h0
 ·subst h0
  obtain rfl:l=[]:=List.eq_nil_of_length_eq_zero hl
  exact (contains_none P c _ w).mono fun e w' ⟨he,hw⟩=>⟨he,by subst hw; exact Below.refl _ _⟩
 ·obtain ⟨b,o,rfl,hb,hcell⟩:=hc h0
  obtain ⟨zs,hz⟩:∃ zs:List (LaidS w),zs.map LaidS.s=l:=⟨l.pmap (fun s h=>(⟨s,h⟩:LaidS w)) hlie,by simp [List.map_pmap]⟩
  have hzl:zs.length=n:=by rw [← hl,← hz,List.length_map]
  have hp:PredBelow Tryz.prog 127 #[.pointer (some ⟨p1,0,none⟩),.pointer (some ⟨p2,0,none⟩)] (fun x:LaidS w=>.agg x.s.vals.toArray) (fun x=>hasOne ra.cut rb.cut x.s.sp) w:=by
   intro W x hB
   exact (has1_any x.s ra rb p1 p2 W (x.h.kept hB) (k1.kept hB k1.1) (k2.kept hB k2.1) (h1.kept hB) (h2.kept hB)).mono fun e w' ⟨he,hb'⟩=>⟨he,hB.trans (hb'.mono hB.size)⟩
  have hcon:=AnyQ.slices_ContainsFunc Tryz.hasL 12 Tryz.isAgg190 Tryz.sizeOf190 (fun x:LaidS w=>x.s.vals) (fun _=>rfl) (fun x=>hasOne ra.cut rb.cut x.s.sp) 127 #[.pointer (some ⟨p1,0,none⟩),.pointer (some ⟨p2,0,none⟩)] (enters_of Tryz.func127 (by kernel_rfl) rfl) b o n c zs w hp (by rw [hzl]; exact Nat.le_refl _) (by omega) hb
   (fun j hj i v hv=>hcell j (by omega) i v (by
    have e:l.getD j default=zs[j]!.s:=by
     rw [getElem!_pos zs j hj,← hz]; simp [List.getD,hj]
    rw [e]; exact hv))
  refine hcon.mono fun e w' ⟨he,hb'⟩=>⟨?_,hb'⟩
  rw [he,List.take_of_length_le (by rw [hzl]; exact Nat.le_refl _),← hz,List.map_map,List.any_map]; rfl

theorem has_any (P:Option Addr) (n c:Nat) (l:List RSp) (v:Ver) (A:Option Addr) (cA:Nat) (B:Option Addr) (cB:Nat) (w:World) (hr:SpRow w P n l) (hn:n≤100000) (h1:SRow w A v.pre.length v.pre) (hf:Fit v.pre) :
  Calls Tryz.prog 68 #[.slice P n c,.agg #[v.a,v.b,v.c,.slice A v.pre.length cA,.slice B v.build.length cB]] w fun e w'=>e=.returned (.bool ((l.map RSp.sp).any (hasOne (aheadOf v) (behindOf v))))∧Below w.heap.size w w':=by
 have HR:=Lib.hid hr
 have HS:=Lib.hid h1
 have HF:=Lib.hid hf
 clear hr h1 hf
 generalize hg:(l.map RSp.sp).any (hasOne (aheadOf v) (behindOf v))=g
 have HG:=Lib.hid hg
 clear hg
 go_enter Tryz.func68,Tryz.ntmps68
 go_upto_region 2 with (fail)
 go_region
 ·have HB:Hid (Below w.heap.size w (((w.alloc (.cells #[v.a,v.b,v.c,.slice A v.pre.length cA,.slice none 0 0] 34)).alloc (.cells #[.int .i64 1,v.a,v.b,v.c,.slice A v.pre.length cA,.slice none 0 0] 187)).alloc (.cells #[.int .i64 2,v.a,v.b,v.c,.slice A v.pre.length cA,.slice none 0 0] 187)).drew):=(((((Below.refl _ _).alloc (Nat.le_refl _) _).alloc (by simp) _).alloc (by simp; omega) _)).drew
  have Q1:Hid (At6B (((w.alloc (.cells #[v.a,v.b,v.c,.slice A v.pre.length cA,.slice none 0 0] 34)).alloc (.cells #[.int .i64 1,v.a,v.b,v.c,.slice A v.pre.length cA,.slice none 0 0] 187)).alloc (.cells #[.int .i64 2,v.a,v.b,v.c,.slice A v.pre.length cA,.slice none 0 0] 187)).drew (w.heap.size+1) (.int .i64 1) v.a v.b v.c (.slice A v.pre.length cA) (.slice none 0 0)):=by
   have q:=(At6B.new (w.alloc (.cells #[v.a,v.b,v.c,.slice A v.pre.length cA,.slice none 0 0] 34)) 187 (.int .i64 1) v.a v.b v.c (.slice A v.pre.length cA) (.slice none 0 0)).kept ((Below.refl _ _).alloc (Nat.le_refl _) (.cells #[.int .i64 2,v.a,v.b,v.c,.slice A v.pre.length cA,.slice none 0 0] 187)) (by simp)
   rw [size_alloc] at q; exact q
  have Q2:Hid (At6B (((w.alloc (.cells #[v.a,v.b,v.c,.slice A v.pre.length cA,.slice none 0 0] 34)).alloc (.cells #[.int .i64 1,v.a,v.b,v.c,.slice A v.pre.length cA,.slice none 0 0] 187)).alloc (.cells #[.int .i64 2,v.a,v.b,v.c,.slice A v.pre.length cA,.slice none 0 0] 187)).drew (w.heap.size+1+1) (.int .i64 2) v.a v.b v.c (.slice A v.pre.length cA) (.slice none 0 0)):=by
   have q:=At6B.new ((w.alloc (.cells #[v.a,v.b,v.c,.slice A v.pre.length cA,.slice none 0 0] 34)).alloc (.cells #[.int .i64 1,v.a,v.b,v.c,.slice A v.pre.length cA,.slice none 0 0] 187)) 187 (.int .i64 2) v.a v.b v.c (.slice A v.pre.length cA) (.slice none 0 0)
   rw [size_alloc,size_alloc] at q; exact q
  generalize (((w.alloc (.cells #[v.a,v.b,v.c,.slice A v.pre.length cA,.slice none 0 0] 34)).alloc (.cells #[.int .i64 1,v.a,v.b,v.c,.slice A v.pre.length cA,.slice none 0 0] 187)).alloc (.cells #[.int .i64 2,v.a,v.b,v.c,.slice A v.pre.length cA,.slice none 0 0] 187)).drew=W at HB Q1 Q2 ⊢
  have HV:Hid (SRow W A v.pre.length v.pre):=HS.out.kept HB.out
  go_wp2_with fail
  refine (contains_any P n c l _ _ ⟨1,bare v,A,cA,none,0⟩ ⟨2,bare v,A,cA,none,0⟩ _ (HR.out.kept HB.out) hn Q1.out Q2.out ⟨HV.out,SRow.none_ _ _,HF.out,Fit.nil⟩ ⟨HV.out,SRow.none_ _ _,HF.out,Fit.nil⟩).mono ?_
  rintro e w1 ⟨he,hb1⟩
  have he2:e=.returned (.bool g):=by rw [← HG.out]; exact he
  subst he2
  clear he
  have B1:=Lib.hid (HB.out.trans (hb1.mono HB.out.size))
  clear hb1
  go_wp2
  go_ret
  exact ⟨rfl,B1.out⟩
 ·have HB:Hid (Below w.heap.size w (((w.alloc (.cells #[v.a,v.b,v.c,.slice A v.pre.length cA,.slice none 0 0] 34)).alloc (.cells #[.int .i64 2,v.a,v.b,v.c,.slice A v.pre.length cA,.slice none 0 0] 187)).alloc (.cells #[.int .i64 1,v.a,v.b,v.c,.slice A v.pre.length cA,.slice none 0 0] 187)).drew):=(((((Below.refl _ _).alloc (Nat.le_refl _) _).alloc (by simp) _).alloc (by simp; omega) _)).drew
  have Q1:Hid (At6B (((w.alloc (.cells #[v.a,v.b,v.c,.slice A v.pre.length cA,.slice none 0 0] 34)).alloc (.cells #[.int .i64 2,v.a,v.b,v.c,.slice A v.pre.length cA,.slice none 0 0] 187)).alloc (.cells #[.int .i64 1,v.a,v.b,v.c,.slice A v.pre.length cA,.slice none 0 0] 187)).drew (w.heap.size+1) (.int .i64 2) v.a v.b v.c (.slice A v.pre.length cA) (.slice none 0 0)):=by
   have q:=(At6B.new (w.alloc (.cells #[v.a,v.b,v.c,.slice A v.pre.length cA,.slice none 0 0] 34)) 187 (.int .i64 2) v.a v.b v.c (.slice A v.pre.length cA) (.slice none 0 0)).kept ((Below.refl _ _).alloc (Nat.le_refl _) (.cells #[.int .i64 1,v.a,v.b,v.c,.slice A v.pre.length cA,.slice none 0 0] 187)) (by simp)
   rw [size_alloc] at q; exact q
  have Q2:Hid (At6B (((w.alloc (.cells #[v.a,v.b,v.c,.slice A v.pre.length cA,.slice none 0 0] 34)).alloc (.cells #[.int .i64 2,v.a,v.b,v.c,.slice A v.pre.length cA,.slice none 0 0] 187)).alloc (.cells #[.int .i64 1,v.a,v.b,v.c,.slice A v.pre.length cA,.slice none 0 0] 187)).drew (w.heap.size+1+1) (.int .i64 1) v.a v.b v.c (.slice A v.pre.length cA) (.slice none 0 0)):=by
   have q:=At6B.new ((w.alloc (.cells #[v.a,v.b,v.c,.slice A v.pre.length cA,.slice none 0 0] 34)).alloc (.cells #[.int .i64 2,v.a,v.b,v.c,.slice A v.pre.length cA,.slice none 0 0] 187)) 187 (.int .i64 1) v.a v.b v.c (.slice A v.pre.length cA) (.slice none 0 0)
   rw [size_alloc,size_alloc] at q; exact q
  generalize (((w.alloc (.cells #[v.a,v.b,v.c,.slice A v.pre.length cA,.slice none 0 0] 34)).alloc (.cells #[.int .i64 2,v.a,v.b,v.c,.slice A v.pre.length cA,.slice none 0 0] 187)).alloc (.cells #[.int .i64 1,v.a,v.b,v.c,.slice A v.pre.length cA,.slice none 0 0] 187)).drew=W at HB Q1 Q2 ⊢
  have HV:Hid (SRow W A v.pre.length v.pre):=HS.out.kept HB.out
  go_wp2_with fail
  refine (contains_any P n c l _ _ ⟨1,bare v,A,cA,none,0⟩ ⟨2,bare v,A,cA,none,0⟩ _ (HR.out.kept HB.out) hn Q2.out Q1.out ⟨HV.out,SRow.none_ _ _,HF.out,Fit.nil⟩ ⟨HV.out,SRow.none_ _ _,HF.out,Fit.nil⟩).mono ?_
  rintro e w1 ⟨he,hb1⟩
  have he2:e=.returned (.bool g):=by rw [← HG.out]; exact he
  subst he2
  clear he
  have B1:=Lib.hid (HB.out.trans (hb1.mono HB.out.size))
  clear hb1
  go_wp2
  go_ret
  exact ⟨rfl,B1.out⟩

end Go.Proofs.YtnpjklaaokiikaaGreatDoor.Span
