/-
  What the theorem of the last text needs of these: SpEdges, SpCopied, SpConcat, SpHas, RgLt. Conditions: as each theorem states.
-/
import Derived.Test.YtneilnibghhgmaaGreatDoorFwA1
import Derived.Test.YtneilnibghhgmaaGreatDoorFwA6
import Derived.Test.YtneilnibghhgmaaGreatDoorFwA9
import Derived.Test.YtneilnibghhgmaaGreatDoorFwA10
import Derived.Deep.CutBlock
import Derived.Deep.DeepCutAuto
import Derived.Test.YtneilnibghhgmaaGreatDoorShelfGrow
import Derived.Test.YtneilnibghhgmaaGreatDoorShelfHas
import Derived.RegionTactic
import Derived.ChangeAlike
import Derived.WalkSmall
import Derived.Laws.OwnMore
set_option maxRecDepth 100000
set_option maxHeartbeats 25600000
namespace Go.Proofs.YtneilnibghhgmaaGreatDoor.Span
open Go.RowKit Num Ident Semver Prec

def EdgesJ (w:World) (n:Nat) (l:List RSp) (step:Int) (v iv:Value) (W:World):Prop :=
 ∃ (k:Nat) (re:List REdge),k≤n∧iv=.int .i64 k∧W.ownsRow w.heap.size 198 7 v re.length (re.flatMap REdge.vals)∧re.map REdge.edge=edgesOf ((l.take k).map RSp.sp) step∧(∀ e ∈ re,Lies w e.cut)∧re.length≤2 * k∧Below w.heap.size w W
def EdgesPost (w:World) (l:List RSp) (step:Int) (e:Ending) (w':World):Prop :=
 ∃ (v:Value) (re:List REdge),e=.returned v∧w'.ownsRow w.heap.size 198 7 v re.length (re.flatMap REdge.vals)∧re.map REdge.edge=edgesOf (l.map RSp.sp) step∧(∀ e ∈ re,Lies w e.cut)∧re.length≤2 * l.length∧Below w.heap.size w w'
theorem take_sp (l:List RSp) (k:Nat) (h:k<l.length):(l.take (k+1)).map RSp.sp=(l.take k).map RSp.sp ++ [(l.getD k default).sp]:=by
 rw [List.take_succ_eq_append_getElem h,List.map_append]; simp [List.getD,List.getElem?_eq_getElem h]

theorem edges_any (A:Option Addr) (n c:Nat) (l:List RSp) (step:Int) (w:World) (hr:SpRow w A n l) (hn:n≤100000) (h1:-10≤step) (h2:step≤10) :
  Calls Tryz.prog 177 #[.slice A n c,.int .i64 step] w (EdgesPost w l step):=by
 have HR:=Lib.hid hr
 have HL:=Lib.hid hr.1
 clear hr
 go_enter Tryz.func177,Tryz.ntmps177
 go_wp2
 go_loopw [5,10] (fun v i W=>EdgesJ w n l step v i W) (fun _ i _=>n - (intOf i).toNat)
 case atStart=>exact ⟨0,[],Nat.zero_le _,rfl,World.ownsRow_nil _ _ _ _,by simp [edgesOf],(fun e he=>by cases he),Nat.zero_le _,Below.refl _ _⟩
 case round =>
  obtain ⟨k,re,hk,rfl,hown,hmap,hlie,hlen,hbel⟩:=hrel
  have HO:=Lib.hid hown
  have HM:=Lib.hid hmap
  have HI:=Lib.hid hlie
  have HB:=Lib.hid hbel
  have hsz:=hbel.size
  clear hown hmap hlie hbel
  by_cases hlt:k<n
  ·obtain ⟨b,o,rfl,hb,hc⟩:=(HR.out.kept HB.out).2.2 (by omega)
   obtain ⟨x0,x1,x2,x3,x4,x5,x6,x7,x8,x9,x10,x11⟩:=SpRow.cells hc hlt
   have HS0:=Lib.hid (HR.out.lies hlt)
   have HS:=Lib.hid (HS0.out.kept HB.out)
   have HT:=Lib.hid (take_sp l k (by rw [HL.out]; exact hlt))
   clear hc
   generalize l.getD k default=s at x0 x1 x2 x3 x4 x5 x6 x7 x8 x9 x10 x11 HS HS0 HT
   have HW:Hid (Below w.heap.size w (wr.alloc (s.lo,s.hi))):=HB.out.alloc hsz _
   have HS1:=Lib.hid (HS.out.kept ((Below.refl wr.heap.size wr).alloc (Nat.le_refl _) (s.lo,s.hi)))
   have HO1:=Lib.hid (HO.out.alloc (s.lo,s.hi))
   have K1:Hid (At12B (wr.alloc (s.lo,s.hi)) wr.heap.size s.lo.kind s.lo.v.a s.lo.v.b s.lo.v.c (.slice s.lo.A s.lo.v.pre.length s.lo.c) (.slice s.lo.B s.lo.v.build.length s.lo.d) s.hi.kind s.hi.v.a s.hi.v.b s.hi.v.c (.slice s.hi.A s.hi.v.pre.length s.hi.c) (.slice s.hi.B s.hi.v.build.length s.hi.d)):=At12B.new wr _ _ _ _ _ _ _ _ _ _ _ _ _
   go_upto_region 5 with (fail)
   generalize wr.alloc (s.lo,s.hi)=W1 at HW HS1 HO1 K1 ⊢
   clear x0 x1 x2 x3 x4 x5 x6 x7 x8 x9 x10 x11
   obtain ⟨hz1,_,x0,x1,x2,x3,x4,x5,x6,x7,x8,x9,x10,x11⟩:=K1.out
   go_wp2_with fail
   refine (counts_any s _ HS1.out).mono ?_
   rintro e w2 ⟨rfl,hb2⟩
   have HW2:=Lib.hid (HW.out.trans (hb2.mono HW.out.size))
   have HO2:=Lib.hid (own_below HO1.out hb2)
   have K2:=Lib.hid (K1.out.kept hb2 hz1)
   clear hb2 hz1 x0 x1 x2 x3 x4 x5 x6 x7 x8 x9 x10 x11 HS1 HW HO1 K1
   obtain ⟨hz2,_,x0,x1,x2,x3,x4,x5,x6,x7,x8,x9,x10,x11⟩:=K2.out
   cases hcn:cnt s.sp
   ·have HN:Hid (re.map REdge.edge=edgesOf ((l.take (k+1)).map RSp.sp) step):=by unfold Hid; rw [HT.out,edgesOf_snoc_no _ _ hcn]; exact HM.out
    clear hcn
    go_wp2
    exact ⟨⟨k+1,re,by omega,by go_num,HO2.out,HN.out,HI.out,by omega,HW2.out⟩,by simp [intOf]; omega⟩
   ·have HN:Hid ((re ++ [REdge.mk s.lo step,REdge.mk s.hi (-step)]).map REdge.edge=edgesOf ((l.take (k+1)).map RSp.sp) step):=by
     unfold Hid; rw [HT.out,edgesOf_snoc_yes _ _ hcn,List.map_append,HM.out,Int.zero_sub]; rfl
    have HI2:Hid (∀ e ∈ re ++ [REdge.mk s.lo step,REdge.mk s.hi (-step)],Lies w e.cut):=fun e he=>by
     rcases List.mem_append.1 he with he | he
     ·exact HI.out e he
     ·rcases List.mem_cons.1 he with rfl | he
      ·exact HS0.out.lo
      ·rw [List.mem_singleton] at he; subst he; exact HS0.out.hi
    have HO3:=Lib.hid (HO2.out.alloc (.cells #[s.lo.kind,s.lo.v.a,s.lo.v.b,s.lo.v.c,.slice s.lo.A s.lo.v.pre.length s.lo.c,.slice s.lo.B s.lo.v.build.length s.lo.d,.int .i64 step,s.hi.kind,s.hi.v.a,s.hi.v.b,s.hi.v.c,.slice s.hi.A s.hi.v.pre.length s.hi.c,.slice s.hi.B s.hi.v.build.length s.hi.d,.int .i64 (-step)] 198))
    have HW3:=Lib.hid (HW2.out.alloc HW2.out.size (.cells #[s.lo.kind,s.lo.v.a,s.lo.v.b,s.lo.v.c,.slice s.lo.A s.lo.v.pre.length s.lo.c,.slice s.lo.B s.lo.v.build.length s.lo.d,.int .i64 step,s.hi.kind,s.hi.v.a,s.hi.v.b,s.hi.v.c,.slice s.hi.A s.hi.v.pre.length s.hi.c,.slice s.hi.B s.hi.v.build.length s.hi.d,.int .i64 (-step)] 198))
    have hz3:=HW2.out.size
    clear hcn
    go_wp2_with (first
     | (at_builtin; refine wpList_append_ed _ rfl _ _ rfl w.heap.size _ re.length re rfl HO3.out ⟨w2.heap.size,0,none⟩ 2 2 [REdge.mk s.lo step,REdge.mk s.hi (-step)] rfl rfl (news_new w2 _ _) (by omega) (by simp; omega) ?_; intro v4 w4 ho4 hb4; have HB4:=Lib.hid (HW3.out.trans hb4); have HO4:=Lib.hid ho4; clear ho4 hb4)
     | fail)
    refine ⟨⟨k+1,re ++ [REdge.mk s.lo step,REdge.mk s.hi (-step)],by omega,by go_num,?_,HN.out,HI2.out,by rw [List.length_append]; simp; omega,HB4.out⟩,by simp [intOf]; omega⟩
    rw [List.length_append]; exact HO4.out
  ·obtain rfl:k=n:=by omega
   have HN:Hid (re.map REdge.edge=edgesOf (l.map RSp.sp) step):=by have:=HM.out; rwa [List.take_of_length_le (by rw [HL.out]; exact Nat.le_refl _)] at this
   go_wp2
   refine bodyPost_ret (v:=u5) (by simp [results,Tryz.results177,go_sem]) rfl ⟨u5,re,rfl,HO.out,HN.out,HI.out,by rw [HL.out]; exact hlen,HB.out⟩

theorem atLeast_any (m:Int) (w:World) :
  Calls Tryz.prog 178 #[.int .i64 m] w fun e w'=>e=.returned (.func (.func 198) #[] #[.pointer (some ⟨w.heap.size,0,none⟩)])∧w'=w.alloc (.cells #[.int .i64 m] 3):=by
 go_enter Tryz.func178,Tryz.ntmps178
 go_wp2
 go_ret
 exact ⟨rfl,rfl⟩
theorem in_any (t m:Int) (b:Nat) (w:World) (h:w.cell? ⟨b,0,none⟩=some (.int .i64 m)) :
  Calls Tryz.prog 198 #[.int .i64 t,.pointer (some ⟨b,0,none⟩)] w fun e w'=>e=.returned (.bool (decide (m≤t)))∧w=w':=by
 by_cases hm:m≤t
 ·have HF:=Lib.hid (decide_eq_true hm)
  go_enter Tryz.func198,Tryz.ntmps198
  go_wp2
  go_ret
  exact ⟨by rw [HF.out]; rfl,rfl⟩
 ·have HF:=Lib.hid (decide_eq_false hm)
  have hd:decide (m≤t)=false:=HF.out
  go_enter Tryz.func198,Tryz.ntmps198
  go_wp2
  go_ret
  exact ⟨rfl,rfl⟩

end Go.Proofs.YtneilnibghhgmaaGreatDoor.Span
namespace Go.Proofs.YtneilnibghhgmaaGreatDoor.Span
open Go.RowKit Num Ident Semver Prec

theorem At6B.set4 {W:World} {b:Nat} {u0 u1 u2 u3 u4 u5:Value} (h:At6B W b u0 u1 u2 u3 u4 u5) (v:Value):At6B (W.setCell ⟨b,4,none⟩ v) b u0 u1 u2 u3 v u5:=by
 obtain ⟨h1,h2,c0,c1,c2,c3,c4,c5⟩:=h
 refine ⟨by simpa using h1,fun o=>by simp [go_sem,h2],?_,?_,?_,?_,?_,?_⟩ <;> simp [go_sem,c0,c1,c2,c3,c4,c5]
theorem At6B.set5 {W:World} {b:Nat} {u0 u1 u2 u3 u4 u5:Value} (h:At6B W b u0 u1 u2 u3 u4 u5) (v:Value):At6B (W.setCell ⟨b,5,none⟩ v) b u0 u1 u2 u3 u4 v:=by
 obtain ⟨h1,h2,c0,c1,c2,c3,c4,c5⟩:=h
 refine ⟨by simpa using h1,fun o=>by simp [go_sem,h2],?_,?_,?_,?_,?_,?_⟩ <;> simp [go_sem,c0,c1,c2,c3,c4,c5]
theorem At6B.beside {W:World} {b b' o:Nat} {u0 u1 u2 u3 u4 u5:Value} (h:At6B W b u0 u1 u2 u3 u4 u5) (hb:b≠b') (v:Value):At6B (W.setCell ⟨b',o,none⟩ v) b u0 u1 u2 u3 u4 u5:=by
 obtain ⟨h1,h2,c0,c1,c2,c3,c4,c5⟩:=h
 have k:∀ j,(W.setCell ⟨b',o,none⟩ v).cell? ⟨b,j,none⟩=W.cell? ⟨b,j,none⟩:=fun j=>World.cell?_setCell_other _ _ _ _ (by intro e; injection e with e; exact hb e.symm)
 exact ⟨by simpa using h1,fun o=>by simp [go_sem,h2],(k 0).trans c0,(k 1).trans c1,(k 2).trans c2,(k 3).trans c3,(k 4).trans c4,(k 5).trans c5⟩
def set6 (w:World) (b:Nat) (v0 v1 v2 v3 v4 v5:Value):World:=(((((w.setCell ⟨b,0,none⟩ v0).setCell ⟨b,1,none⟩ v1).setCell ⟨b,2,none⟩ v2).setCell ⟨b,3,none⟩ v3).setCell ⟨b,4,none⟩ v4).setCell ⟨b,5,none⟩ v5
theorem At6B.set6 {W:World} {b:Nat} {u0 u1 u2 u3 u4 u5:Value} (h:At6B W b u0 u1 u2 u3 u4 u5) (v0 v1 v2 v3 v4 v5:Value):At6B (Span.set6 W b v0 v1 v2 v3 v4 v5) b v0 v1 v2 v3 v4 v5:=by
 obtain ⟨h1,h2,c0,c1,c2,c3,c4,c5⟩:=h
 unfold Span.set6
 refine ⟨by simpa using h1,fun o=>by simp [go_sem,h2],?_,?_,?_,?_,?_,?_⟩ <;> simp [go_sem,c0,c1,c2,c3,c4,c5]
theorem below_set6 {B:Nat} {a w:World} (h:Below B a w) {b:Nat} (hb:B≤b) (v0 v1 v2 v3 v4 v5:Value):Below B a (Span.set6 w b v0 v1 v2 v3 v4 v5) :=
 (((((h.setCell (p:=⟨b,0,none⟩) hb v0).setCell (p:=⟨b,1,none⟩) hb v1).setCell (p:=⟨b,2,none⟩) hb v2).setCell (p:=⟨b,3,none⟩) hb v3).setCell (p:=⟨b,4,none⟩) hb v4).setCell (p:=⟨b,5,none⟩) hb v5
structure OwnC (w:World) (B:Nat) (r:RCut):Prop where
 own:w.ownsRow B 9 1 (.slice r.A r.v.pre.length r.c) r.v.pre.length (strs r.v.pre)
 rb:r.B=none
 rd:r.d=0
 build:r.v.build=[]
 fit:Fit r.v.pre
theorem OwnC.lies {w:World} {B:Nat} {r:RCut} (h:OwnC w B r):Lies w r:=by
 obtain ⟨A,c,e,_,hr⟩:=SRow.of_own h.own
 injection e with e1 e2 e3
 subst e1
 exact ⟨hr,by rw [h.build]; exact SRow.none_ _ _,h.fit,by rw [h.build]; exact Fit.nil⟩
theorem own_mono {w:World} {B B':Nat} {e:TypeId} {size:Nat} {v:Value} {n:Nat} {xs:List Value} (h:w.ownsRow B e size v n xs) (hB:B'≤B):w.ownsRow B' e size v n xs:=by
 refine ⟨h.1,?_⟩
 rcases h.2 with h2 | ⟨g,cap,cur,hv,hg,r⟩
 ·exact .inl h2
 ·exact .inr ⟨g,cap,cur,hv,Nat.le_trans hB hg,r⟩
theorem OwnC.mono {w:World} {B B':Nat} {r:RCut} (h:OwnC w B r) (hB:B'≤B):OwnC w B' r:=⟨own_mono h.own hB,h.rb,h.rd,h.build,h.fit⟩
theorem OwnC.kept {w w':World} {B:Nat} {r:RCut} (h:OwnC w B r) (hb:Below w.heap.size w w'):OwnC w' B r:=⟨own_below h.own hb,h.rb,h.rd,h.build,h.fit⟩
theorem OwnC.set {w:World} {B:Nat} {r:RCut} (h:OwnC w B r) {b o:Nat} (hb:b<B) (v:Value):OwnC (w.setCell ⟨b,o,none⟩ v) B r:=⟨ownsRow_setCell_below h.own hb v,h.rb,h.rd,h.build,h.fit⟩
theorem OwnC.set6 {w:World} {B:Nat} {r:RCut} (h:OwnC w B r) {b:Nat} (hb:b<B) (v0 v1 v2 v3 v4 v5:Value):OwnC (Span.set6 w b v0 v1 v2 v3 v4 v5) B r:=(((((h.set hb v0).set hb v1).set hb v2).set hb v3).set hb v4).set hb v5
theorem OwnC.grown {w w':World} {B B2:Nat} {r:RCut} {set:Value} {n:Nat} {xs:List Value} (h:OwnC w B r) (hs:w.ownsRow B2 164 12 set n xs) (hg:w.grownBy w' set.ownBlock):OwnC w' B r :=
 ⟨h.own.kept hg (own_apart h.own hs (by decide)),h.rb,h.rd,h.build,h.fit⟩
theorem wpList_append_row (w:World) {ops:Array Oper} {rest:List Oper} {o:Oper} {a:Act} {Q:Exit→Act→World→Prop} (hgd:o.guard=none) (s x:Operand)
  (ho:o.op=.call { callee:=.builtin .append,args:=#[s,x],argTypes:=#[45,45] })
  (base:Nat) (v:Value) (n:Nat) (xs:List (List UInt8)) (hs:a.eval s=v) (hown:w.ownsRow base 9 1 v n (strs xs))
  (A:Option Addr) (m c:Nat) (ys:List (List UInt8)) (hx:a.eval x=.slice A m c) (hr:SRow w A m ys) (hb:(n+m) * 16≤140737488355328) (hbase:base≤w.heap.size)
  (h:∀ v' w',w'.ownsRow base 9 1 v' (n+m) (strs (xs ++ ys))→Below base w w'→wpList Tryz.prog ops Q rest (a.put o.dst v') w'):wpList Tryz.prog ops Q (o :: rest) a w:=by
 cases A with
 | some ad=>exact wpList_append_strs w hgd s x ho base v n xs hs hown (some ad) m c ys hx hr (fun e=>by cases e) hb hbase h
 | none =>
  obtain ⟨rfl,rfl⟩:=hr.nil
  obtain ⟨i,hi,_⟩:=info_parts strInfo
  have hrun:(Builtin.append_ #[45,45] o.type #[v,.slice none 0 c]).run Tryz.prog w=.ok v w:=by
   rcases hown.2 with ⟨rfl,rfl⟩ | ⟨g,cap,cur,rfl,_,_,hnc,_⟩
   ·simp [Builtin.append_,run_underlying Tryz.underlying45,sizeOf,typeInfo,hi,Builtin.lenOf,Builtin.firstCells]
   ·simp [Builtin.append_,run_underlying Tryz.underlying45,sizeOf,typeInfo,hi,Builtin.lenOf,Builtin.firstCells,hnc,storeCells]
  refine wpList_plain hgd fun K hK=>?_
  unfold Oper.wp execOp
  simp only [ho,resolve,invoke,builtin,Sem.run_bind,Sem.run_pure,Result.andThen_ok,List.map_toArray,List.map_cons,List.map_nil,hs,hx,hrun]
  exact hK _ _ (h v w (by simpa using hown) (Below.refl _ _))
def CopiedPost (w:World) (r:RCut) (e:Ending) (w':World):Prop :=
 ∃ r':RCut,e=.returned r'∧r'.cut=⟨r.kind,bare r.v⟩∧OwnC w' w.heap.size r'∧Below w.heap.size w w'

theorem copied_any (r:RCut) (w:World) (h:Lies w r) (hn:r.v.pre.length≤1000) :
  Calls Tryz.prog 195 #[.agg #[r.kind,r.v.a,r.v.b,r.v.c,.slice r.A r.v.pre.length r.c,.slice r.B r.v.build.length r.d]] w (CopiedPost w r):=by
 have HBa:Hid (Below w.heap.size w ((w.alloc r).alloc true)):=((Below.refl _ _).alloc (Nat.le_refl _) _).alloc (by simp) _
 have HL:=Lib.hid (h.kept HBa.out)
 have K0:Hid (At6B ((w.alloc r).alloc true) w.heap.size r.kind r.v.a r.v.b r.v.c (.slice r.A r.v.pre.length r.c) (.slice r.B r.v.build.length r.d)):=(At6B.new w _ _ _ _ _ _ _).kept ((Below.refl _ _).alloc (Nat.le_refl _) _) (by simp)
 have J0:Hid (At6B ((w.alloc r).alloc true) (w.heap.size+1) (.int .i64 0) (.int .u64 0) (.int .u64 0) (.int .u64 0) (.slice none 0 0) (.slice none 0 0)):=by
  have:=At6B.new (w.alloc r) 161 (.int .i64 0) (.int .u64 0) (.int .u64 0) (.int .u64 0) (.slice none 0 0) (.slice none 0 0)
  rw [size_alloc] at this; exact this
 clear h
 go_enter Tryz.func195,Tryz.ntmps195
 go_upto_region 1 with (fail)
 generalize ((w.alloc r).alloc true)=W at HBa HL K0 J0 ⊢
 obtain ⟨hz,_,x0,x1,x2,x3,x4,x5⟩:=K0.out
 have hy:=J0.out.1
 go_upto_region 3 with (first
  | (at_builtin; refine wpList_append_row _ rfl _ _ rfl W.heap.size _ 0 [] rfl (World.ownsRow_nil _ _ _ _) r.A r.v.pre.length r.c r.v.pre rfl HL.out.pre (by omega) (Nat.le_refl _) ?_; intro v3 w3 ho hb3; rw [Nat.zero_add,List.nil_append] at ho; obtain ⟨A3,c3,rfl,hc3,hr3⟩:=SRow.of_own ho; have R3:Hid (OwnC w3 W.heap.size ⟨r.kind,bare r.v,A3,c3,none,0⟩):=⟨ho,rfl,rfl,rfl,HL.out.fpre⟩; have K1:=Lib.hid (K0.out.kept hb3 hz); have J1:=Lib.hid (J0.out.kept hb3 hy); have B1:=Lib.hid (HBa.out.trans (hb3.mono HBa.out.size)); have hz3:=hb3.size; clear ho hr3 hb3 x0 x1 x2 x3 x4 x5; obtain ⟨_,hf,x0,x1,x2,x3,x4,x5⟩:=K1.out)
  | fail)
 have K2:=Lib.hid ((K1.out.set4 (.slice A3 r.v.pre.length c3)).set5 (.slice none 0 0))
 have J2:=Lib.hid ((J1.out.beside (b':=w.heap.size) (o:=4) (by omega) (.slice A3 r.v.pre.length c3)).beside (b':=w.heap.size) (o:=5) (by omega) (.slice none 0 0))
 have R4:=Lib.hid ((R3.out.set (b:=w.heap.size) (o:=4) hz (.slice A3 r.v.pre.length c3)).set (b:=w.heap.size) (o:=5) hz (.slice none 0 0))
 have B2:=Lib.hid ((B1.out.setCell (p:=⟨w.heap.size,4,none⟩) (Nat.le_refl _) (.slice A3 r.v.pre.length c3)).setCell (p:=⟨w.heap.size,5,none⟩) (Nat.le_refl _) (.slice none 0 0))
 clear x0 x1 x2 x3 x4 x5 R3 K1 J1 B1 hf
 generalize (w3.setCell ⟨w.heap.size,4,none⟩ (.slice A3 r.v.pre.length c3)).setCell ⟨w.heap.size,5,none⟩ (.slice none 0 0)=W4 at K2 J2 R4 B2 ⊢
 obtain ⟨_,_,x0,x1,x2,x3,x4,x5⟩:=K2.out
 obtain ⟨_,hg,y0,y1,y2,y3,y4,y5⟩:=J2.out
 have K3:=Lib.hid (J2.out.set6 r.kind r.v.a r.v.b r.v.c (.slice A3 r.v.pre.length c3) (.slice none 0 0))
 have B3:=Lib.hid (below_set6 B2.out (b:=w.heap.size+1) (by omega) r.kind r.v.a r.v.b r.v.c (.slice A3 r.v.pre.length c3) (.slice none 0 0))
 have R5:Hid (OwnC (Span.set6 W4 (w.heap.size+1) r.kind r.v.a r.v.b r.v.c (.slice A3 r.v.pre.length c3) (.slice none 0 0)) W.heap.size ⟨r.kind,bare r.v,A3,c3,none,0⟩):=R4.out.set6 hy _ _ _ _ _ _
 go_wp2
 change bodyPost _ _ _ _ _ (Span.set6 W4 (w.heap.size+1) r.kind r.v.a r.v.b r.v.c (.slice A3 r.v.pre.length c3) (.slice none 0 0))
 generalize Span.set6 W4 (w.heap.size+1) r.kind r.v.a r.v.b r.v.c (.slice A3 r.v.pre.length c3) (.slice none 0 0)=W5 at K3 B3 R5 ⊢
 obtain ⟨_,_,z0,z1,z2,z3,z4,z5⟩:=K3.out
 exact bodyPost_ret (v:=.agg #[r.kind,r.v.a,r.v.b,r.v.c,.slice A3 r.v.pre.length c3,.slice none 0 0]) (by simp [results,Tryz.results195,go_sem,z0,z1,z2,z3,z4,z5]) rfl ⟨⟨r.kind,bare r.v,A3,c3,none,0⟩,rfl,rfl,R5.out.mono HBa.out.size,B3.out⟩
end Go.Proofs.YtneilnibghhgmaaGreatDoor.Span
namespace Go.Proofs.YtneilnibghhgmaaGreatDoor.Span
open Go.RowKit Num Ident Semver Prec

def EdSrc (w:World) (v:Value) (re:List REdge):Prop :=
 ∃ A c,v=.slice A re.length c∧(A=none→re=[]∧c=0)∧∀ ad,A=some ad→ad.block<w.heap.size∧∀ j u,(re.flatMap REdge.vals)[j]?=some u→w.cell? (ad.add j)=some u
theorem EdSrc.kept {w w':World} {v:Value} {re:List REdge} (h:EdSrc w v re) (hb:Below w.heap.size w w'):EdSrc w' v re:=by
 obtain ⟨A,c,rfl,h1,h2⟩:=h
 refine ⟨A,c,rfl,h1,fun ad ha=>?_⟩
 obtain ⟨h3,h4⟩:=h2 ad ha
 refine ⟨Nat.lt_of_lt_of_le h3 hb.size,fun j u hu=>?_⟩
 rw [hb.cell (by unfold Addr.add; split <;> exact h3)]; exact h4 j u hu
theorem EdSrc.of_own {w:World} {base:Nat} {v:Value} {re:List REdge} (h:w.ownsRow base 198 7 v re.length (re.flatMap REdge.vals)):EdSrc w v re:=by
 have hcs:=fun g=>h.cells (g:=g)
 have hlt:=h.lt
 rcases h.2 with ⟨rfl,h0⟩ | ⟨g,cap,cur,rfl,_,hg,_⟩
 ·have:re=[]:=List.eq_nil_of_length_eq_zero h0
  subst this
  exact ⟨none,0,rfl,fun _=>⟨rfl,rfl⟩,fun ad ha=>by cases ha⟩
 ·refine ⟨_,cap,rfl,(fun e=>by cases e),fun ad ha=>?_⟩
  injection ha with ha
  subst ha
  exact ⟨(hlt g rfl).2,fun j u hu=>hcs g rfl j u hu⟩
theorem run_append_ed (w:World) (ty:TypeId) (base:Nat) (v:Value) (n:Nat) (l:List REdge) (hown:w.ownsRow base 198 7 v n (l.flatMap REdge.vals)) (x:Value) (r:List REdge) (hr:EdSrc w x r) (hb:(n+r.length) * 88≤140737488355328) (hbase:base≤w.heap.size) :
  ∃ v' w',(Builtin.append_ #[195,195] ty #[v,x]).run Tryz.prog w=.ok v' w'∧w'.ownsRow base 198 7 v' (n+r.length) ((l ++ r).flatMap REdge.vals)∧w.grownBy w' v.ownBlock:=by
 obtain ⟨i,hi,hz,hs,hby⟩:=info_parts edInfo
 obtain ⟨A,c,rfl,h1,h2⟩:=hr
 cases A with
 | none =>
  obtain ⟨rfl,rfl⟩:=h1 rfl
  exact ⟨v,w,run_append_owned_none (P:=Tryz.prog) (w:=w) base 195 ty 198 i 7 Tryz.underlying195 hi v n _ hown,by simpa using hown,World.grownBy.refl w _⟩
 | some ad =>
  obtain ⟨v',w',h3,h4,h5,_⟩:=run_append_own (P:=Tryz.prog) w base 195 ty 198 i _ 7 88 Tryz.underlying195 hi hz hs hby rfl (by omega) v n _ hown ad r.length c (r.flatMap REdge.vals)
   (by rw [flat_len _ 7 evals_len]) (h2 ad rfl).2 (flat_one _ evals_one r) (by unfold maxLen; omega) hb hbase
  exact ⟨v',w',h3,by rw [List.flatMap_append]; exact h4,h5⟩
theorem wpList_append_eds (w:World) {ops:Array Oper} {rest:List Oper} {o:Oper} {a:Act} {Q:Exit→Act→World→Prop} (hgd:o.guard=none) (s x:Operand)
  (ho:o.op=.call { callee:=.builtin .append,args:=#[s,x],argTypes:=#[195,195] })
  (base:Nat) (v:Value) (n:Nat) (l:List REdge) (hs:a.eval s=v) (hown:w.ownsRow base 198 7 v n (l.flatMap REdge.vals)) (y:Value) (r:List REdge) (hx:a.eval x=y) (hr:EdSrc w y r) (hb:(n+r.length) * 88≤140737488355328) (hbase:base≤w.heap.size)
  (h:∀ v' w',w'.ownsRow base 198 7 v' (n+r.length) ((l ++ r).flatMap REdge.vals)→Below base w w'→wpList Tryz.prog ops Q rest (a.put o.dst v') w'):wpList Tryz.prog ops Q (o :: rest) a w:=by
 refine wpList_plain hgd fun K hK=>?_
 obtain ⟨v',w',hrun,h2,h3⟩:=run_append_ed w o.type base v n l hown y r hr hb hbase
 unfold Oper.wp execOp
 simp only [ho,resolve,invoke,builtin,Sem.run_bind,Sem.run_pure,Result.andThen_ok,List.map_toArray,List.map_cons,List.map_nil,hs,hx,hrun]
 exact hK _ _ (h v' w' h2 ((Below.refl base w).grown h3 hbase fun k hk=>(hown.lt k hk).1))
def GrowPost (w:World) (e:Ending) (w':World):Prop:=∃ v,e=.returned v∧w'.ownsRow w.heap.size 198 7 v 0 []∧Below w.heap.size w w'
theorem grow_any (n:Nat) (w:World) (hn:n≤1000000):Calls Tryz.prog 196 #[.slice none 0 0,.int .i64 n] w (GrowPost w):=by
 obtain ⟨i,hi,hz,hs,hby⟩:=info_parts edInfo
 by_cases h0:n=0
 ·subst h0
  exact (Any8.slices_Grow_room Tryz.growL none 0 0 0 w (Nat.le_refl _) (by omega) (by omega) (Nat.le_refl _)).mono fun e w' ⟨he,hw⟩=>by
   subst hw; exact ⟨_,he,World.ownsRow_nil _ _ _ _,Below.refl _ _⟩
 ·refine (Any8.slices_Grow_grow Tryz.growL i _ hi hz (by rw [hs]; omega) none 0 0 n [] w (Nat.le_refl _) (by omega) (by rw [hby]; omega) (by omega) (by simp) (fun _=>rfl) (fun a ha=>by cases ha)).mono fun e w' ⟨he,hw⟩=>?_
  have h1:=grownCap_ge w (0+n) 0 198
  have h2:=grownCap_le_maxLen w (0+n) 0 198 (by unfold maxLen; omega)
  refine ⟨_,he,?_,?_⟩
  ·rw [hw]
   refine World.ownsRow_made (base:=w.heap.size) (e:=198) (size:=7) w.drew _ _ (Nat.le_refl _) h2 ?_
   rw [Array.size_append,Array.size_append,size_zeroCells,size_zeroCells]
   show 0+(0+n - 0) * 7+(grownCap w (0+n) 0 198 - (0+n)) * 7=grownCap w (0+n) 0 198 * 7
   omega
  ·rw [hw]; exact ((Below.refl _ _).drew).alloc (Nat.le_refl _) _
def ConcatPost (w:World) (re:List REdge) (e:Ending) (w':World):Prop:=∃ v,e=.returned v∧w'.ownsRow w.heap.size 198 7 v re.length (re.flatMap REdge.vals)∧Below w.heap.size w w'
def upto (r1 r2:List REdge) (k:Nat):List REdge:=if k=0 then [] else if k=1 then r1 else r1 ++ r2
def ConcatJ (w:World) (r1 r2:List REdge) (v iv:Value) (W:World):Prop :=
 ∃ k:Nat,k≤2∧iv=.int .i64 k∧W.ownsRow w.heap.size 198 7 v (upto r1 r2 k).length ((upto r1 r2 k).flatMap REdge.vals)∧Below w.heap.size w W

theorem concat_any (q:Nat) (v1 v2:Value) (r1 r2:List REdge) (w:World) (hq:q<w.heap.size) (c1:w.cell? ⟨q,0,none⟩=some v1) (c2:w.cell? ⟨q,1,none⟩=some v2) (s1:EdSrc w v1 r1) (s2:EdSrc w v2 r2) (h1:r1.length≤100000) (h2:r2.length≤100000) :
  Calls Tryz.prog 176 #[.slice (some ⟨q,0,none⟩) 2 2] w (ConcatPost w (r1 ++ r2)):=by
 have S1:=Lib.hid s1
 have S2:=Lib.hid s2
 obtain ⟨A1,d1,rfl,_,_⟩:=s1
 obtain ⟨A2,d2,rfl,_,_⟩:=s2
 go_enter Tryz.func176,Tryz.ntmps176
 go_wp2
 go_loop [3,11] (fun n i=>∃ k:Nat,k≤2∧i=.int .i64 k∧n=.int .i64 ((upto r1 r2 k).length)) (fun _ i=>2 - (intOf i).toNat)
 case atStart=>exact ⟨0,by omega,rfl,rfl⟩
 case round =>
  obtain ⟨k,hk,rfl,rfl⟩:=hrel
  obtain rfl | rfl | rfl:k=0∨k=1∨k=2:=by omega
  ·have e0:(upto r1 r2 0).length=0:=rfl
   rw [e0]
   go_wp2
   exact ⟨⟨1,by omega,rfl,rfl⟩,by simp [intOf]⟩
  ·have e0:(upto r1 r2 1).length=r1.length:=rfl
   rw [e0]
   go_wp2
   exact ⟨⟨2,by omega,rfl,by show _=Value.int .i64 (((r1 ++ r2).length:Nat):Int); rw [List.length_append,Int.natCast_add]⟩,by simp [intOf]⟩
  ·have e0:(upto r1 r2 2).length=r1.length+r2.length:=by show (r1 ++ r2).length=_; rw [List.length_append]
   rw [e0]
   have HG:Hid (Calls Tryz.prog 196 #[.slice none 0 0,.int .i64 ((r1.length:Int)+(r2.length:Int))] w (GrowPost w)):=by
    have:=grow_any (r1.length+r2.length) w (by omega); rw [Int.natCast_add] at this; exact this
   clear e0
   go_wp2_with fail
   refine HG.out.mono ?_
   rintro e w1 ⟨v,rfl,ho,hb⟩
   have HO:=Lib.hid ho
   have HB:=Lib.hid hb
   clear ho hb HG
   go_wp2
   go_loopw [6,27] (fun v i W=>ConcatJ w r1 r2 v i W) (fun _ i _=>2 - (intOf i).toNat)
   case atStart=>exact ⟨0,by omega,rfl,HO.out,HB.out⟩
   case round =>
    obtain ⟨k,hk,rfl,hown,hbel⟩:=hrel
    have HO1:=Lib.hid hown
    have HB1:=Lib.hid hbel
    have hsz:=hbel.size
    have T1:=Lib.hid (S1.out.kept hbel)
    have T2:=Lib.hid (S2.out.kept hbel)
    have x1:=(hbel.cell (p:=⟨q,0,none⟩) hq).trans c1
    have x2:=(hbel.cell (p:=⟨q,1,none⟩) hq).trans c2
    clear hown hbel HO HB
    obtain rfl | rfl | rfl:k=0∨k=1∨k=2:=by omega
    ·go_wp2_with (first
      | (at_builtin; refine wpList_append_eds _ rfl _ _ rfl w.heap.size _ 0 [] rfl HO1.out _ r1 rfl T1.out (by omega) hsz ?_; intro v4 w4 ho4 hb4; have HB4:=Lib.hid (HB1.out.trans hb4); have HO4:=Lib.hid ho4; clear ho4 hb4)
      | fail)
     refine ⟨⟨1,by omega,rfl,?_,HB4.out⟩,by simp [intOf]⟩
     have:=HO4.out
     rw [Nat.zero_add,List.nil_append] at this
     exact this
    ·go_wp2_with (first
      | (at_builtin; refine wpList_append_eds _ rfl _ _ rfl w.heap.size _ r1.length r1 rfl HO1.out _ r2 rfl T2.out (by omega) hsz ?_; intro v4 w4 ho4 hb4; have HB4:=Lib.hid (HB1.out.trans hb4); have HO4:=Lib.hid ho4; clear ho4 hb4)
      | fail)
     refine ⟨⟨2,by omega,rfl,?_,HB4.out⟩,by simp [intOf]⟩
     have:=HO4.out
     rw [← List.length_append] at this
     exact this
    ·go_wp2
     exact bodyPost_ret (v:=u6) (by simp [results,Tryz.results176,go_sem]) rfl ⟨u6,rfl,HO1.out,HB1.out⟩
end Go.Proofs.YtneilnibghhgmaaGreatDoor.Span
namespace Go.Proofs.YtneilnibghhgmaaGreatDoor.Span
open Go.RowKit Num Ident Semver Prec

def hasOne (a b:Cut) (s:Sp):Bool:=decide (cmpC s.lo a≤0) && decide (0≤cmpC s.hi b)

theorem has1_any (s:RSp) (ra rb:RCut) (p1 p2:Nat) (w:World) (h:LiesS w s) (k1:At6B w p1 ra.kind ra.v.a ra.v.b ra.v.c (.slice ra.A ra.v.pre.length ra.c) (.slice ra.B ra.v.build.length ra.d)) (k2:At6B w p2 rb.kind rb.v.a rb.v.b rb.v.c (.slice rb.A rb.v.pre.length rb.c) (.slice rb.B rb.v.build.length rb.d)) (h1:Lies w ra) (h2:Lies w rb) :
  Calls Tryz.prog 120 #[.agg #[s.lo.kind,s.lo.v.a,s.lo.v.b,s.lo.v.c,.slice s.lo.A s.lo.v.pre.length s.lo.c,.slice s.lo.B s.lo.v.build.length s.lo.d,s.hi.kind,s.hi.v.a,s.hi.v.b,s.hi.v.c,.slice s.hi.A s.hi.v.pre.length s.hi.c,.slice s.hi.B s.hi.v.build.length s.hi.d],.pointer (some ⟨p1,0,none⟩),.pointer (some ⟨p2,0,none⟩)] w fun e w'=>e=.returned (.bool (hasOne ra.cut rb.cut s.sp))∧Below w.heap.size w w':=by
 have HBa:Hid (Below w.heap.size w (w.alloc (s.lo,s.hi))):=(Below.refl _ _).alloc (Nat.le_refl _) _
 have HL:=Lib.hid (h.kept HBa.out)
 have HA:=Lib.hid (h1.kept HBa.out)
 have HB:=Lib.hid (h2.kept HBa.out)
 have K0:Hid (At12B (w.alloc (s.lo,s.hi)) w.heap.size s.lo.kind s.lo.v.a s.lo.v.b s.lo.v.c (.slice s.lo.A s.lo.v.pre.length s.lo.c) (.slice s.lo.B s.lo.v.build.length s.lo.d) s.hi.kind s.hi.v.a s.hi.v.b s.hi.v.c (.slice s.hi.A s.hi.v.pre.length s.hi.c) (.slice s.hi.B s.hi.v.build.length s.hi.d)):=At12B.new w _ _ _ _ _ _ _ _ _ _ _ _ _
 have Y0:=Lib.hid (k1.kept HBa.out k1.1)
 have Z0:=Lib.hid (k2.kept HBa.out k2.1)
 clear h h1 h2 k1 k2
 have HF:Hid (hasOne ra.cut rb.cut s.sp=(decide (cmpC s.lo.cut ra.cut≤0) && decide (0≤cmpC s.hi.cut rb.cut))):=rfl
 go_enter Tryz.func120,Tryz.ntmps120
 go_upto_region 1 with (fail)
 generalize (w.alloc (s.lo,s.hi))=W at HBa HL HA HB K0 Y0 Z0 ⊢
 obtain ⟨hz,_,x0,x1,x2,x3,x4,x5,x6,x7,x8,x9,x10,x11⟩:=K0.out
 obtain ⟨hy,_,y0,y1,y2,y3,y4,y5⟩:=Y0.out
 go_wp2_with fail
 refine (compareC_any s.lo ra _ HL.out.lo HA.out).mono ?_
 rintro e w1 ⟨rfl,hb1⟩
 have K1:=Lib.hid (K0.out.kept hb1 hz)
 have Z1:=Lib.hid (Z0.out.kept hb1 Z0.out.1)
 have L1:=Lib.hid (HL.out.kept hb1)
 have M1:=Lib.hid (HB.out.kept hb1)
 have B1:=Lib.hid (HBa.out.trans (hb1.mono HBa.out.size))
 clear hb1 hz hy x0 x1 x2 x3 x4 x5 x6 x7 x8 x9 x10 x11 y0 y1 y2 y3 y4 y5
 obtain ⟨hz1,_,x0,x1,x2,x3,x4,x5,x6,x7,x8,x9,x10,x11⟩:=K1.out
 obtain ⟨_,_,z0,z1,z2,z3,z4,z5⟩:=Z1.out
 generalize cmpC s.lo.cut ra.cut=c1 at HF ⊢
 by_cases hc:c1≤0
 ·have hd:decide (c1≤0)=true:=decide_eq_true hc
  go_wp2_with fail
  refine (compareC_any s.hi rb _ L1.out.hi M1.out).mono ?_
  rintro e w2 ⟨rfl,hb2⟩
  have B2:=Lib.hid (B1.out.trans (hb2.mono B1.out.size))
  clear hb2 x0 x1 x2 x3 x4 x5 x6 x7 x8 x9 x10 x11 z0 z1 z2 z3 z4 z5
  generalize cmpC s.hi.cut rb.cut=c2 at HF ⊢
  by_cases hc2:0≤c2
  ·have HF2:Hid (hasOne ra.cut rb.cut s.sp=true):=by have:=HF.out; unfold Hid; rw [this]; simp [hc,hc2]
   clear HF
   go_wp2
   go_ret
   exact ⟨by rw [HF2.out]; rfl,B2.out⟩
  ·have HF2:Hid (hasOne ra.cut rb.cut s.sp=false):=by have:=HF.out; unfold Hid; rw [this]; simp [hc]; omega
   have hd2:decide (0≤c2)=false:=decide_eq_false hc2
   clear HF
   go_wp2
   go_ret
   exact ⟨by rw [HF2.out]; rfl,B2.out⟩
 ·have HF2:Hid (hasOne ra.cut rb.cut s.sp=false):=by have:=HF.out; unfold Hid; rw [this,decide_eq_false hc]; rfl
  have hd:decide (c1≤0)=false:=decide_eq_false hc
  clear HF
  go_wp2
  go_ret
  exact ⟨by rw [HF2.out]; rfl,B1.out⟩

structure LaidS (w:World) where
 s:RSp
 h:LiesS w s
instance (w:World):Inhabited (LaidS w):=⟨⟨⟨rlow,rlow⟩,⟨Lies.low w,Lies.low w⟩⟩⟩
theorem index_none (P:Option Addr) (c:Nat) (f:Value) (w:World):Calls Tryz.prog 149 #[.slice P 0 c,f] w fun e w'=>e=.returned (.int .i64 (-1))∧w=w':=by
 go_enter Tryz.func149,Tryz.ntmps149
 go_wp2
 go_loop [5,8] (fun _ i=>i=.int .i64 0) (fun _ _=>0)
 case atStart=>rfl
 case round =>
  subst hrel
  go_wp2
  go_ret
  exact ⟨rfl,rfl⟩
theorem contains_none (P:Option Addr) (c:Nat) (f:Value) (w:World):Calls Tryz.prog 119 #[.slice P 0 c,f] w fun e w'=>e=.returned (.bool false)∧w=w':=by
 go_enter Tryz.func119,Tryz.ntmps119
 go_wp2_with fail
 refine (index_none _ _ _ _).mono ?_
 rintro e w' ⟨rfl,rfl⟩
 go_wp2
 go_ret
 exact ⟨rfl,rfl⟩
theorem contains_any (P:Option Addr) (n c:Nat) (l:List RSp) (p1 p2:Nat) (ra rb:RCut) (w:World) (hr:SpRow w P n l) (hn:n≤100000) (k1:At6B w p1 ra.kind ra.v.a ra.v.b ra.v.c (.slice ra.A ra.v.pre.length ra.c) (.slice ra.B ra.v.build.length ra.d)) (k2:At6B w p2 rb.kind rb.v.a rb.v.b rb.v.c (.slice rb.A rb.v.pre.length rb.c) (.slice rb.B rb.v.build.length rb.d)) (h1:Lies w ra) (h2:Lies w rb) :
  Calls Tryz.prog 119 #[.slice P n c,.func (.func 120) #[] #[.pointer (some ⟨p1,0,none⟩),.pointer (some ⟨p2,0,none⟩)]] w fun e w'=>e=.returned (.bool ((l.map RSp.sp).any (hasOne ra.cut rb.cut)))∧Below w.heap.size w w':=by
 obtain ⟨hl,hlie,hc⟩:=hr
 rcases Nat.eq_zero_or_pos n with h0 | h0
 ·subst h0
  obtain rfl:l=[]:=List.eq_nil_of_length_eq_zero hl
  exact (contains_none P c _ w).mono fun e w' ⟨he,hw⟩=>⟨he,by subst hw; exact Below.refl _ _⟩
 ·obtain ⟨b,o,rfl,hb,hcell⟩:=hc h0
  obtain ⟨zs,hz⟩:∃ zs:List (LaidS w),zs.map LaidS.s=l:=⟨l.pmap (fun s h=>(⟨s,h⟩:LaidS w)) hlie,by simp [List.map_pmap]⟩
  have hzl:zs.length=n:=by rw [← hl,← hz,List.length_map]
  have hp:PredBelow Tryz.prog 120 #[.pointer (some ⟨p1,0,none⟩),.pointer (some ⟨p2,0,none⟩)] (fun x:LaidS w=>.agg x.s.vals.toArray) (fun x=>hasOne ra.cut rb.cut x.s.sp) w:=by
   intro W x hB
   exact (has1_any x.s ra rb p1 p2 W (x.h.kept hB) (k1.kept hB k1.1) (k2.kept hB k2.1) (h1.kept hB) (h2.kept hB)).mono fun e w' ⟨he,hb'⟩=>⟨he,hB.trans (hb'.mono hB.size)⟩
  have hcon:=AnyQ.slices_ContainsFunc Tryz.hasL 12 Tryz.isAgg164 Tryz.sizeOf164 (fun x:LaidS w=>x.s.vals) (fun _=>rfl) (fun x=>hasOne ra.cut rb.cut x.s.sp) 120 #[.pointer (some ⟨p1,0,none⟩),.pointer (some ⟨p2,0,none⟩)] (enters_of Tryz.func120 (by kernel_rfl) rfl) b o n c zs w hp (by rw [hzl]; exact Nat.le_refl _) (by omega) hb
   (fun j hj i v hv=>hcell j (by omega) i v (by
    have e:l.getD j default=zs[j]!.s:=by
     rw [getElem!_pos zs j hj,← hz]; simp [List.getD,hj]
    rw [e]; exact hv))
  refine hcon.mono fun e w' ⟨he,hb'⟩=>⟨?_,hb'⟩
  rw [he,List.take_of_length_le (by rw [hzl]; exact Nat.le_refl _),← hz,List.map_map,List.any_map]; rfl

theorem has_any (P:Option Addr) (n c:Nat) (l:List RSp) (v:Ver) (A:Option Addr) (cA:Nat) (B:Option Addr) (cB:Nat) (w:World) (hr:SpRow w P n l) (hn:n≤100000) (h1:SRow w A v.pre.length v.pre) (hf:Fit v.pre) :
  Calls Tryz.prog 84 #[.slice P n c,.agg #[v.a,v.b,v.c,.slice A v.pre.length cA,.slice B v.build.length cB]] w fun e w'=>e=.returned (.bool ((l.map RSp.sp).any (hasOne (aheadOf v) (behindOf v))))∧Below w.heap.size w w':=by
 have HR:=Lib.hid hr
 have HS:=Lib.hid h1
 have HF:=Lib.hid hf
 clear hr h1 hf
 generalize hg:(l.map RSp.sp).any (hasOne (aheadOf v) (behindOf v))=g
 have HG:=Lib.hid hg
 clear hg
 go_enter Tryz.func84,Tryz.ntmps84
 go_upto_region 2 with (fail)
 go_region
 ·have HB:Hid (Below w.heap.size w (((w.alloc (.cells #[v.a,v.b,v.c,.slice A v.pre.length cA,.slice none 0 0] 47)).alloc (.cells #[.int .i64 1,v.a,v.b,v.c,.slice A v.pre.length cA,.slice none 0 0] 161)).alloc (.cells #[.int .i64 2,v.a,v.b,v.c,.slice A v.pre.length cA,.slice none 0 0] 161)).drew):=(((((Below.refl _ _).alloc (Nat.le_refl _) _).alloc (by simp) _).alloc (by simp; omega) _)).drew
  have Q1:Hid (At6B (((w.alloc (.cells #[v.a,v.b,v.c,.slice A v.pre.length cA,.slice none 0 0] 47)).alloc (.cells #[.int .i64 1,v.a,v.b,v.c,.slice A v.pre.length cA,.slice none 0 0] 161)).alloc (.cells #[.int .i64 2,v.a,v.b,v.c,.slice A v.pre.length cA,.slice none 0 0] 161)).drew (w.heap.size+1) (.int .i64 1) v.a v.b v.c (.slice A v.pre.length cA) (.slice none 0 0)):=by
   have q:=(At6B.new (w.alloc (.cells #[v.a,v.b,v.c,.slice A v.pre.length cA,.slice none 0 0] 47)) 161 (.int .i64 1) v.a v.b v.c (.slice A v.pre.length cA) (.slice none 0 0)).kept ((Below.refl _ _).alloc (Nat.le_refl _) (.cells #[.int .i64 2,v.a,v.b,v.c,.slice A v.pre.length cA,.slice none 0 0] 161)) (by simp)
   rw [size_alloc] at q; exact q
  have Q2:Hid (At6B (((w.alloc (.cells #[v.a,v.b,v.c,.slice A v.pre.length cA,.slice none 0 0] 47)).alloc (.cells #[.int .i64 1,v.a,v.b,v.c,.slice A v.pre.length cA,.slice none 0 0] 161)).alloc (.cells #[.int .i64 2,v.a,v.b,v.c,.slice A v.pre.length cA,.slice none 0 0] 161)).drew (w.heap.size+1+1) (.int .i64 2) v.a v.b v.c (.slice A v.pre.length cA) (.slice none 0 0)):=by
   have q:=At6B.new ((w.alloc (.cells #[v.a,v.b,v.c,.slice A v.pre.length cA,.slice none 0 0] 47)).alloc (.cells #[.int .i64 1,v.a,v.b,v.c,.slice A v.pre.length cA,.slice none 0 0] 161)) 161 (.int .i64 2) v.a v.b v.c (.slice A v.pre.length cA) (.slice none 0 0)
   rw [size_alloc,size_alloc] at q; exact q
  generalize (((w.alloc (.cells #[v.a,v.b,v.c,.slice A v.pre.length cA,.slice none 0 0] 47)).alloc (.cells #[.int .i64 1,v.a,v.b,v.c,.slice A v.pre.length cA,.slice none 0 0] 161)).alloc (.cells #[.int .i64 2,v.a,v.b,v.c,.slice A v.pre.length cA,.slice none 0 0] 161)).drew=W at HB Q1 Q2 ⊢
  have HV:Hid (SRow W A v.pre.length v.pre):=HS.out.kept HB.out
  go_wp2_with fail
  refine (contains_any P n c l _ _ ⟨1,bare v,A,cA,none,0⟩ ⟨2,bare v,A,cA,none,0⟩ _ (HR.out.kept HB.out) hn Q1.out Q2.out ⟨HV.out,SRow.none_ _ _,HF.out,Fit.nil⟩ ⟨HV.out,SRow.none_ _ _,HF.out,Fit.nil⟩).mono ?_
  rintro e w1 ⟨he,hb1⟩
  have he2:e=.returned (.bool g):=by rw [← HG.out]; exact he
  subst he2
  clear he
  have B1:=Lib.hid (HB.out.trans (hb1.mono HB.out.size))
  clear hb1
  go_wp2
  go_ret
  exact ⟨rfl,B1.out⟩
 ·have HB:Hid (Below w.heap.size w (((w.alloc (.cells #[v.a,v.b,v.c,.slice A v.pre.length cA,.slice none 0 0] 47)).alloc (.cells #[.int .i64 2,v.a,v.b,v.c,.slice A v.pre.length cA,.slice none 0 0] 161)).alloc (.cells #[.int .i64 1,v.a,v.b,v.c,.slice A v.pre.length cA,.slice none 0 0] 161)).drew):=(((((Below.refl _ _).alloc (Nat.le_refl _) _).alloc (by simp) _).alloc (by simp; omega) _)).drew
  have Q1:Hid (At6B (((w.alloc (.cells #[v.a,v.b,v.c,.slice A v.pre.length cA,.slice none 0 0] 47)).alloc (.cells #[.int .i64 2,v.a,v.b,v.c,.slice A v.pre.length cA,.slice none 0 0] 161)).alloc (.cells #[.int .i64 1,v.a,v.b,v.c,.slice A v.pre.length cA,.slice none 0 0] 161)).drew (w.heap.size+1) (.int .i64 2) v.a v.b v.c (.slice A v.pre.length cA) (.slice none 0 0)):=by
   have q:=(At6B.new (w.alloc (.cells #[v.a,v.b,v.c,.slice A v.pre.length cA,.slice none 0 0] 47)) 161 (.int .i64 2) v.a v.b v.c (.slice A v.pre.length cA) (.slice none 0 0)).kept ((Below.refl _ _).alloc (Nat.le_refl _) (.cells #[.int .i64 1,v.a,v.b,v.c,.slice A v.pre.length cA,.slice none 0 0] 161)) (by simp)
   rw [size_alloc] at q; exact q
  have Q2:Hid (At6B (((w.alloc (.cells #[v.a,v.b,v.c,.slice A v.pre.length cA,.slice none 0 0] 47)).alloc (.cells #[.int .i64 2,v.a,v.b,v.c,.slice A v.pre.length cA,.slice none 0 0] 161)).alloc (.cells #[.int .i64 1,v.a,v.b,v.c,.slice A v.pre.length cA,.slice none 0 0] 161)).drew (w.heap.size+1+1) (.int .i64 1) v.a v.b v.c (.slice A v.pre.length cA) (.slice none 0 0)):=by
   have q:=At6B.new ((w.alloc (.cells #[v.a,v.b,v.c,.slice A v.pre.length cA,.slice none 0 0] 47)).alloc (.cells #[.int .i64 2,v.a,v.b,v.c,.slice A v.pre.length cA,.slice none 0 0] 161)) 161 (.int .i64 1) v.a v.b v.c (.slice A v.pre.length cA) (.slice none 0 0)
   rw [size_alloc,size_alloc] at q; exact q
  generalize (((w.alloc (.cells #[v.a,v.b,v.c,.slice A v.pre.length cA,.slice none 0 0] 47)).alloc (.cells #[.int .i64 2,v.a,v.b,v.c,.slice A v.pre.length cA,.slice none 0 0] 161)).alloc (.cells #[.int .i64 1,v.a,v.b,v.c,.slice A v.pre.length cA,.slice none 0 0] 161)).drew=W at HB Q1 Q2 ⊢
  have HV:Hid (SRow W A v.pre.length v.pre):=HS.out.kept HB.out
  go_wp2_with fail
  refine (contains_any P n c l _ _ ⟨1,bare v,A,cA,none,0⟩ ⟨2,bare v,A,cA,none,0⟩ _ (HR.out.kept HB.out) hn Q2.out Q1.out ⟨HV.out,SRow.none_ _ _,HF.out,Fit.nil⟩ ⟨HV.out,SRow.none_ _ _,HF.out,Fit.nil⟩).mono ?_
  rintro e w1 ⟨he,hb1⟩
  have he2:e=.returned (.bool g):=by rw [← HG.out]; exact he
  subst he2
  clear he
  have B1:=Lib.hid (HB.out.trans (hb1.mono HB.out.size))
  clear hb1
  go_wp2
  go_ret
  exact ⟨rfl,B1.out⟩

end Go.Proofs.YtneilnibghhgmaaGreatDoor.Span
namespace Go.Proofs.YtneilnibghhgmaaGreatDoor.Range
open Go.RowKit Num Ident Semver
def LtB (B g:Nat):Prop:=g<B
theorem RgRow.one {w:World} {S:Nat→Prop} {L:Option Addr} {n:Nat} {l:List Rng} (h:RgRow w S L n l) {j:Nat} (hj:j<n):∃ b o x,L=some ⟨b,o,none⟩∧S b∧CellsAt w b (o+j * 7) x∧Lies w S (l.getD j noRng) x:=by
 obtain ⟨f,_,h2,h3⟩:=h
 obtain ⟨b,o,e,hb,hc⟩:=h2 (by omega)
 exact ⟨b,o,f j,e,hb,hc j hj,h3 j hj⟩
end Go.Proofs.YtneilnibghhgmaaGreatDoor.Range
