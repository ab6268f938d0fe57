/-
  What the theorem of the last text needs of these: SpMem, PrFullD, SpCuts, SpOwn, SpCame. Conditions: as each theorem states.
-/
import Derived.Test.YtnpjklaaokiikaaGreatDoorSvA1
import Derived.Test.YtnpjklaaokiikaaGreatDoorSvA2
import Derived.Test.YtnpjklaaokiikaaGreatDoorSvA4
import Derived.Test.YtnpjklaaokiikaaGreatDoorSvA7
import Derived.Test.YtnpjklaaokiikaaGreatDoorSvA8
import Derived.Test.YtnpjklaaokiikaaGreatDoorSvA10
import Derived.Deep.Slices
import Derived.Deep.Fields
import Derived.ChangeSame
set_option maxRecDepth 100000
set_option maxHeartbeats 25600000
namespace Go.Proofs.YtnpjklaaokiikaaGreatDoor.Span
open Go.RowKit Num Ident Semver Prec

structure RCut where
 kind:Int
 v:Ver
 A:Option Addr
 c:Nat
 B:Option Addr
 d:Nat
instance:Coe RCut Obj:=⟨fun x=>.cells #[.int .i64 x.kind,.int .u64 x.v.a,.int .u64 x.v.b,.int .u64 x.v.c,.slice x.A x.v.pre.length x.c,.slice x.B x.v.build.length x.d] 187⟩
instance:Coe RCut Value:=⟨fun x=>.agg #[.int .i64 x.kind,.int .u64 x.v.a,.int .u64 x.v.b,.int .u64 x.v.c,.slice x.A x.v.pre.length x.c,.slice x.B x.v.build.length x.d]⟩
instance (x y:RCut):CoeDep (RCut × RCut) (x,y) Value:=⟨.agg #[.int .i64 x.kind,.int .u64 x.v.a,.int .u64 x.v.b,.int .u64 x.v.c,.slice x.A x.v.pre.length x.c,.slice x.B x.v.build.length x.d,.int .i64 y.kind,.int .u64 y.v.a,.int .u64 y.v.b,.int .u64 y.v.c,.slice y.A y.v.pre.length y.c,.slice y.B y.v.build.length y.d]⟩
instance (x y:RCut):CoeDep (RCut × RCut) (x,y) Obj:=⟨.cells #[.int .i64 x.kind,.int .u64 x.v.a,.int .u64 x.v.b,.int .u64 x.v.c,.slice x.A x.v.pre.length x.c,.slice x.B x.v.build.length x.d,.int .i64 y.kind,.int .u64 y.v.a,.int .u64 y.v.b,.int .u64 y.v.c,.slice y.A y.v.pre.length y.c,.slice y.B y.v.build.length y.d] 190⟩
instance (x:Ver) (A B:Option Addr) (c d:Nat):CoeDep (Ver × Option Addr × Nat × Option Addr × Nat) (x,A,c,B,d) Obj:=⟨.cells #[.int .u64 x.a,.int .u64 x.b,.int .u64 x.c,.slice A x.pre.length c,.slice B x.build.length d] 34⟩
def RCut.cut (r:RCut):Cut:=⟨r.kind,r.v⟩
structure RSp where
 lo:RCut
 hi:RCut
def RSp.sp (s:RSp):Sp:=⟨s.lo.cut,s.hi.cut⟩
structure REdge where
 cut:RCut
 step:Int
def REdge.edge (e:REdge):Edge:=⟨e.cut.cut,e.step⟩
def rlow:RCut:=⟨0,noVer,none,0,none,0⟩
def rhigh:RCut:=⟨3,noVer,none,0,none,0⟩
instance:Inhabited RSp:=⟨⟨rlow,rlow⟩⟩
instance:Inhabited REdge:=⟨⟨rlow,0⟩⟩
def RCut.vals (r:RCut):List Value:=[.int .i64 r.kind,.int .u64 r.v.a,.int .u64 r.v.b,.int .u64 r.v.c,.slice r.A r.v.pre.length r.c,.slice r.B r.v.build.length r.d]
def RSp.vals (s:RSp):List Value:=[.int .i64 s.lo.kind,.int .u64 s.lo.v.a,.int .u64 s.lo.v.b,.int .u64 s.lo.v.c,.slice s.lo.A s.lo.v.pre.length s.lo.c,.slice s.lo.B s.lo.v.build.length s.lo.d,.int .i64 s.hi.kind,.int .u64 s.hi.v.a,.int .u64 s.hi.v.b,.int .u64 s.hi.v.c,.slice s.hi.A s.hi.v.pre.length s.hi.c,.slice s.hi.B s.hi.v.build.length s.hi.d]
def REdge.vals (e:REdge):List Value:=[.int .i64 e.cut.kind,.int .u64 e.cut.v.a,.int .u64 e.cut.v.b,.int .u64 e.cut.v.c,.slice e.cut.A e.cut.v.pre.length e.cut.c,.slice e.cut.B e.cut.v.build.length e.cut.d,.int .i64 e.step]
structure Lies (w:World) (r:RCut):Prop where
 pre:SRow w r.A r.v.pre.length r.v.pre
 build:SRow w r.B r.v.build.length r.v.build
 fpre:Fit r.v.pre
 fbuild:Fit r.v.build
theorem Lies.kept {w w':World} {r:RCut} (h:Lies w r) (hb:Below w.heap.size w w'):Lies w' r:=⟨h.pre.kept hb,h.build.kept hb,h.fpre,h.fbuild⟩
theorem Lies.low (w:World):Lies w rlow:=⟨SRow.none_ _ _,SRow.none_ _ _,Fit.nil,Fit.nil⟩
theorem Lies.high (w:World):Lies w rhigh:=⟨SRow.none_ _ _,SRow.none_ _ _,Fit.nil,Fit.nil⟩
structure LiesS (w:World) (s:RSp):Prop where
 lo:Lies w s.lo
 hi:Lies w s.hi
theorem LiesS.kept {w w':World} {s:RSp} (h:LiesS w s) (hb:Below w.heap.size w w'):LiesS w' s:=⟨h.lo.kept hb,h.hi.kept hb⟩
theorem vals_one (r:RCut):∀ u ∈ r.vals,u.oneCell'=true:=by
 intro u hu; simp only [RCut.vals,List.mem_cons,List.mem_nil_iff,or_false] at hu
 rcases hu with rfl | rfl | rfl | rfl | rfl | rfl <;> rfl
theorem svals_eq (s:RSp):s.vals=s.lo.vals ++ s.hi.vals:=rfl
theorem evals_eq (e:REdge):e.vals=e.cut.vals ++ [.int .i64 e.step]:=rfl
theorem svals_one (s:RSp):∀ u ∈ s.vals,u.oneCell'=true:=by
 intro u hu; rw [svals_eq,List.mem_append] at hu
 exact hu.elim (vals_one _ u) (vals_one _ u)
theorem evals_one (e:REdge):∀ u ∈ e.vals,u.oneCell'=true:=by
 intro u hu; rw [evals_eq,List.mem_append] at hu
 rcases hu with h | h
 ·exact vals_one _ u h
 ·rw [List.mem_singleton] at h; subst h; rfl

def At6B (W:World) (b:Nat) (u0 u1 u2 u3 u4 u5:Value):Prop:=b<W.heap.size∧(∀ o,W.frozen? ⟨b,o,none⟩=false)∧W.cell? ⟨b,0,none⟩=some u0∧W.cell? ⟨b,1,none⟩=some u1∧W.cell? ⟨b,2,none⟩=some u2∧W.cell? ⟨b,3,none⟩=some u3∧W.cell? ⟨b,4,none⟩=some u4∧W.cell? ⟨b,5,none⟩=some u5
theorem At6B.new (w:World) (t:TypeId) (u0 u1 u2 u3 u4 u5:Value):At6B (w.alloc (.cells #[u0,u1,u2,u3,u4,u5] t)) w.heap.size u0 u1 u2 u3 u4 u5:=by
 unfold At6B
 refine ⟨by simp,fun o=>by simp [go_sem],?_,?_,?_,?_,?_,?_⟩ <;> simp [go_sem]
theorem At6B.kept {W W':World} {b B:Nat} {u0 u1 u2 u3 u4 u5:Value} (h:At6B W b u0 u1 u2 u3 u4 u5) (hb:Below B W W') (hB:b<B):At6B W' b u0 u1 u2 u3 u4 u5:=by
 obtain ⟨h1,h2,c0,c1,c2,c3,c4,c5⟩:=h
 exact ⟨Nat.lt_of_lt_of_le h1 hb.size,fun o=>(hb.frozen (p:=⟨b,o,none⟩) hB).trans (h2 o),(hb.cell (p:=⟨b,0,none⟩) hB).trans c0,(hb.cell (p:=⟨b,1,none⟩) hB).trans c1,(hb.cell (p:=⟨b,2,none⟩) hB).trans c2,(hb.cell (p:=⟨b,3,none⟩) hB).trans c3,(hb.cell (p:=⟨b,4,none⟩) hB).trans c4,(hb.cell (p:=⟨b,5,none⟩) hB).trans c5⟩
def At7B (W:World) (b:Nat) (u0 u1 u2 u3 u4 u5 u6:Value):Prop:=b<W.heap.size∧(∀ o,W.frozen? ⟨b,o,none⟩=false)∧W.cell? ⟨b,0,none⟩=some u0∧W.cell? ⟨b,1,none⟩=some u1∧W.cell? ⟨b,2,none⟩=some u2∧W.cell? ⟨b,3,none⟩=some u3∧W.cell? ⟨b,4,none⟩=some u4∧W.cell? ⟨b,5,none⟩=some u5∧W.cell? ⟨b,6,none⟩=some u6
theorem At7B.new (w:World) (t:TypeId) (u0 u1 u2 u3 u4 u5 u6:Value):At7B (w.alloc (.cells #[u0,u1,u2,u3,u4,u5,u6] t)) w.heap.size u0 u1 u2 u3 u4 u5 u6:=by
 unfold At7B
 refine ⟨by simp,fun o=>by simp [go_sem],?_,?_,?_,?_,?_,?_,?_⟩ <;> simp [go_sem]
theorem At7B.kept {W W':World} {b B:Nat} {u0 u1 u2 u3 u4 u5 u6:Value} (h:At7B W b u0 u1 u2 u3 u4 u5 u6) (hb:Below B W W') (hB:b<B):At7B W' b u0 u1 u2 u3 u4 u5 u6:=by
 obtain ⟨h1,h2,c0,c1,c2,c3,c4,c5,c6⟩:=h
 exact ⟨Nat.lt_of_lt_of_le h1 hb.size,fun o=>(hb.frozen (p:=⟨b,o,none⟩) hB).trans (h2 o),(hb.cell (p:=⟨b,0,none⟩) hB).trans c0,(hb.cell (p:=⟨b,1,none⟩) hB).trans c1,(hb.cell (p:=⟨b,2,none⟩) hB).trans c2,(hb.cell (p:=⟨b,3,none⟩) hB).trans c3,(hb.cell (p:=⟨b,4,none⟩) hB).trans c4,(hb.cell (p:=⟨b,5,none⟩) hB).trans c5,(hb.cell (p:=⟨b,6,none⟩) hB).trans c6⟩
def At12B (W:World) (b:Nat) (u0 u1 u2 u3 u4 u5 u6 u7 u8 u9 u10 u11:Value):Prop:=b<W.heap.size∧(∀ o,W.frozen? ⟨b,o,none⟩=false)∧W.cell? ⟨b,0,none⟩=some u0∧W.cell? ⟨b,1,none⟩=some u1∧W.cell? ⟨b,2,none⟩=some u2∧W.cell? ⟨b,3,none⟩=some u3∧W.cell? ⟨b,4,none⟩=some u4∧W.cell? ⟨b,5,none⟩=some u5∧W.cell? ⟨b,6,none⟩=some u6∧W.cell? ⟨b,7,none⟩=some u7∧W.cell? ⟨b,8,none⟩=some u8∧W.cell? ⟨b,9,none⟩=some u9∧W.cell? ⟨b,10,none⟩=some u10∧W.cell? ⟨b,11,none⟩=some u11
theorem At12B.new (w:World) (t:TypeId) (u0 u1 u2 u3 u4 u5 u6 u7 u8 u9 u10 u11:Value):At12B (w.alloc (.cells #[u0,u1,u2,u3,u4,u5,u6,u7,u8,u9,u10,u11] t)) w.heap.size u0 u1 u2 u3 u4 u5 u6 u7 u8 u9 u10 u11:=by
 unfold At12B
 refine ⟨by simp,fun o=>by simp [go_sem],?_,?_,?_,?_,?_,?_,?_,?_,?_,?_,?_,?_⟩ <;> simp [go_sem]
theorem At12B.kept {W W':World} {b B:Nat} {u0 u1 u2 u3 u4 u5 u6 u7 u8 u9 u10 u11:Value} (h:At12B W b u0 u1 u2 u3 u4 u5 u6 u7 u8 u9 u10 u11) (hb:Below B W W') (hB:b<B):At12B W' b u0 u1 u2 u3 u4 u5 u6 u7 u8 u9 u10 u11:=by
 obtain ⟨h1,h2,c0,c1,c2,c3,c4,c5,c6,c7,c8,c9,c10,c11⟩:=h
 exact ⟨Nat.lt_of_lt_of_le h1 hb.size,fun o=>(hb.frozen (p:=⟨b,o,none⟩) hB).trans (h2 o),(hb.cell (p:=⟨b,0,none⟩) hB).trans c0,(hb.cell (p:=⟨b,1,none⟩) hB).trans c1,(hb.cell (p:=⟨b,2,none⟩) hB).trans c2,(hb.cell (p:=⟨b,3,none⟩) hB).trans c3,(hb.cell (p:=⟨b,4,none⟩) hB).trans c4,(hb.cell (p:=⟨b,5,none⟩) hB).trans c5,(hb.cell (p:=⟨b,6,none⟩) hB).trans c6,(hb.cell (p:=⟨b,7,none⟩) hB).trans c7,(hb.cell (p:=⟨b,8,none⟩) hB).trans c8,(hb.cell (p:=⟨b,9,none⟩) hB).trans c9,(hb.cell (p:=⟨b,10,none⟩) hB).trans c10,(hb.cell (p:=⟨b,11,none⟩) hB).trans c11⟩

def SpRow (w:World) (A:Option Addr) (n:Nat) (l:List RSp):Prop :=
 l.length=n∧(∀ s ∈ l,LiesS w s)∧(0<n→∃ b o,A=some ⟨b,o,none⟩∧b<w.heap.size∧∀ j,j<n→∀ i v,(l.getD j default).vals[i]?=some v→w.cell? ⟨b,o+j * 12+i,none⟩=some v)
theorem SpRow.none_ (w:World) (A:Option Addr):SpRow w A 0 []:=⟨rfl,(fun s h=>by cases h),fun h=>by omega⟩
theorem SpRow.kept {w w':World} {A:Option Addr} {n:Nat} {l:List RSp} (h:SpRow w A n l) (hb:Below w.heap.size w w'):SpRow w' A n l:=by
 refine ⟨h.1,fun s hs=>(h.2.1 s hs).kept hb,fun h0=>?_⟩
 obtain ⟨b,o,e,hlt,hc⟩:=h.2.2 h0
 exact ⟨b,o,e,Nat.lt_of_lt_of_le hlt hb.size,fun j hj i v hv=>(hb.cell (p:=⟨b,o+j * 12+i,none⟩) hlt).trans (hc j hj i v hv)⟩
theorem getS_mem {l:List RSp} {k:Nat} (h:k<l.length):l.getD k default ∈ l:=by simp [List.getD,List.getElem?_eq_getElem h]
theorem SpRow.lies {w:World} {A:Option Addr} {n:Nat} {l:List RSp} (h:SpRow w A n l) {k:Nat} (hk:k<n):LiesS w (l.getD k default):=h.2.1 _ (getS_mem (by rw [h.1]; exact hk))
theorem SpRow.cells {w:World} {b o n:Nat} {l:List RSp} (h:∀ j,j<n→∀ i v,(l.getD j default).vals[i]?=some v→w.cell? ⟨b,o+j * 12+i,none⟩=some v) {k:Nat} (hk:k<n) :
  w.cell? ⟨b,o+k * 12,none⟩=some (.int .i64 (l.getD k default).lo.kind)∧w.cell? ⟨b,o+k * 12+1,none⟩=some (.int .u64 ((l.getD k default).lo.v.a))∧w.cell? ⟨b,o+k * 12+2,none⟩=some (.int .u64 ((l.getD k default).lo.v.b))∧w.cell? ⟨b,o+k * 12+3,none⟩=some (.int .u64 ((l.getD k default).lo.v.c))∧w.cell? ⟨b,o+k * 12+4,none⟩=some (.slice (l.getD k default).lo.A (l.getD k default).lo.v.pre.length (l.getD k default).lo.c)∧w.cell? ⟨b,o+k * 12+5,none⟩=some (.slice (l.getD k default).lo.B (l.getD k default).lo.v.build.length (l.getD k default).lo.d)∧w.cell? ⟨b,o+k * 12+6,none⟩=some (.int .i64 (l.getD k default).hi.kind)∧w.cell? ⟨b,o+k * 12+7,none⟩=some (.int .u64 ((l.getD k default).hi.v.a))∧w.cell? ⟨b,o+k * 12+8,none⟩=some (.int .u64 ((l.getD k default).hi.v.b))∧w.cell? ⟨b,o+k * 12+9,none⟩=some (.int .u64 ((l.getD k default).hi.v.c))∧w.cell? ⟨b,o+k * 12+10,none⟩=some (.slice (l.getD k default).hi.A (l.getD k default).hi.v.pre.length (l.getD k default).hi.c)∧w.cell? ⟨b,o+k * 12+11,none⟩=some (.slice (l.getD k default).hi.B (l.getD k default).hi.v.build.length (l.getD k default).hi.d) :=
 ⟨h k hk 0 _ rfl,h k hk 1 _ rfl,h k hk 2 _ rfl,h k hk 3 _ rfl,h k hk 4 _ rfl,h k hk 5 _ rfl,h k hk 6 _ rfl,h k hk 7 _ rfl,h k hk 8 _ rfl,h k hk 9 _ rfl,h k hk 10 _ rfl,h k hk 11 _ rfl⟩

end Go.Proofs.YtnpjklaaokiikaaGreatDoor.Span
namespace Go.Proofs.YtnpjklaaokiikaaGreatDoor.Prec
open Go.RowKit Num Ident Semver

theorem full_anyD (u v:Ver) (A1 A2 B1 B2:Option Addr) (c1 c2 d1 d2:Nat) (w:World) (r1:SRow w A1 u.pre.length u.pre) (r2:SRow w A2 u.build.length u.build) (q1:SRow w B1 v.pre.length v.pre) (q2:SRow w B2 v.build.length v.build) (f1:Fit u.pre) (f2:Fit u.build) (g1:Fit v.pre) (g2:Fit v.build) :
  Calls Tryz.prog 87 #[.agg #[u.a,u.b,u.c,.slice A1 u.pre.length c1,.slice A2 u.build.length c2],.agg #[v.a,v.b,v.c,.slice B1 v.pre.length d1,.slice B2 v.build.length d2]] w fun e w'=>e=.returned (.int .i64 (fullV u v))∧BelowD w.heap.size w w':=by
 have HB0:Hid (BelowD w.heap.size w ((w.alloc (.cells #[u.a,u.b,u.c,.slice A1 u.pre.length c1,.slice A2 u.build.length c2] 34)).alloc (.cells #[v.a,v.b,v.c,.slice B1 v.pre.length d1,.slice B2 v.build.length d2] 34))):=((BelowD.refl _ _).alloc (Nat.le_refl _) _).alloc (by simp) _
 have K1:Hid (At5 ((w.alloc (.cells #[u.a,u.b,u.c,.slice A1 u.pre.length c1,.slice A2 u.build.length c2] 34)).alloc (.cells #[v.a,v.b,v.c,.slice B1 v.pre.length d1,.slice B2 v.build.length d2] 34)) w.heap.size u.a u.b u.c (.slice A1 u.pre.length c1) (.slice A2 u.build.length c2)):=(At5.new w 34 _ _ _ _ _).kept ((Below.refl _ _).alloc (Nat.le_refl _) _) (by simp)
 have K2:Hid (At5 ((w.alloc (.cells #[u.a,u.b,u.c,.slice A1 u.pre.length c1,.slice A2 u.build.length c2] 34)).alloc (.cells #[v.a,v.b,v.c,.slice B1 v.pre.length d1,.slice B2 v.build.length d2] 34)) (w.heap.size+1) v.a v.b v.c (.slice B1 v.pre.length d1) (.slice B2 v.build.length d2)):=by
  have:=At5.new (w.alloc (.cells #[u.a,u.b,u.c,.slice A1 u.pre.length c1,.slice A2 u.build.length c2] 34)) 34 v.a v.b v.c (.slice B1 v.pre.length d1) (.slice B2 v.build.length d2)
  rw [size_alloc] at this; exact this
 have R2:=Lib.hid r2
 have Q2:=Lib.hid q2
 have F2:=Lib.hid f2
 have G2:=Lib.hid g2
 have HF:Hid (fullV u v=if cmpV u v=0 then cmpRows u.build v.build else cmpV u v):=rfl
 have HC:Hid (∀ W,BelowD w.heap.size w W→Calls Tryz.prog 145 #[.agg #[u.a,u.b,u.c,.slice A1 u.pre.length c1,.slice A2 u.build.length c2],.agg #[v.a,v.b,v.c,.slice B1 v.pre.length d1,.slice B2 v.build.length d2]] W fun e w'=>e=.returned (.int .i64 (cmpV u v))∧BelowD W.heap.size W w'):=fun W hb=>compare_anyD u v A1 A2 B1 B2 c1 c2 d1 d2 W (r1.kept hb.toBelow) (q1.kept hb.toBelow) f1 g1
 clear r1 r2 q1 q2 f1 f2 g1 g2
 generalize cmpV u v=c at HF HC
 go_enter Tryz.func87,Tryz.ntmps87
 go_upto_region 1 with (fail)
 generalize ((w.alloc (.cells #[u.a,u.b,u.c,.slice A1 u.pre.length c1,.slice A2 u.build.length c2] 34)).alloc (.cells #[v.a,v.b,v.c,.slice B1 v.pre.length d1,.slice B2 v.build.length d2] 34))=W at HB0 K1 K2 ⊢
 have hz:=K2.out.1
 have hw:=HB0.out.size
 obtain ⟨_,_,x0,x1,x2,x3,x4⟩:=K1.out
 obtain ⟨_,_,y0,y1,y2,y3,y4⟩:=K2.out
 go_wp2_with fail
 refine (HC.out _ HB0.out).mono ?_
 rintro e w1 ⟨rfl,hb1⟩
 have L1:=Lib.hid (K1.out.kept hb1.toBelow (by omega))
 have L2:=Lib.hid (K2.out.kept hb1.toBelow (by omega))
 have B1':=Lib.hid (HB0.out.trans (hb1.mono hw))
 have hz1:=hb1.size
 clear hb1 x0 x1 x2 x3 x4 y0 y1 y2 y3 y4
 obtain ⟨_,_,x0,x1,x2,x3,x4⟩:=L1.out
 obtain ⟨_,_,y0,y1,y2,y3,y4⟩:=L2.out
 by_cases hc:c=0
 ·have HF2:Hid (cmpRows u.build v.build=fullV u v):=by have:=HF.out; rw [if_pos hc] at this; exact this.symm
  have KR:Hid (∀ W',W'=w1→Calls Tryz.prog 146 #[.slice A2 u.build.length c2,.slice B2 v.build.length d2] W' fun e w'=>e=.returned (.int .i64 (fullV u v))∧BelowD w1.heap.size w1 w'):=by
   rintro W' rfl; rw [← HF2.out]; exact rows_anyD A2 _ c2 u.build B2 _ d2 v.build W' (R2.out.kept B1'.out.toBelow) (Q2.out.kept B1'.out.toBelow) F2.out.1 G2.out.1 F2.out.2 G2.out.2
  subst hc
  clear HF HF2
  go_wp2_with fail
  refine (KR.out _ rfl).mono ?_
  rintro e w5 ⟨rfl,hb5⟩
  have B5:=Lib.hid (B1'.out.trans (hb5.mono (by omega)))
  clear hb5
  go_wp2
  go_ret
  exact ⟨rfl,B5.out⟩
 ·have HF2:Hid (fullV u v=c):=by have:=HF.out; rw [if_neg hc] at this; exact this
  have hn:(c == 0)=false:=by simp [hc]
  have hn2:(c != 0)=true:=by simp [hc]
  clear HF hc
  go_wp2
  go_ret
  exact ⟨by rw [HF2.out]; rfl,B1'.out⟩
end Go.Proofs.YtnpjklaaokiikaaGreatDoor.Prec
namespace Go.Proofs.YtnpjklaaokiikaaGreatDoor.Span
open Go.RowKit Num Ident Semver Prec

theorem cmpI_any (x y:Int) (w:World) :
  Calls Tryz.prog 179 #[.int .i64 x,.int .i64 y] w fun e w'=>e=.returned (.int .i64 (ordI x y))∧w=w':=by
 rcases Int.lt_trichotomy x y with h | h | h
 ·have HF:=Lib.hid (ordI_lt h)
  go_enter Tryz.func179,Tryz.ntmps179
  go_wp2
  go_ret
  exact ⟨by rw [HF.out]; rfl,rfl⟩
 ·have HF:=Lib.hid (ordI_eq h)
  subst h
  go_enter Tryz.func179,Tryz.ntmps179
  go_wp2
  go_ret
  exact ⟨by rw [HF.out]; rfl,rfl⟩
 ·have HF:=Lib.hid (ordI_gt h)
  go_enter Tryz.func179,Tryz.ntmps179
  go_wp2
  go_ret
  exact ⟨by rw [HF.out]; rfl,rfl⟩
theorem same_none (v:Ver) (A:Option Addr) (c:Nat) (B:Option Addr) (d:Nat) (w:World) (r1:SRow w A v.pre.length v.pre) (r2:SRow w B v.build.length v.build) (h1:v.pre.length≤maxLen) (h2:v.build.length≤maxLen) :
  Calls Tryz.prog 132 #[.agg #[v.a,v.b,v.c,.slice A v.pre.length c,.slice B v.build.length d],.agg #[.int .u64 0,.int .u64 0,.int .u64 0,.slice none 0 0,.slice none 0 0]] w fun e w'=>e=.returned (.bool (sameV v noVer))∧Below w.heap.size w w' :=
 same_parts A v.pre.length c v.pre B v.build.length d v.build none 0 0 [] none 0 0 [] v.a v.b v.c 0 0 0 w r1 r2 (SRow.none_ _ _) (SRow.none_ _ _) h1 h2 (Nat.zero_le _) (Nat.zero_le _)

theorem right_any (r:RCut) (w:World) (h:Lies w r) :
  Calls Tryz.prog 178 #[.agg #[r.kind,r.v.a,r.v.b,r.v.c,.slice r.A r.v.pre.length r.c,.slice r.B r.v.build.length r.d]] w fun e w'=>e=.returned (.bool (right r.cut))∧Below w.heap.size w w':=by
 have HBa:Hid (Below w.heap.size w (w.alloc r)):=(Below.refl _ _).alloc (Nat.le_refl _) _
 have HL:=Lib.hid (h.kept HBa.out)
 have K0:Hid (At6B (w.alloc r) w.heap.size r.kind r.v.a r.v.b r.v.c (.slice r.A r.v.pre.length r.c) (.slice r.B r.v.build.length r.d)):=At6B.new w _ _ _ _ _ _ _
 clear h
 have HR:Hid (right r.cut=right ⟨r.kind,r.v⟩):=rfl
 by_cases h0:r.kind=0∨r.kind=3
 ·have HF:Hid (right r.cut=sameV r.v noVer):=right_ends h0
  have hs:(r.kind == 0)=true∨((r.kind == 0)=false∧(r.kind == 3)=true):=by
   rcases h0 with h0 | h0
   ·left; simp [h0]
   ·right; simp [h0]
  clear h0 HR
  rcases hs with e0 | ⟨e0,e3⟩
  all_goals
   go_enter Tryz.func178,Tryz.ntmps178
   go_upto_region 1 with (fail)
   generalize (w.alloc r)=W at HBa HL K0 ⊢
   obtain ⟨hz,_,x0,x1,x2,x3,x4,x5⟩:=K0.out
   go_wp2_with fail
   refine (same_none r.v r.A r.c r.B r.d _ HL.out.pre HL.out.build HL.out.fpre.1 HL.out.fbuild.1).mono ?_
   rintro e w1 ⟨rfl,hb1⟩
   have B1:=Lib.hid (HBa.out.trans (hb1.mono HBa.out.size))
   clear hb1 x0 x1 x2 x3 x4 x5
   go_wp2
   go_ret
   exact ⟨by rw [HF.out]; rfl,B1.out⟩
 have e0:(r.kind == 0)=false:=by simp; omega
 have e3:(r.kind == 3)=false:=by simp; omega
 by_cases h1:r.kind=1∨r.kind=2
 ·have HF:Hid (right r.cut=(goodV r.v && decide (r.v.build.length=0))):=right_ver h1
  have hs:(r.kind == 1)=true∨((r.kind == 1)=false∧(r.kind == 2)=true):=by
   rcases h1 with h1 | h1
   ·left; simp [h1]
   ·right; simp [h1]
  clear h0 h1 HR
  rcases hs with e1 | ⟨e1,e2⟩
  all_goals
   go_enter Tryz.func178,Tryz.ntmps178
   go_upto_region 1 with (fail)
   generalize (w.alloc r)=W at HBa HL K0 ⊢
   obtain ⟨hz,_,x0,x1,x2,x3,x4,x5⟩:=K0.out
   go_wp2_with fail
   refine (vgood_any r.v r.A r.c r.B r.d _ HL.out.pre HL.out.build HL.out.fpre.1 HL.out.fbuild.1 HL.out.fpre.2 HL.out.fbuild.2).mono ?_
   rintro e w1 ⟨rfl,hb1⟩
   have B1:=Lib.hid (HBa.out.trans (hb1.mono HBa.out.size))
   have K1:=Lib.hid (K0.out.kept hb1 hz)
   clear hb1 x0 x1 x2 x3 x4 x5 hz
   obtain ⟨hz,_,x0,x1,x2,x3,x4,x5⟩:=K1.out
   generalize goodV r.v=g at HF ⊢
   cases g
   ·go_wp2
    go_ret
    exact ⟨by rw [HF.out]; rfl,B1.out⟩
   ·by_cases hb:r.v.build.length=0
    ·have HF2:Hid (right r.cut=true):=by have:=HF.out; rw [this,decide_eq_true hb]; rfl
     have eb:((r.v.build.length:Int) == 0)=true:=by rw [beq_iff_eq]; omega
     clear HF hb
     go_wp2
     go_ret
     exact ⟨by rw [HF2.out]; rfl,B1.out⟩
    ·have HF2:Hid (right r.cut=false):=by have:=HF.out; rw [this,decide_eq_false hb]; rfl
     have eb:((r.v.build.length:Int) == 0)=false:=by rw [beq_eq_false_iff_ne]; omega
     clear HF hb
     go_wp2
     go_ret
     exact ⟨by rw [HF2.out]; rfl,B1.out⟩
 ·have HF:Hid (right r.cut=false):=right_none h0 h1
  have e1:(r.kind == 1)=false:=by simp; omega
  have e2:(r.kind == 2)=false:=by simp; omega
  clear h0 h1 HR
  go_enter Tryz.func178,Tryz.ntmps178
  go_upto_region 1 with (fail)
  generalize (w.alloc r)=W at HBa HL K0 ⊢
  obtain ⟨hz,_,x0,x1,x2,x3,x4,x5⟩:=K0.out
  go_wp2
  go_ret
  exact ⟨by rw [HF.out]; rfl,HBa.out⟩

theorem ofVer_any (r:RCut) (w:World) :
  Calls Tryz.prog 217 #[.agg #[r.kind,r.v.a,r.v.b,r.v.c,.slice r.A r.v.pre.length r.c,.slice r.B r.v.build.length r.d]] w fun e w'=>e=.returned (.bool (ofVer r.cut))∧BelowD w.heap.size w w':=by
 have HBa:Hid (BelowD w.heap.size w (w.alloc r)):=(BelowD.refl _ _).alloc (Nat.le_refl _) _
 have K0:Hid (At6B (w.alloc r) w.heap.size r.kind r.v.a r.v.b r.v.c (.slice r.A r.v.pre.length r.c) (.slice r.B r.v.build.length r.d)):=At6B.new w _ _ _ _ _ _ _
 by_cases h1:r.kind=1
 ·have HF:Hid (ofVer r.cut=true):=(ofVer_iff _).2 (.inl h1)
  have e1:(r.kind == 1)=true:=by simp [h1]
  clear h1
  go_enter Tryz.func217,Tryz.ntmps217
  go_upto_region 1 with (fail)
  generalize (w.alloc r)=W at HBa K0 ⊢
  obtain ⟨hz,_,x0,x1,x2,x3,x4,x5⟩:=K0.out
  go_wp2
  go_ret
  exact ⟨by rw [HF.out]; rfl,HBa.out⟩
 have e1:(r.kind == 1)=false:=by simp; omega
 by_cases h2:r.kind=2
 ·have HF:Hid (ofVer r.cut=true):=(ofVer_iff _).2 (.inr h2)
  have e2:(r.kind == 2)=true:=by simp [h2]
  clear h1 h2
  go_enter Tryz.func217,Tryz.ntmps217
  go_upto_region 1 with (fail)
  generalize (w.alloc r)=W at HBa K0 ⊢
  obtain ⟨hz,_,x0,x1,x2,x3,x4,x5⟩:=K0.out
  go_wp2
  go_ret
  exact ⟨by rw [HF.out]; rfl,HBa.out⟩
 ·have HF:Hid (ofVer r.cut=false):=(ofVer_no _).2 (by show ¬ (r.kind=1∨r.kind=2); omega)
  have e2:(r.kind == 2)=false:=by simp; omega
  clear h1 h2
  go_enter Tryz.func217,Tryz.ntmps217
  go_upto_region 1 with (fail)
  generalize (w.alloc r)=W at HBa K0 ⊢
  obtain ⟨hz,_,x0,x1,x2,x3,x4,x5⟩:=K0.out
  go_wp2
  go_ret
  exact ⟨by rw [HF.out]; rfl,HBa.out⟩

theorem stand_anyD (r s:RCut) (w:World) (h1:Lies w r) (h2:Lies w s) :
  Calls Tryz.prog 180 #[.agg #[r.kind,r.v.a,r.v.b,r.v.c,.slice r.A r.v.pre.length r.c,.slice r.B r.v.build.length r.d],.agg #[s.kind,s.v.a,s.v.b,s.v.c,.slice s.A s.v.pre.length s.c,.slice s.B s.v.build.length s.d]] w fun e w'=>e=.returned (.int .i64 (stand r.cut s.cut))∧BelowD w.heap.size w w':=by
 have HBa:Hid (BelowD w.heap.size w ((w.alloc r).alloc s)):=((BelowD.refl _ _).alloc (Nat.le_refl _) _).alloc (by simp) _
 have HL:=Lib.hid (h1.kept HBa.out.toBelow)
 have HM:=Lib.hid (h2.kept HBa.out.toBelow)
 have K0:Hid (At6B ((w.alloc r).alloc s) w.heap.size r.kind r.v.a r.v.b r.v.c (.slice r.A r.v.pre.length r.c) (.slice r.B r.v.build.length r.d)):=(At6B.new w _ _ _ _ _ _ _).kept ((Below.refl _ _).alloc (Nat.le_refl _) _) (by simp)
 have J0:Hid (At6B ((w.alloc r).alloc s) (w.heap.size+1) s.kind s.v.a s.v.b s.v.c (.slice s.A s.v.pre.length s.c) (.slice s.B s.v.build.length s.d)):=by
  have:=At6B.new (w.alloc r) 187 s.kind s.v.a s.v.b s.v.c (.slice s.A s.v.pre.length s.c) (.slice s.B s.v.build.length s.d)
  rw [size_alloc] at this; exact this
 clear h1 h2
 have HF:Hid (stand r.cut s.cut=if ofVer r.cut=true∧ofVer s.cut=true∧cmpV r.v s.v≠0 then cmpV r.v s.v else ordI r.kind s.kind):=rfl
 go_enter Tryz.func180,Tryz.ntmps180
 go_upto_region 1 with (fail)
 generalize ((w.alloc r).alloc s)=W at HBa HL HM K0 J0 ⊢
 obtain ⟨hz,_,x0,x1,x2,x3,x4,x5⟩:=K0.out
 obtain ⟨hy,_,y0,y1,y2,y3,y4,y5⟩:=J0.out
 go_wp2_with fail
 refine (ofVer_any r _).mono ?_
 rintro e w1 ⟨rfl,hb1⟩
 have K1:=Lib.hid (K0.out.kept hb1.toBelow hz)
 have J1:=Lib.hid (J0.out.kept hb1.toBelow hy)
 have L1:=Lib.hid (HL.out.kept hb1.toBelow)
 have M1:=Lib.hid (HM.out.kept hb1.toBelow)
 have B1:=Lib.hid (HBa.out.trans (hb1.mono HBa.out.size))
 clear hb1 hz hy
 clear x0 x1 x2 x3 x4 x5 y0 y1 y2 y3 y4 y5
 obtain ⟨hz1,_,x0,x1,x2,x3,x4,x5⟩:=K1.out
 obtain ⟨hy1,_,y0,y1,y2,y3,y4,y5⟩:=J1.out
 generalize ofVer r.cut=g1 at HF ⊢
 cases g1
 ·have HF2:Hid (stand r.cut s.cut=ordI r.kind s.kind):=by have:=HF.out; rw [if_neg (by rintro ⟨h,_⟩; cases h)] at this; exact this
  clear HF
  go_wp2_with fail
  refine (cmpI_any _ _ _).mono ?_
  rintro e w' ⟨rfl,rfl⟩
  go_wp2
  go_ret
  exact ⟨by rw [HF2.out]; rfl,B1.out⟩
 go_wp2_with fail
 refine (ofVer_any s _).mono ?_
 rintro e w2 ⟨rfl,hb2⟩
 have K2:=Lib.hid (K1.out.kept hb2.toBelow hz1)
 have J2:=Lib.hid (J1.out.kept hb2.toBelow hy1)
 have L2:=Lib.hid (L1.out.kept hb2.toBelow)
 have M2:=Lib.hid (M1.out.kept hb2.toBelow)
 have B2:=Lib.hid (B1.out.trans (hb2.mono B1.out.size))
 clear hb2 hz1 hy1
 clear x0 x1 x2 x3 x4 x5 y0 y1 y2 y3 y4 y5
 obtain ⟨hz2,_,x0,x1,x2,x3,x4,x5⟩:=K2.out
 obtain ⟨hy2,_,y0,y1,y2,y3,y4,y5⟩:=J2.out
 generalize ofVer s.cut=g2 at HF ⊢
 cases g2
 ·have HF2:Hid (stand r.cut s.cut=ordI r.kind s.kind):=by have:=HF.out; rw [if_neg (by rintro ⟨_,h,_⟩; cases h)] at this; exact this
  clear HF
  go_wp2_with fail
  refine (cmpI_any _ _ _).mono ?_
  rintro e w' ⟨rfl,rfl⟩
  go_wp2
  go_ret
  exact ⟨by rw [HF2.out]; rfl,B2.out⟩
 go_wp2_with fail
 refine (Prec.compare_anyD r.v s.v r.A r.B s.A s.B r.c r.d s.c s.d _ L2.out.pre M2.out.pre L2.out.fpre M2.out.fpre).mono ?_
 rintro e w3 ⟨rfl,hb3⟩
 have K3:=Lib.hid (K2.out.kept hb3.toBelow hz2)
 have J3:=Lib.hid (J2.out.kept hb3.toBelow hy2)
 have B3:=Lib.hid (B2.out.trans (hb3.mono B2.out.size))
 clear hb3 hz2 hy2
 clear x0 x1 x2 x3 x4 x5 y0 y1 y2 y3 y4 y5
 obtain ⟨hz3,_,x0,x1,x2,x3,x4,x5⟩:=K3.out
 obtain ⟨hy3,_,y0,y1,y2,y3,y4,y5⟩:=J3.out
 generalize cmpV r.v s.v=c at HF ⊢
 by_cases hc:c=0
 ·have HF2:Hid (stand r.cut s.cut=ordI r.kind s.kind):=by have:=HF.out; rw [if_neg (fun h=>h.2.2 hc)] at this; exact this
  subst hc
  clear HF
  go_wp2_with fail
  refine (cmpI_any _ _ _).mono ?_
  rintro e w' ⟨rfl,rfl⟩
  go_wp2
  go_ret
  exact ⟨by rw [HF2.out]; rfl,B3.out⟩
 ·have HF2:Hid (stand r.cut s.cut=c):=by have:=HF.out; rw [if_pos (by simp [hc])] at this; exact this
  have hn:(c == 0)=false:=by simp [hc]
  have hn2:(c != 0)=true:=by simp [hc]
  clear HF hc
  go_wp2
  go_ret
  exact ⟨by rw [HF2.out]; rfl,B3.out⟩
theorem stand_any (r s:RCut) (w:World) (h1:Lies w r) (h2:Lies w s) :
  Calls Tryz.prog 180 #[.agg #[r.kind,r.v.a,r.v.b,r.v.c,.slice r.A r.v.pre.length r.c,.slice r.B r.v.build.length r.d],.agg #[s.kind,s.v.a,s.v.b,s.v.c,.slice s.A s.v.pre.length s.c,.slice s.B s.v.build.length s.d]] w fun e w'=>e=.returned (.int .i64 (stand r.cut s.cut))∧Below w.heap.size w w':=dropD (stand_anyD r s w h1 h2)

theorem compareC_any (r s:RCut) (w:World) (h1:Lies w r) (h2:Lies w s) :
  Calls Tryz.prog 128 #[.agg #[r.kind,r.v.a,r.v.b,r.v.c,.slice r.A r.v.pre.length r.c,.slice r.B r.v.build.length r.d],.agg #[s.kind,s.v.a,s.v.b,s.v.c,.slice s.A s.v.pre.length s.c,.slice s.B s.v.build.length s.d]] w fun e w'=>e=.returned (.int .i64 (cmpC r.cut s.cut))∧Below w.heap.size w w':=by
 have HBa:Hid (Below w.heap.size w ((w.alloc r).alloc s)):=((Below.refl _ _).alloc (Nat.le_refl _) _).alloc (by simp) _
 have HL:=Lib.hid (h1.kept HBa.out)
 have HM:=Lib.hid (h2.kept HBa.out)
 have K0:Hid (At6B ((w.alloc r).alloc s) w.heap.size r.kind r.v.a r.v.b r.v.c (.slice r.A r.v.pre.length r.c) (.slice r.B r.v.build.length r.d)):=(At6B.new w _ _ _ _ _ _ _).kept ((Below.refl _ _).alloc (Nat.le_refl _) _) (by simp)
 have J0:Hid (At6B ((w.alloc r).alloc s) (w.heap.size+1) s.kind s.v.a s.v.b s.v.c (.slice s.A s.v.pre.length s.c) (.slice s.B s.v.build.length s.d)):=by
  have:=At6B.new (w.alloc r) 187 s.kind s.v.a s.v.b s.v.c (.slice s.A s.v.pre.length s.c) (.slice s.B s.v.build.length s.d)
  rw [size_alloc] at this; exact this
 clear h1 h2
 have HF:Hid (cmpC r.cut s.cut=if right r.cut=true∧right s.cut=true then stand r.cut s.cut else ordI r.kind s.kind):=rfl
 go_enter Tryz.func128,Tryz.ntmps128
 go_upto_region 1 with (fail)
 generalize ((w.alloc r).alloc s)=W at HBa HL HM K0 J0 ⊢
 obtain ⟨hz,_,x0,x1,x2,x3,x4,x5⟩:=K0.out
 obtain ⟨hy,_,y0,y1,y2,y3,y4,y5⟩:=J0.out
 go_wp2_with fail
 refine (right_any r _ HL.out).mono ?_
 rintro e w1 ⟨rfl,hb1⟩
 have K1:=Lib.hid (K0.out.kept hb1 hz)
 have J1:=Lib.hid (J0.out.kept hb1 hy)
 have L1:=Lib.hid (HL.out.kept hb1)
 have M1:=Lib.hid (HM.out.kept hb1)
 have B1:=Lib.hid (HBa.out.trans (hb1.mono HBa.out.size))
 clear hb1 hz hy
 clear x0 x1 x2 x3 x4 x5 y0 y1 y2 y3 y4 y5
 obtain ⟨hz1,_,x0,x1,x2,x3,x4,x5⟩:=K1.out
 obtain ⟨hy1,_,y0,y1,y2,y3,y4,y5⟩:=J1.out
 generalize right r.cut=g1 at HF ⊢
 cases g1
 ·have HF2:Hid (cmpC r.cut s.cut=ordI r.kind s.kind):=by have:=HF.out; rw [if_neg (by rintro ⟨h,_⟩; cases h)] at this; exact this
  clear HF
  go_wp2_with fail
  refine (cmpI_any _ _ _).mono ?_
  rintro e w' ⟨rfl,rfl⟩
  go_wp2
  go_ret
  exact ⟨by rw [HF2.out]; rfl,B1.out⟩
 go_wp2_with fail
 refine (right_any s _ M1.out).mono ?_
 rintro e w2 ⟨rfl,hb2⟩
 have K2:=Lib.hid (K1.out.kept hb2 hz1)
 have J2:=Lib.hid (J1.out.kept hb2 hy1)
 have L2:=Lib.hid (L1.out.kept hb2)
 have M2:=Lib.hid (M1.out.kept hb2)
 have B2:=Lib.hid (B1.out.trans (hb2.mono B1.out.size))
 clear hb2 hz1 hy1
 clear x0 x1 x2 x3 x4 x5 y0 y1 y2 y3 y4 y5
 obtain ⟨hz2,_,x0,x1,x2,x3,x4,x5⟩:=K2.out
 obtain ⟨hy2,_,y0,y1,y2,y3,y4,y5⟩:=J2.out
 generalize right s.cut=g2 at HF ⊢
 cases g2
 ·have HF2:Hid (cmpC r.cut s.cut=ordI r.kind s.kind):=by have:=HF.out; rw [if_neg (by rintro ⟨_,h⟩; cases h)] at this; exact this
  clear HF
  go_wp2_with fail
  refine (cmpI_any _ _ _).mono ?_
  rintro e w' ⟨rfl,rfl⟩
  go_wp2
  go_ret
  exact ⟨by rw [HF2.out]; rfl,B2.out⟩
 have HF2:Hid (cmpC r.cut s.cut=stand r.cut s.cut):=by have:=HF.out; rw [if_pos (by simp)] at this; exact this
 clear HF
 go_wp2_with fail
 refine (stand_any r s _ L2.out M2.out).mono ?_
 rintro e w3 ⟨rfl,hb3⟩
 have B3:=Lib.hid (B2.out.trans (hb3.mono B2.out.size))
 clear hb3 hz2 hy2
 clear x0 x1 x2 x3 x4 x5 y0 y1 y2 y3 y4 y5
 go_wp2
 go_ret
 exact ⟨by rw [HF2.out]; rfl,B3.out⟩

theorem counts_any (s:RSp) (w:World) (h:LiesS w s) :
  Calls Tryz.prog 250 #[.agg #[s.lo.kind,s.lo.v.a,s.lo.v.b,s.lo.v.c,.slice s.lo.A s.lo.v.pre.length s.lo.c,.slice s.lo.B s.lo.v.build.length s.lo.d,s.hi.kind,s.hi.v.a,s.hi.v.b,s.hi.v.c,.slice s.hi.A s.hi.v.pre.length s.hi.c,.slice s.hi.B s.hi.v.build.length s.hi.d]] w fun e w'=>e=.returned (.bool (cnt s.sp))∧Below w.heap.size w w':=by
 have HBa:Hid (Below w.heap.size w (w.alloc (s.lo,s.hi))):=(Below.refl _ _).alloc (Nat.le_refl _) _
 have HL:=Lib.hid (h.kept HBa.out)
 have K0:Hid (At12B (w.alloc (s.lo,s.hi)) w.heap.size s.lo.kind s.lo.v.a s.lo.v.b s.lo.v.c (.slice s.lo.A s.lo.v.pre.length s.lo.c) (.slice s.lo.B s.lo.v.build.length s.lo.d) s.hi.kind s.hi.v.a s.hi.v.b s.hi.v.c (.slice s.hi.A s.hi.v.pre.length s.hi.c) (.slice s.hi.B s.hi.v.build.length s.hi.d)):=At12B.new w _ _ _ _ _ _ _ _ _ _ _ _ _
 clear h
 have HF:Hid (cnt s.sp=(right s.lo.cut && (right s.hi.cut && decide (stand s.lo.cut s.hi.cut<0)))):=rfl
 go_enter Tryz.func250,Tryz.ntmps250
 go_upto_region 1 with (fail)
 generalize (w.alloc (s.lo,s.hi))=W at HBa HL K0 ⊢
 obtain ⟨hz,_,x0,x1,x2,x3,x4,x5,x6,x7,x8,x9,x10,x11⟩:=K0.out
 go_wp2_with fail
 refine (right_any s.lo _ HL.out.lo).mono ?_
 rintro e w1 ⟨rfl,hb1⟩
 have K1:=Lib.hid (K0.out.kept hb1 hz)
 have L1:=Lib.hid (HL.out.kept hb1)
 have B1:=Lib.hid (HBa.out.trans (hb1.mono HBa.out.size))
 clear hb1 hz x0 x1 x2 x3 x4 x5 x6 x7 x8 x9 x10 x11
 obtain ⟨hz1,_,x0,x1,x2,x3,x4,x5,x6,x7,x8,x9,x10,x11⟩:=K1.out
 generalize right s.lo.cut=g1 at HF ⊢
 cases g1
 ·go_wp2
  go_ret
  exact ⟨by rw [HF.out]; rfl,B1.out⟩
 go_wp2_with fail
 refine (right_any s.hi _ L1.out.hi).mono ?_
 rintro e w2 ⟨rfl,hb2⟩
 have K2:=Lib.hid (K1.out.kept hb2 hz1)
 have L2:=Lib.hid (L1.out.kept hb2)
 have B2:=Lib.hid (B1.out.trans (hb2.mono B1.out.size))
 clear hb2 hz1 x0 x1 x2 x3 x4 x5 x6 x7 x8 x9 x10 x11
 obtain ⟨hz2,_,x0,x1,x2,x3,x4,x5,x6,x7,x8,x9,x10,x11⟩:=K2.out
 generalize right s.hi.cut=g2 at HF ⊢
 cases g2
 ·go_wp2
  go_ret
  exact ⟨by rw [HF.out]; rfl,B2.out⟩
 go_wp2_with fail
 refine (stand_any s.lo s.hi _ L2.out.lo L2.out.hi).mono ?_
 rintro e w3 ⟨rfl,hb3⟩
 have B3:=Lib.hid (B2.out.trans (hb3.mono B2.out.size))
 clear hb3 hz2 x0 x1 x2 x3 x4 x5 x6 x7 x8 x9 x10 x11
 generalize stand s.lo.cut s.hi.cut=c at HF ⊢
 by_cases hc:c<0
 ·have HF2:Hid (cnt s.sp=true):=by have:=HF.out; unfold Hid; rw [this]; simp [hc]
  clear HF
  go_wp2
  go_ret
  exact ⟨by rw [HF2.out]; rfl,B3.out⟩
 ·have HF2:Hid (cnt s.sp=false):=by have:=HF.out; unfold Hid; rw [this]; simp; omega
  have hd:decide (c<0)=false:=by simpa using hc
  clear HF
  go_wp2
  go_ret
  exact ⟨by rw [HF2.out]; rfl,B3.out⟩

end Go.Proofs.YtnpjklaaokiikaaGreatDoor.Span
namespace Go.Proofs.YtnpjklaaokiikaaGreatDoor.Span
open Go.RowKit Num Ident Semver Prec

theorem svals_len (s:RSp):s.vals.length=12:=rfl
theorem evals_len (e:REdge):e.vals.length=7:=rfl

theorem edInfo:(Tryz.prog.info? 268).map (fun i=>(i.zero,i.size,i.bytes))=some (some (.agg #[.int .i64 0,.int .u64 0,.int .u64 0,.int .u64 0,.slice none 0 0,.slice none 0 0,.int .i64 0]),7,88):=by kernel_rfl
theorem wpList_append_ed (w:World) {ops:Array Oper} {rest:List Oper} {o:Oper} {a:Act} {Q:Exit→Act→World→Prop} (hgd:o.guard=none) (s x:Operand)
  (ho:o.op=.call { callee:=.builtin .append,args:=#[s,x],argTypes:=#[265,265] })
  (base:Nat) (v:Value) (n:Nat) (l:List REdge) (hs:a.eval s=v) (hown:w.ownsRow base 268 7 v n (l.flatMap REdge.vals))
  (ad:Addr) (m c:Nat) (r:List REdge) (hx:a.eval x=.slice (some ad) m c) (hr:r.length=m) (hnews:∀ j u,(r.flatMap REdge.vals)[j]?=some u→w.cell? (ad.add j)=some u) (hb:(n+m) * 88≤140737488355328) (hbase:base≤w.heap.size)
  (h:∀ v' w',w'.ownsRow base 268 7 v' (n+m) ((l ++ r).flatMap REdge.vals)→Below base w w'→wpList Tryz.prog ops Q rest (a.put o.dst v') w'):wpList Tryz.prog ops Q (o :: rest) a w:=by
 obtain ⟨i,hi,hz,hsz,hby⟩:=info_parts edInfo
 refine wpList_append_own w hgd s x 265 ho base 268 i _ 7 88 Tryz.underlying265 hi hz hsz hby rfl (by omega) v n _ hs hown ad m c _ hx (by rw [flat_len _ 7 evals_len,hr]) hnews (flat_one _ evals_one r) (by unfold maxLen; omega) hb hbase (fun v' w' h2 h3 _=>?_)
 refine h v' w' (by rw [List.flatMap_append]; exact h2) ((Below.refl base w).grown h3 hbase fun k hk=>(hown.lt k hk).1)

theorem spInfo:(Tryz.prog.info? 190).map (fun i=>(i.zero,i.size,i.bytes))=some (some (.agg #[.int .i64 0,.int .u64 0,.int .u64 0,.int .u64 0,.slice none 0 0,.slice none 0 0,.int .i64 0,.int .u64 0,.int .u64 0,.int .u64 0,.slice none 0 0,.slice none 0 0]),12,160):=by kernel_rfl
theorem wpList_append_sp (w:World) {ops:Array Oper} {rest:List Oper} {o:Oper} {a:Act} {Q:Exit→Act→World→Prop} (hgd:o.guard=none) (s x:Operand)
  (ho:o.op=.call { callee:=.builtin .append,args:=#[s,x],argTypes:=#[122,122] })
  (base:Nat) (v:Value) (n:Nat) (l:List RSp) (hs:a.eval s=v) (hown:w.ownsRow base 190 12 v n (l.flatMap RSp.vals))
  (ad:Addr) (m c:Nat) (r:List RSp) (hx:a.eval x=.slice (some ad) m c) (hr:r.length=m) (hnews:∀ j u,(r.flatMap RSp.vals)[j]?=some u→w.cell? (ad.add j)=some u) (hb:(n+m) * 160≤140737488355328) (hbase:base≤w.heap.size)
  (h:∀ v' w',w'.ownsRow base 190 12 v' (n+m) ((l ++ r).flatMap RSp.vals)→Below base w w'→wpList Tryz.prog ops Q rest (a.put o.dst v') w'):wpList Tryz.prog ops Q (o :: rest) a w:=by
 obtain ⟨i,hi,hz,hsz,hby⟩:=info_parts spInfo
 refine wpList_append_own w hgd s x 122 ho base 190 i _ 12 160 Tryz.underlying122 hi hz hsz hby rfl (by omega) v n _ hs hown ad m c _ hx (by rw [flat_len _ 12 svals_len,hr]) hnews (flat_one _ svals_one r) (by unfold maxLen; omega) hb hbase (fun v' w' h2 h3 _=>?_)
 refine h v' w' (by rw [List.flatMap_append]; exact h2) ((Below.refl base w).grown h3 hbase fun k hk=>(hown.lt k hk).1)

theorem run_append_sp (w:World) (ty:TypeId) (base:Nat) (v:Value) (n:Nat) (l:List RSp) (hown:w.ownsRow base 190 12 v n (l.flatMap RSp.vals)) (ad:Addr) (m c:Nat) (r:List RSp) (hr:r.length=m) (hnews:∀ j u,(r.flatMap RSp.vals)[j]?=some u→w.cell? (ad.add j)=some u) (hb:(n+m) * 160≤140737488355328) (hbase:base≤w.heap.size) :
  ∃ v' w',(Builtin.append_ #[122,122] ty #[v,.slice (some ad) m c]).run Tryz.prog w=.ok v' w'∧w'.ownsRow base 190 12 v' (n+m) ((l ++ r).flatMap RSp.vals)∧w.grownBy w' v.ownBlock:=by
 obtain ⟨i,hi,hz,hs,hby⟩:=info_parts spInfo
 obtain ⟨v',w',h3,h4,h5,_⟩:=run_append_own (P:=Tryz.prog) w base 122 ty 190 i _ 12 160 Tryz.underlying122 hi hz hs hby rfl (by omega) v n _ hown ad m c (r.flatMap RSp.vals)
  (by rw [flat_len _ 12 svals_len,hr]) hnews (flat_one _ svals_one r) (by unfold maxLen; omega) hb hbase
 exact ⟨v',w',h3,by rw [List.flatMap_append]; exact h4,h5⟩
end Go.Proofs.YtnpjklaaokiikaaGreatDoor.Span
namespace Go.Proofs.YtnpjklaaokiikaaGreatDoor.Came
open Go.ChangeShapes Go.WideShapes Go.RowKit Go.Deep

theorem kind_read {H:Type} {enc:TypeId × Value→H} {W:World} {n:Nat} {z:Value} {y:DataW H × List MemPlace} (h:DataW.trod enc Tryz.prog W 0 (fun _=>true) true n 3 [z]=some y):∃ k:Int,z=.int .i64 k:=by
 obtain ⟨m,hm,_,_⟩:=DataW.trod_int Tryz.underlying3 h
 simp at hm
 exact ⟨m,hm⟩
theorem list_of {α:Type} [Inhabited α] {P:Nat→α→Prop}:∀ (n:Nat),(∀ i,i<n→∃ x,P i x)→∃ l:List α,l.length=n∧∀ i,i<n→P i (l.getD i default)
 | 0,_=>⟨[],rfl,fun i hi=>by omega⟩
 | n+1,h=>by
  obtain ⟨l,hl,hp⟩:=list_of n fun i hi=>h i (by omega)
  obtain ⟨x,hx⟩:=h n (by omega)
  refine ⟨l ++ [x],by simp [hl],fun i hi=>?_⟩
  rcases Nat.lt_or_ge i n with h1 | h1
  ·have e:(l ++ [x]).getD i default=l.getD i default:=by simp [List.getD,List.getElem?_append_left (show i<l.length by omega)]
   rw [e]; exact hp i h1
  ·obtain rfl:i=n:=by omega
   have e:(l ++ [x]).getD i default=x:=by simp [List.getD,← hl]
   rw [e]; exact hx
end Go.Proofs.YtnpjklaaokiikaaGreatDoor.Came
