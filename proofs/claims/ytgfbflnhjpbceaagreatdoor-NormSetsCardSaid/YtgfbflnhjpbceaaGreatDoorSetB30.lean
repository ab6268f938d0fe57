/-
  What the theorem of the last text needs of these: SpRefNew, NmRanked, NmAwakeMath. Conditions: as each theorem states.
-/
import Derived.Test.YtgfbflnhjpbceaaGreatDoorSetB1
import Derived.Test.YtgfbflnhjpbceaaGreatDoorSetB15
import Derived.Test.YtgfbflnhjpbceaaGreatDoorSetB16
import Derived.Test.YtgfbflnhjpbceaaGreatDoorSetB22
import Derived.Test.YtgfbflnhjpbceaaGreatDoorSetB24
import Derived.Test.YtgfbflnhjpbceaaGreatDoorSetB27
import Derived.Test.YtgfbflnhjpbceaaGreatDoorSetB28
import Derived.Laws.OwnMore
import Derived.Laws.MakeOwn
import Derived.Laws.Entries
set_option maxRecDepth 100000
set_option maxHeartbeats 25600000
namespace Go.Proofs.YtgfbflnhjpbceaaGreatDoor.Span
open Go.RowKit Num Ident Semver Prec

theorem snoc_of {out:List RSp} {c:Cut} (h:∃ pre s,out.map RSp.sp=pre ++ [s]∧s.hi=c):∃ (pre:List RSp) (s:RSp),out=pre ++ [s]∧s.sp.hi=c:=by
 obtain ⟨p,s,e,hs⟩:=h
 rcases List.eq_nil_or_concat out with rfl | ⟨q,t,rfl⟩
 ·simp at e
 ·rw [List.concat_eq_append,List.map_append] at e
  obtain ⟨_,e2⟩:=List.append_inj' e rfl
  refine ⟨q,t,by simp,?_⟩
  have:t.sp=s:=by simpa using e2
  rw [this]; exact hs
theorem own_last {w:World} {B:Nat} {v:Value} {pre:List RSp} {s:RSp} (h:w.ownsRow B 43 12 v (pre ++ [s]).length ((pre ++ [s]).flatMap RSp.vals)):∃ g c,v=.slice (some ⟨g,0,none⟩) (pre ++ [s]).length c∧g<w.heap.size∧(pre ++ [s]).length≤c∧c≤maxLen∧B≤g:=by
 rcases h.2 with ⟨_,h1⟩ | ⟨g,cap,cur,rfl,hb,hg,hnc,hcm,_⟩
 ·simp at h1
 ·exact ⟨g,cap,rfl,(Array.getElem?_eq_some_iff.1 hg).1,hnc,hcm,hb⟩
def setAt (w:World) (b o:Nat) (v0 v1 v2 v3 v4 v5:Value):World:=(((((w.setCell ⟨b,o,none⟩ v0).setCell ⟨b,o+1,none⟩ v1).setCell ⟨b,o+2,none⟩ v2).setCell ⟨b,o+3,none⟩ v3).setCell ⟨b,o+4,none⟩ v4).setCell ⟨b,o+5,none⟩ v5
theorem below_setAt {B:Nat} {a w:World} (h:Below B a w) {b:Nat} (hb:B≤b) (o:Nat) (v0 v1 v2 v3 v4 v5:Value):Below B a (setAt w b o v0 v1 v2 v3 v4 v5) :=
 (((((h.setCell (p:=⟨b,o,none⟩) hb v0).setCell (p:=⟨b,o+1,none⟩) hb v1).setCell (p:=⟨b,o+2,none⟩) hb v2).setCell (p:=⟨b,o+3,none⟩) hb v3).setCell (p:=⟨b,o+4,none⟩) hb v4).setCell (p:=⟨b,o+5,none⟩) hb v5
theorem set_hi (P:List Value) (s:RSp) (c:RCut):((((((P ++ s.vals).set (P.length+6) c.kind).set (P.length+6+1) c.v.a).set (P.length+6+2) c.v.b).set (P.length+6+3) c.v.c).set (P.length+6+4) (.slice c.A c.v.pre.length c.c)).set (P.length+6+5) (.slice c.B c.v.build.length c.d)=P ++ (RSp.mk s.lo c).vals:=by
 simp only [Nat.add_assoc]
 repeat rw [List.set_append_right _ _ (by omega)]
 simp only [Nat.add_sub_cancel_left]; rfl
theorem own_hi {w:World} {B g cap:Nat} {pre:List RSp} {s:RSp} (c:RCut) (h:w.ownsRow B 43 12 (.slice (some ⟨g,0,none⟩) (pre.length+1) cap) (pre.length+1) ((pre ++ [s]).flatMap RSp.vals)) :
  (setAt w g (pre.length * 12+6) c.kind c.v.a c.v.b c.v.c (.slice c.A c.v.pre.length c.c) (.slice c.B c.v.build.length c.d)).ownsRow B 43 12 (.slice (some ⟨g,0,none⟩) (pre.length+1) cap) (pre.length+1) ((pre ++ [(⟨s.lo,c⟩:RSp)]).flatMap RSp.vals):=by
 have h1:=((((((h.stored (pre.length * 12+6) c.kind).1.stored (pre.length * 12+6+1) c.v.a).1.stored (pre.length * 12+6+2) c.v.b).1.stored (pre.length * 12+6+3) c.v.c).1.stored (pre.length * 12+6+4) (.slice c.A c.v.pre.length c.c)).1.stored (pre.length * 12+6+5) (.slice c.B c.v.build.length c.d)).1
 have e:=set_hi (pre.flatMap RSp.vals) s c
 rw [flat_len RSp.vals 12 svals_len] at e
 have e2:(pre ++ [s]).flatMap RSp.vals=pre.flatMap RSp.vals ++ s.vals:=by rw [List.flatMap_append]; simp
 have e3:(pre ++ [(⟨s.lo,c⟩:RSp)]).flatMap RSp.vals=pre.flatMap RSp.vals ++ (RSp.mk s.lo c).vals:=by rw [List.flatMap_append]; simp
 rw [e2,e] at h1
 rw [e3]; exact h1
theorem cells_kept {W W':World} {g a:Nat} {u0 u1 u2 u3 u4 u5:Value} (h:W.cell? ⟨g,a,none⟩=some u0∧W.cell? ⟨g,a+1,none⟩=some u1∧W.cell? ⟨g,a+2,none⟩=some u2∧W.cell? ⟨g,a+3,none⟩=some u3∧W.cell? ⟨g,a+4,none⟩=some u4∧W.cell? ⟨g,a+5,none⟩=some u5) (hg:g<W.heap.size) (hb:Below W.heap.size W W') :
  W'.cell? ⟨g,a,none⟩=some u0∧W'.cell? ⟨g,a+1,none⟩=some u1∧W'.cell? ⟨g,a+2,none⟩=some u2∧W'.cell? ⟨g,a+3,none⟩=some u3∧W'.cell? ⟨g,a+4,none⟩=some u4∧W'.cell? ⟨g,a+5,none⟩=some u5 :=
 ⟨(hb.cell (p:=⟨g,a,none⟩) hg).trans h.1,(hb.cell (p:=⟨g,a+1,none⟩) hg).trans h.2.1,(hb.cell (p:=⟨g,a+2,none⟩) hg).trans h.2.2.1,(hb.cell (p:=⟨g,a+3,none⟩) hg).trans h.2.2.2.1,(hb.cell (p:=⟨g,a+4,none⟩) hg).trans h.2.2.2.2.1,(hb.cell (p:=⟨g,a+5,none⟩) hg).trans h.2.2.2.2.2⟩
theorem own_hi_cells {w:World} {B g cap:Nat} {pre:List RSp} {s:RSp} (h:w.ownsRow B 43 12 (.slice (some ⟨g,0,none⟩) (pre.length+1) cap) (pre.length+1) ((pre ++ [s]).flatMap RSp.vals)):(∀ o,w.frozen? ⟨g,o,none⟩=false)∧w.cell? ⟨g,pre.length * 12+6,none⟩=some (.int .i64 s.hi.kind)∧w.cell? ⟨g,pre.length * 12+6+1,none⟩=some (.int .u64 s.hi.v.a)∧w.cell? ⟨g,pre.length * 12+6+2,none⟩=some (.int .u64 s.hi.v.b)∧w.cell? ⟨g,pre.length * 12+6+3,none⟩=some (.int .u64 s.hi.v.c)∧w.cell? ⟨g,pre.length * 12+6+4,none⟩=some (.slice s.hi.A s.hi.v.pre.length s.hi.c)∧w.cell? ⟨g,pre.length * 12+6+5,none⟩=some (.slice s.hi.B s.hi.v.build.length s.hi.d):=by
 have k:∀ i u,i<6→s.vals[6+i]?=some u→w.cell? ⟨g,pre.length * 12+6+i,none⟩=some u:=fun i u hi hu=>by
  have e:(pre ++ [s]).getD pre.length default=s:=by simp [List.getD]
  have q:=h.cells (g:=g) rfl (pre.length * 12+(6+i)) u (by rw [flat_get RSp.vals 12 svals_len (pre ++ [s]) pre.length (6+i) (by simp) (by omega),e]; exact hu)
  rw [add_none,Nat.zero_add,← Nat.add_assoc] at q; exact q
 exact ⟨fun o=>h.frozenAt o,k 0 _ (by omega) rfl,k 1 _ (by omega) rfl,k 2 _ (by omega) rfl,k 3 _ (by omega) rfl,k 4 _ (by omega) rfl,k 5 _ (by omega) rfl⟩
theorem own_drew {w:World} {B:Nat} {e:TypeId} {size:Nat} {v:Value} {n:Nat} {xs:List Value} (h:w.ownsRow B e size v n xs):w.drew.ownsRow B e size v n xs:=own_below h (Below.refl _ _).drew
theorem new15 {Q:Exit→Act→World→Prop} (wr:World) (g o cp k k1 B:Nat) (L:List RCut) (x y:RCut) (set:Value) (out:List RSp) (u0 u1 u2 u3 u4 u5 u6 u9 u11 u12 u13 u14 u15 u16 u17 u18 u19 u20 u21 u22 u23 u24 u25 u26 u27 u28 u29 u30 u31 u32 u33 u34 u35 u36 u37 u38 u39 u40 u41 u42 u43 u44 u45 u46 u47 u48 u49 u50 u51 u52 u53 u54 u55 u56 u57 u58 u59 u60 u61 u62 u63 u64 u65 u66 u67 u68 u69 u70 u71 u72 u73 u74 u75 u76 u77 u78 u79 u80 u81 u82 u83 u84 u85 u86 u87 u88 u89 u90 u91 u92 u93 u94:Value) (hk1:(k:Int)+1=(k1:Int)) (hkL:k1<L.length) (hLL:L.length≤100000) (hol:out.length≤100000) (hglB:g<B) (hB:B≤wr.heap.size)
  (cx:wr.cell? ⟨g,o+k * 6,none⟩=some (.int .i64 x.kind)∧wr.cell? ⟨g,o+k * 6+1,none⟩=some (.int .u64 x.v.a)∧wr.cell? ⟨g,o+k * 6+2,none⟩=some (.int .u64 x.v.b)∧wr.cell? ⟨g,o+k * 6+3,none⟩=some (.int .u64 x.v.c)∧wr.cell? ⟨g,o+k * 6+4,none⟩=some (.slice x.A x.v.pre.length x.c)∧wr.cell? ⟨g,o+k * 6+5,none⟩=some (.slice x.B x.v.build.length x.d)) (cy:wr.cell? ⟨g,o+k1 * 6,none⟩=some (.int .i64 y.kind)∧wr.cell? ⟨g,o+k1 * 6+1,none⟩=some (.int .u64 y.v.a)∧wr.cell? ⟨g,o+k1 * 6+2,none⟩=some (.int .u64 y.v.b)∧wr.cell? ⟨g,o+k1 * 6+3,none⟩=some (.int .u64 y.v.c)∧wr.cell? ⟨g,o+k1 * 6+4,none⟩=some (.slice y.A y.v.pre.length y.c)∧wr.cell? ⟨g,o+k1 * 6+5,none⟩=some (.slice y.B y.v.build.length y.d)) (ho:wr.ownsRow B 43 12 set out.length (out.flatMap RSp.vals))
  (hpan:∀ x (a:Act) (d:Nat) v W,Q (.panic x) (a.put (some d) v) W→Q (.panic x) a W) (h:∀ (v8:Value) (W':World) (t0 t1 t2 t3 t4 t5 t6 t7 t8 t9 t10 t11 t12:Value),W'.ownsRow B 43 12 v8 (out.length+1) ((out ++ [(⟨x,y⟩:RSp)]).flatMap RSp.vals)→Below B wr W'→Q Exit.normal { tmps:=#[u0,u1,u2,u3,u4,u5,u6,.slice (some ⟨g,o,none⟩) L.length cp,v8,u9,.int .i64 k,u11,u12,u13,u14,u15,u16,u17,u18,u19,u20,u21,u22,u23,u24,u25,u26,u27,u28,u29,u30,u31,u32,u33,u34,u35,u36,u37,u38,u39,u40,u41,u42,u43,u44,u45,u46,u47,u48,u49,u50,u51,u52,u53,u54,u55,u56,u57,u58,u59,u60,u61,u62,u63,u64,t0,t1,t2,t3,t4,t5,t6,t7,t8,t9,t10,t11,t12,u78,u79,u80,u81,u82,u83,u84,u85,u86,u87,u88,u89,u90,u91,u92,u93,u94],defers:=[] } W') :
  (Code.region 15 #[{ dst:=some 65,op:=Op.move (Operand.tmp 8),type:=31,pos := "ref.go:112",after:=#[],guard:=none },{ dst:=some 66,op:=Op.move (Operand.tmp 7),type:=94,pos := "ref.go:112",after:=#[],guard:=none },{ dst:=some 67,op:=Op.move (Operand.tmp 10),type:=3,pos := "ref.go:112",after:=#[],guard:=none },{ dst:=some 68,op:=Op.indexAddr 94 (Operand.tmp 66) (Operand.tmp 67),type:=0,pos := "ref.go:112",after:=#[{ on:=1,ground:=Ground.data },{ on:=2,ground:=Ground.data }],guard:=none },{ dst:=some 69,op:=Op.load 41 (Operand.tmp 68),type:=41,pos := "ref.go:112",after:=#[{ on:=3,ground:=Ground.data }],guard:=none },{ dst:=some 70,op:=Op.move (Operand.tmp 7),type:=94,pos := "ref.go:112",after:=#[],guard:=none },{ dst:=some 71,op:=Op.move (Operand.tmp 10),type:=3,pos := "ref.go:112",after:=#[],guard:=none },{ dst:=some 72,op:=Op.binOp BinOp.add 3 (Operand.tmp 71) (Operand.const (Value.int IntKind.i64 1)) 3,type:=3,pos := "ref.go:112",after:=#[{ on:=6,ground:=Ground.data }],guard:=none },{ dst:=some 73,op:=Op.indexAddr 94 (Operand.tmp 70) (Operand.tmp 72),type:=0,pos := "ref.go:112",after:=#[{ on:=5,ground:=Ground.data },{ on:=7,ground:=Ground.data }],guard:=none },{ dst:=some 74,op:=Op.load 41 (Operand.tmp 73),type:=41,pos := "ref.go:112",after:=#[{ on:=8,ground:=Ground.data }],guard:=none },{ dst:=some 75,op:=Op.build 43 #[(0,Operand.tmp 69),(1,Operand.tmp 74)],type:=43,pos := "ref.go:112",after:=#[{ on:=4,ground:=Ground.data },{ on:=9,ground:=Ground.data }],guard:=none },{ dst:=some 76,op:=Op.buildSlice 31 1 #[(0,Operand.tmp 75)],type:=31,pos := "ref.go:112",after:=#[{ on:=10,ground:=Ground.data }],guard:=none },{ dst:=some 77,op:=Op.call { callee:=Callee.builtin Builtin.append,args:=#[Operand.tmp 65,Operand.tmp 76],argTypes:=#[31,31] },type:=31,pos := "ref.go:112",after:=#[{ on:=0,ground:=Ground.data },{ on:=11,ground:=Ground.data }],guard:=none },{ dst:=some 8,op:=Op.assign (Operand.tmp 77),type:=31,pos := "ref.go:112",after:=#[{ on:=12,ground:=Ground.data },{ on:=12,ground:=Ground.chain },{ on:=0,ground:=Ground.phase },{ on:=1,ground:=Ground.phase },{ on:=2,ground:=Ground.phase },{ on:=3,ground:=Ground.phase },{ on:=4,ground:=Ground.phase },{ on:=5,ground:=Ground.phase },{ on:=6,ground:=Ground.phase },{ on:=7,ground:=Ground.phase },{ on:=8,ground:=Ground.phase },{ on:=9,ground:=Ground.phase },{ on:=10,ground:=Ground.phase },{ on:=11,ground:=Ground.phase },{ on:=12,ground:=Ground.phase }],guard:=none }] true).wp Tryz.prog Q { tmps:=#[u0,u1,u2,u3,u4,u5,u6,.slice (some ⟨g,o,none⟩) L.length cp,set,u9,.int .i64 k,u11,u12,u13,u14,u15,u16,u17,u18,u19,u20,u21,u22,u23,u24,u25,u26,u27,u28,u29,u30,u31,u32,u33,u34,u35,u36,u37,u38,u39,u40,u41,u42,u43,u44,u45,u46,u47,u48,u49,u50,u51,u52,u53,u54,u55,u56,u57,u58,u59,u60,u61,u62,u63,u64,u65,u66,u67,u68,u69,u70,u71,u72,u73,u74,u75,u76,u77,u78,u79,u80,u81,u82,u83,u84,u85,u86,u87,u88,u89,u90,u91,u92,u93,u94],defers:=[] } wr:=by
 have hkl:k<L.length:=by omega
 have HPA:=Lib.hid hpan
 have HQ:=Lib.hid h
 have HO:=Lib.hid ho
 clear hpan h ho
 obtain ⟨x0,x1,x2,x3,x4,x5⟩:=cx
 obtain ⟨y0,y1,y2,y3,y4,y5⟩:=cy
 have HBW:Hid (Below wr.heap.size wr wr.drew):=(Below.refl _ _).drew
 refine wp_region_held_drew (S:=fun w'=>Below B wr w') (by kernel_rfl) (HBW.out.mono hB) (fun hHeld=>?_)
 refine wpAnyH_take (i:=0) (oi:={ dst:=some 65,op:=Op.move (Operand.tmp 8),type:=31,pos:=_,after:=_,guard:=none }) (v:=set) rfl (by kernel_rfl) (by kernel_rfl) (by kernel_rfl) (fun _ _ _ h=>HPA.out _ _ _ _ _ h) (Or.inl ⟨by rfl,fun w' hS'=>by go_simp⟩) (by assumption) ?_
 simp only [Act.put,p1,p2,p3]
 refine wpAnyH_take (i:=1) (oi:={ dst:=some 66,op:=Op.move (Operand.tmp 7),type:=94,pos:=_,after:=_,guard:=none }) (v:=.slice (some ⟨g,o,none⟩) L.length cp) rfl (by kernel_rfl) (by kernel_rfl) (by kernel_rfl) (fun _ _ _ h=>HPA.out _ _ _ _ _ h) (Or.inl ⟨by rfl,fun w' hS'=>by go_simp⟩) (by assumption) ?_
 simp only [Act.put,p1,p2,p3]
 refine wpAnyH_take (i:=2) (oi:={ dst:=some 67,op:=Op.move (Operand.tmp 10),type:=3,pos:=_,after:=_,guard:=none }) (v:=.int .i64 k) rfl (by kernel_rfl) (by kernel_rfl) (by kernel_rfl) (fun _ _ _ h=>HPA.out _ _ _ _ _ h) (Or.inl ⟨by rfl,fun w' hS'=>by go_simp⟩) (by assumption) ?_
 simp only [Act.put,p1,p2,p3]
 refine wpAnyH_take (i:=3) (oi:={ dst:=some 68,op:=Op.indexAddr 94 (Operand.tmp 66) (Operand.tmp 67),type:=0,pos:=_,after:=_,guard:=none }) (v:=.pointer (some ⟨g,o+k * 6,none⟩)) rfl (by kernel_rfl) (by kernel_rfl) (by kernel_rfl) (fun _ _ _ h=>HPA.out _ _ _ _ _ h) (Or.inl ⟨by rfl,fun w' hS'=>by go_simp⟩) (by assumption) ?_
 simp only [Act.put,p1,p2,p3]
 refine wpAnyH_take (i:=4) (oi:={ dst:=some 69,op:=Op.load 41 (Operand.tmp 68),type:=41,pos:=_,after:=_,guard:=none }) (v:=.agg #[x.kind,x.v.a,x.v.b,x.v.c,.slice x.A x.v.pre.length x.c,.slice x.B x.v.build.length x.d]) rfl (by kernel_rfl) (by kernel_rfl) (by kernel_rfl) (fun _ _ _ h=>HPA.out _ _ _ _ _ h) (Or.inl ⟨by rfl,fun w' hS'=>by have q0:=(hS'.cell (p:=⟨g,o+k * 6,none⟩) hglB).trans x0; have q1:=(hS'.cell (p:=⟨g,o+k * 6+1,none⟩) hglB).trans x1; have q2:=(hS'.cell (p:=⟨g,o+k * 6+2,none⟩) hglB).trans x2; have q3:=(hS'.cell (p:=⟨g,o+k * 6+3,none⟩) hglB).trans x3; have q4:=(hS'.cell (p:=⟨g,o+k * 6+4,none⟩) hglB).trans x4; have q5:=(hS'.cell (p:=⟨g,o+k * 6+5,none⟩) hglB).trans x5; go_simp⟩) (by assumption) ?_
 simp only [Act.put,p1,p2,p3]
 refine wpAnyH_take (i:=5) (oi:={ dst:=some 70,op:=Op.move (Operand.tmp 7),type:=94,pos:=_,after:=_,guard:=none }) (v:=.slice (some ⟨g,o,none⟩) L.length cp) rfl (by kernel_rfl) (by kernel_rfl) (by kernel_rfl) (fun _ _ _ h=>HPA.out _ _ _ _ _ h) (Or.inl ⟨by rfl,fun w' hS'=>by go_simp⟩) (by assumption) ?_
 simp only [Act.put,p1,p2,p3]
 refine wpAnyH_take (i:=6) (oi:={ dst:=some 71,op:=Op.move (Operand.tmp 10),type:=3,pos:=_,after:=_,guard:=none }) (v:=.int .i64 k) rfl (by kernel_rfl) (by kernel_rfl) (by kernel_rfl) (fun _ _ _ h=>HPA.out _ _ _ _ _ h) (Or.inl ⟨by rfl,fun w' hS'=>by go_simp⟩) (by assumption) ?_
 simp only [Act.put,p1,p2,p3]
 refine wpAnyH_take (i:=7) (oi:={ dst:=some 72,op:=Op.binOp BinOp.add 3 (Operand.tmp 71) (Operand.const (Value.int IntKind.i64 1)) 3,type:=3,pos:=_,after:=_,guard:=none }) (v:=.int .i64 k1) rfl (by kernel_rfl) (by kernel_rfl) (by kernel_rfl) (fun _ _ _ h=>HPA.out _ _ _ _ _ h) (Or.inl ⟨by rfl,fun w' hS'=>by rw [← hk1]; go_simp; first | done | (rw [IntKind.wrap_i64]; omega)⟩) (by assumption) ?_
 simp only [Act.put,p1,p2,p3]
 refine wpAnyH_take (i:=8) (oi:={ dst:=some 73,op:=Op.indexAddr 94 (Operand.tmp 70) (Operand.tmp 72),type:=0,pos:=_,after:=_,guard:=none }) (v:=.pointer (some ⟨g,o+k1 * 6,none⟩)) rfl (by kernel_rfl) (by kernel_rfl) (by kernel_rfl) (fun _ _ _ h=>HPA.out _ _ _ _ _ h) (Or.inl ⟨by rfl,fun w' hS'=>by go_simp⟩) (by assumption) ?_
 simp only [Act.put,p1,p2,p3]
 refine wpAnyH_take (i:=9) (oi:={ dst:=some 74,op:=Op.load 41 (Operand.tmp 73),type:=41,pos:=_,after:=_,guard:=none }) (v:=.agg #[y.kind,y.v.a,y.v.b,y.v.c,.slice y.A y.v.pre.length y.c,.slice y.B y.v.build.length y.d]) rfl (by kernel_rfl) (by kernel_rfl) (by kernel_rfl) (fun _ _ _ h=>HPA.out _ _ _ _ _ h) (Or.inl ⟨by rfl,fun w' hS'=>by have q0:=(hS'.cell (p:=⟨g,o+k1 * 6,none⟩) hglB).trans y0; have q1:=(hS'.cell (p:=⟨g,o+k1 * 6+1,none⟩) hglB).trans y1; have q2:=(hS'.cell (p:=⟨g,o+k1 * 6+2,none⟩) hglB).trans y2; have q3:=(hS'.cell (p:=⟨g,o+k1 * 6+3,none⟩) hglB).trans y3; have q4:=(hS'.cell (p:=⟨g,o+k1 * 6+4,none⟩) hglB).trans y4; have q5:=(hS'.cell (p:=⟨g,o+k1 * 6+5,none⟩) hglB).trans y5; go_simp⟩) (by assumption) ?_
 simp only [Act.put,p1,p2,p3]
 refine wpAnyH_take (i:=10) (oi:={ dst:=some 75,op:=Op.build 43 #[(0,Operand.tmp 69),(1,Operand.tmp 74)],type:=43,pos:=_,after:=_,guard:=none }) (v:=.agg #[x.kind,x.v.a,x.v.b,x.v.c,.slice x.A x.v.pre.length x.c,.slice x.B x.v.build.length x.d,y.kind,y.v.a,y.v.b,y.v.c,.slice y.A y.v.pre.length y.c,.slice y.B y.v.build.length y.d]) rfl (by kernel_rfl) (by kernel_rfl) (by kernel_rfl) (fun _ _ _ h=>HPA.out _ _ _ _ _ h) (Or.inl ⟨by rfl,fun w' hS'=>by go_simp⟩) (by assumption) ?_
 simp only [Act.put,p1,p2,p3]
 have A7:Hid (Below wr.heap.size wr (wr.drew.alloc (x,y))):=HBW.out.alloc HBW.out.size _
 refine cl 11 rfl fun K hK=>?_
 go_simp
 refine hK.out _ _ (A7.out.mono hB) (fun hHeld=>?_)
 clear hK K
 try simp only [Act.put,p1,p2,p3]
 obtain ⟨v8,w8,hrun,ho8,hg8⟩:=run_append_sp (wr.drew.alloc (x,y)) 31 B set out.length out (own_below (own_drew HO.out) ((Below.refl _ _).alloc (Nat.le_refl _) _)) ⟨wr.heap.size,0,none⟩ 1 1 [⟨x,y⟩] rfl (news_new wr.drew _ _) (by omega) (Nat.le_trans hB A7.out.size)
 have B8:Hid (Below B wr w8):=(A7.out.mono hB).grown hg8 (Nat.le_trans hB A7.out.size) (fun k hk=>(HO.out.lt k hk).1)
 have O8:=Lib.hid ho8
 clear ho8 hg8 hHeld
 refine cl 12 rfl fun K hK=>?_
 refine region_append_sp (by rfl) _ _ rfl rfl rfl hrun ?_
 refine hK.out _ _ B8.out (fun hHeld=>?_)
 clear hK K hrun
 try simp only [Act.put,p1,p2,p3]
 refine wpAnyH_take (i:=13) (oi:={ dst:=some 8,op:=Op.assign (Operand.tmp 77),type:=31,pos:=_,after:=_,guard:=none }) (v:=v8) rfl (by kernel_rfl) (by kernel_rfl) (by kernel_rfl) (fun _ _ _ h=>HPA.out _ _ _ _ _ h) (Or.inl ⟨by rfl,fun w' hS'=>by go_simp⟩) (by assumption) ?_
 simp only [Act.put,p1,p2,p3]
 refine wpAnyH_done (by kernel_rfl) ?_ _
 exact HQ.out v8 w8 _ _ _ _ _ _ _ _ _ _ _ _ _ O8.out B8.out
end Go.Proofs.YtgfbflnhjpbceaaGreatDoor.Span
namespace Go.Proofs.YtgfbflnhjpbceaaGreatDoor.Nrm
open Go.RowKit Num Ident Semver Prec Span
def lastC (L:List Sp) (i:Nat):Cut:=if i=0 then low else (L.getD (i - 1) default).hi
def pk (L:List Sp):Nat→Nat
 | 0=>0
 | i+1=>pk L i+riseN (lastC L i) (L.getD i default).lo+riseN (L.getD i default).lo (L.getD i default).hi
def lk (L:List Sp) (i:Nat):Nat:=pk L i+riseN (lastC L i) (L.getD i default).lo
theorem rise_le (a b:Cut):riseN a b≤1:=by unfold riseN; split <;> omega
theorem pk_le (L:List Sp):∀ i,pk L i≤2 * i
 | 0=>Nat.le_refl _
 | i+1=>by
  have h1:=rise_le (lastC L i) (L.getD i default).lo
  have h2:=rise_le (L.getD i default).lo (L.getD i default).hi
  have h3:=pk_le L i
  show pk L i+riseN (lastC L i) (L.getD i default).lo+riseN (L.getD i default).lo (L.getD i default).hi≤2 * (i+1)
  omega
theorem lk_le (L:List Sp) (i:Nat):lk L i≤2 * i+1:=by
 have h1:=rise_le (lastC L i) (L.getD i default).lo
 have h3:=pk_le L i
 unfold lk; omega
theorem pk_lk (L:List Sp) (i:Nat):pk L (i+1)=lk L i+riseN (L.getD i default).lo (L.getD i default).hi:=rfl
theorem lk_next (L:List Sp) (i:Nat):lk L (i+1)=pk L (i+1)+riseN (L.getD i default).hi (L.getD (i+1) default).lo:=rfl
def ends (L:List Sp) (k:Nat) (j:Nat):Value:=if j<k then .complex .f64 (fb (lk L j)) (fb (pk L (j+1))) else .complex .f64 0 0
def CxAt (W:World) (g n:Nat) (E:Nat→Value):Prop:=g<W.heap.size∧(∀ o,W.frozen? ⟨g,o,none⟩=false)∧∀ j,j<n→W.cell? ⟨g,j,none⟩=some (E j)
theorem CxAt.kept {W W':World} {g n:Nat} {E:Nat→Value} (h:CxAt W g n E) (hb:Below W.heap.size W W'):CxAt W' g n E :=
 ⟨Nat.lt_of_lt_of_le h.1 hb.size,fun o=>(hb.frozen (p:=⟨g,o,none⟩) h.1).trans (h.2.1 o),fun j hj=>(hb.cell (p:=⟨g,j,none⟩) h.1).trans (h.2.2 j hj)⟩
theorem CxAt.next {W:World} {g n k:Nat} {L:List Sp} (h:CxAt W g n (ends L k)) (hk:k<n):CxAt (W.setCell ⟨g,k,none⟩ (.complex .f64 (fb (lk L k)) (fb (pk L (k+1))))) g n (ends L (k+1)):=by
 refine ⟨by simpa using h.1,fun o=>by simp [go_sem,h.2.1],fun j hj=>?_⟩
 by_cases e:j=k
 ·subst e
  rw [World.cell?_setCell_same _ _ _ (h.2.2 j hj)]
  unfold ends; rw [if_pos (by omega)]
 ·rw [World.cell?_setCell_other _ _ _ _ (by intro q; injection q with _ q2; exact e q2.symm),h.2.2 j hj]
  unfold ends
  by_cases hlt:j<k
  ·rw [if_pos hlt,if_pos (by omega)]
  ·rw [if_neg hlt,if_neg (by omega)]
theorem CxAt.new (w:World) (n:Nat) (L:List Sp) (t:TypeId):CxAt (w.alloc (.cells (madeCells #[.complex .f64 0 0] n) t)) w.heap.size n (ends L 0):=by
 have hh:(w.alloc (.cells (madeCells #[.complex .f64 0 0] n) t)).heap[w.heap.size]?=some (.cells (madeCells #[.complex .f64 0 0] n) t):=by
  show (w.heap.push _)[w.heap.size]?=_
  simp
 refine ⟨by simp,fun o=>by simp [go_sem],fun j hj=>?_⟩
 rw [cell_of_row _ _ _ _ t (0,0) hh]
 unfold ends
 rw [if_neg (by omega)]
 have e:(madeCells #[Value.complex .f64 0 0] n)[j]?=some (.complex .f64 0 0):=by
  unfold madeCells
  rw [Array.getElem?_map,Array.getElem?_range,if_pos hj]
  simp [Nat.mod_one]
 simpa using e
theorem CxAt.six {W:World} {g n b:Nat} {E:Nat→Value} (h:CxAt W g n E) (hne:g≠b) (v0 v1 v2 v3 v4 v5:Value):CxAt (Span.set6 W b v0 v1 v2 v3 v4 v5) g n E:=by
 have one:∀ (W:World) (o:Nat) (v:Value),CxAt W g n E→CxAt (W.setCell ⟨b,o,none⟩ v) g n E:=fun W o v h =>
  ⟨by simpa using h.1,fun o=>by simp [go_sem,h.2.1],fun j hj=>(World.cell?_setCell_other _ _ _ _ (by intro e; injection e with e; exact hne e.symm)).trans (h.2.2 j hj)⟩
 unfold Span.set6
 exact one _ _ _ (one _ _ _ (one _ _ _ (one _ _ _ (one _ _ _ (one _ _ _ h)))))
theorem run_store_cx (P:Program) (w:World) (a:Addr) (m:Mode) (k:FloatKind) (x y:Nat):(store a (.complex k x y) m).run P w=stored P w a (.complex k x y) m:=run_store P w a _ m rfl
theorem cxInfo:(Tryz.prog.info? 106).map (fun i=>(i.zero,i.size,i.bytes))=some (some (.complex .f64 0 0),1,16):=by kernel_rfl
theorem run_make_cx (n:Nat) (hn:n≤1000000) (w:World):(Instr.makeSlice 103 (.int .i64 n) (.int .i64 n)).run Tryz.prog w=.ok (.slice (some ⟨w.heap.size,0,none⟩) n n) (w.alloc (.cells (madeCells #[.complex .f64 0 0] n) 106)):=by
 obtain ⟨i,hi,hz,hs,hby⟩:=info_parts cxInfo
 have hr:=run_make (P:=Tryz.prog) w 103 106 i (.complex .f64 0 0) Tryz.underlying103 hi hz .i64 .i64 (n:Int) (n:Int) (by omega) (by omega) (by rw [hby]; omega) (by omega)
 rw [hs] at hr
 simp only [Int.toNat_natCast,Nat.mul_one] at hr
 exact hr
def RkJ (w:World) (A:Option Addr) (n c:Nat) (l:List RSp) (a':Act) (W:World):Prop :=
 ∃ (k:Nat) (z:RCut) (u1:Value) (u7 u8 u9 u10 u11 u12 u13 u14 u15 u16 u17 u18 u19 u20 u21 u22 u23 u24 u25 u26 u27 u28 u29 u30 u31 u32 u33 u34 u35 u36 u37 u38 u39 u40 u41 u42 u43 u44 u45 u46 u47 u48 u49 u50:Value),k≤n∧Hid (CxAt W w.heap.size n (ends (l.map RSp.sp) k))∧Hid (At6B W (w.heap.size+1) z.kind z.v.a z.v.b z.v.c (.slice z.A z.v.pre.length z.c) (.slice z.B z.v.build.length z.d))∧Hid (z.cut=lastC (l.map RSp.sp) k)∧Hid (Span.Lies W z)∧Hid (Below w.heap.size w W) ∧
  a'={ tmps:=#[.slice A n c,u1,.slice none 0 0,.slice (some ⟨w.heap.size,0,none⟩) n n,.pointer (some ⟨w.heap.size+1,0,none⟩),.int .i64 k,.float .f64 (fb (pk (l.map RSp.sp) k)),u7,u8,u9,u10,u11,u12,u13,u14,u15,u16,u17,u18,u19,u20,u21,u22,u23,u24,u25,u26,u27,u28,u29,u30,u31,u32,u33,u34,u35,u36,u37,u38,u39,u40,u41,u42,u43,u44,u45,u46,u47,u48,u49,u50],defers:=[] }
def RkM (n:Nat) (a':Act) (_:World):Nat:=n - (intOf (a'.tmps.getD 5 undef)).toNat
attribute [local go_sem] run_store_cx
theorem ranked_any (A:Option Addr) (n c:Nat) (l:List RSp) (w:World) (hr:SpRow w A n l) (hn:n≤74) :
  Calls Tryz.prog 75 #[.slice A n c] w fun e w'=>e=.returned (.slice (some ⟨w.heap.size,0,none⟩) n n)∧CxAt w' w.heap.size n (ends (l.map RSp.sp) n)∧Below w.heap.size w w':=by
 have HR:=Lib.hid hr
 have hmk:=fun W=>run_make_cx n (by omega) W
 clear hr
 go_enter Tryz.func75,Tryz.ntmps75
 go_upto_region 1 with (fail)
 go_wp2
 refine wp_scope_back 0 (RkJ w A n c l) (RkM n) rfl ?_ ?_
 ·rintro a' W ⟨k,z,u1,u7,u8,u9,u10,u11,u12,u13,u14,u15,u16,u17,u18,u19,u20,u21,u22,u23,u24,u25,u26,u27,u28,u29,u30,u31,u32,u33,u34,u35,u36,u37,u38,u39,u40,u41,u42,u43,u44,u45,u46,u47,u48,u49,u50,hk,HX,HZ,HZc,HLz,HB,rfl⟩
  by_cases hlt:k<n
  ·obtain ⟨b,o,rfl,hbw,hcell⟩:=HR.out.2.2 (by omega)
   have HS:Hid (SpAt W.drew b (o+k * 12) (l.getD k default)):=fun i v hv=>(HB.out.cell (p:=⟨b,o+k * 12+i,none⟩) hbw).trans (hcell k hlt i v hv)
   have HLs:Hid (LiesS W.drew (l.getD k default)):=(HR.out.lies hlt).kept HB.out.drew
   have hsp:=sp_at l k
   obtain ⟨s,hs⟩:∃ s,s=l.getD k default:=⟨_,rfl⟩
   rw [← hs] at HS HLs hsp
   have HLw:Hid (Span.Lies w s.hi):=by rw [hs]; exact (HR.out.lies hlt).hi
   have HF1:Hid (floatBits .add .f64 (fb (pk (l.map RSp.sp) k)) (fb (riseN (lastC (l.map RSp.sp) k) s.lo.cut))=some (fb (lk (l.map RSp.sp) k))):=by
    have:=fb_rise (k:=pk (l.map RSp.sp) k) (by have:=pk_le (l.map RSp.sp) k; omega) (lastC (l.map RSp.sp) k) s.lo.cut
    rw [this]; unfold lk; rw [hsp]; rfl
   have HF2:Hid (floatBits .add .f64 (fb (lk (l.map RSp.sp) k)) (fb (riseN s.lo.cut s.hi.cut))=some (fb (pk (l.map RSp.sp) (k+1)))):=by
    have:=fb_rise (k:=lk (l.map RSp.sp) k) (by have:=lk_le (l.map RSp.sp) k; omega) s.lo.cut s.hi.cut
    rw [this,pk_lk,hsp]; rfl
   have HNx:Hid (s.hi.cut=lastC (l.map RSp.sp) (k+1)):=by
    unfold Hid lastC; rw [if_neg (by omega),Nat.add_sub_cancel,hsp]; rfl
   have hne:¬ k=n:=by omega
   replace HX:Hid (CxAt W.drew w.heap.size n (ends (l.map RSp.sp) k)):=HX.out
   replace HZ:Hid (At6B W.drew (w.heap.size+1) z.kind z.v.a z.v.b z.v.c (.slice z.A z.v.pre.length z.c) (.slice z.B z.v.build.length z.d)):=HZ.out
   replace HLz:Hid (Span.Lies W.drew z):=HLz.out.kept (Below.refl _ _).drew
   replace HB:Hid (Below w.heap.size w W.drew):=HB.out.drew
   clear hs hcell hsp
   go_upto_region 6 with (fail)
   refine wp_region_held_drew (S:=fun w'=>At6B w' (w.heap.size+1) z.kind z.v.a z.v.b z.v.c (.slice z.A z.v.pre.length z.c) (.slice z.B z.v.build.length z.d)∧SpAt w' b (o+k * 12) s) (by kernel_rfl) ⟨HZ.out,HS.out⟩ (fun hHeld=>?_)
   generalize W.drew=W1 at HX HZ HS HLz HLs HB hHeld ⊢
   refine tk 0 rfl (.float .f64 (fb (pk (l.map RSp.sp) k))) ?_
   refine tk 1 rfl z ?_ fun w' hS'=>by obtain ⟨_,_,a0,a1,a2,a3,a4,a5⟩:=hS'.1; go_simp
   refine tk 2 rfl (.slice (some ⟨b,o,none⟩) n c) ?_
   refine tk 3 rfl (.int .i64 k) ?_
   refine tk 4 rfl (.pointer (some ⟨b,o+k * 12,none⟩)) ?_
   refine tk 5 rfl (.pointer (some ⟨b,o+k * 12,none⟩)) ?_
   refine tk 6 rfl s.lo ?_ fun w' hS'=>by obtain ⟨s0,s1,s2,s3,s4,s5,s6,s7,s8,s9,s10,s11⟩:=SpAt.cells hS'.2; go_simp
   refine cl 7 rfl fun K hK=>?_
   go_simp
   refine (rise_any z s.lo _ HLz.out HLs.out.lo).mono ?_
   rintro e wp1 ⟨rfl,hb⟩
   replace HX:=Lib.hid (HX.out.kept hb)
   replace HZ:=Lib.hid (HZ.out.kept hb HZ.out.1)
   replace HS:=Lib.hid (HS.out.kept hb (Nat.lt_of_lt_of_le hbw HB.out.size))
   replace HLz:=Lib.hid (HLz.out.kept hb)
   replace HLs:=Lib.hid (HLs.out.kept hb)
   replace HB:=Lib.hid (HB.out.trans (hb.mono HB.out.size))
   rw [HZc.out]
   clear hb hHeld
   refine hK.out _ _ ⟨HZ.out,HS.out⟩ (fun hHeld=>?_)
   clear hK K
   try simp only [Act.put,p1,p2,p3]
   refine tk 8 rfl (.float .f64 (fb (lk (l.map RSp.sp) k))) ?_ fun w' hS'=>by have hf:=run_float_arith (P:=Tryz.prog) w' .add 105 .f64 _ _ _ HF1.out; go_simp
   refine tk 9 rfl (.float .f64 (fb (lk (l.map RSp.sp) k))) ?_
   refine wpAnyH_done (by kernel_rfl) ?_ _
   go_upto_region 7 with (fail)
   replace HX:Hid (CxAt wp1.drew w.heap.size n (ends (l.map RSp.sp) k)):=HX.out
   replace HZ:Hid (At6B wp1.drew (w.heap.size+1) z.kind z.v.a z.v.b z.v.c (.slice z.A z.v.pre.length z.c) (.slice z.B z.v.build.length z.d)):=HZ.out
   replace HS:Hid (SpAt wp1.drew b (o+k * 12) s):=HS.out
   replace HLs:Hid (LiesS wp1.drew s):=HLs.out.kept (Below.refl _ _).drew
   replace HB:Hid (Below w.heap.size w wp1.drew):=HB.out.drew
   refine wp_region_held_drew (S:=fun w'=>At6B w' (w.heap.size+1) z.kind z.v.a z.v.b z.v.c (.slice z.A z.v.pre.length z.c) (.slice z.B z.v.build.length z.d)∧SpAt w' b (o+k * 12) s) (by kernel_rfl) ⟨HZ.out,HS.out⟩ (fun hHeld=>?_)
   generalize wp1.drew=W2 at HX HZ HS HLs HB hHeld ⊢
   refine tk 0 rfl (.float .f64 (fb (lk (l.map RSp.sp) k))) ?_
   refine tk 1 rfl (.slice (some ⟨b,o,none⟩) n c) ?_
   refine tk 6 rfl (.slice (some ⟨b,o,none⟩) n c) ?_
   refine tk 2 rfl (.int .i64 k) ?_
   refine tk 7 rfl (.int .i64 k) ?_
   refine tk 3 rfl (.pointer (some ⟨b,o+k * 12,none⟩)) ?_
   refine tk 8 rfl (.pointer (some ⟨b,o+k * 12,none⟩)) ?_
   refine tk 4 rfl (.pointer (some ⟨b,o+k * 12,none⟩)) ?_
   refine tk 9 rfl (.pointer (some ⟨b,o+k * 12+6,none⟩)) ?_
   refine tk 5 rfl s.lo ?_ fun w' hS'=>by obtain ⟨s0,s1,s2,s3,s4,s5,s6,s7,s8,s9,s10,s11⟩:=SpAt.cells hS'.2; go_simp
   refine tk 10 rfl s.hi ?_ fun w' hS'=>by obtain ⟨s0,s1,s2,s3,s4,s5,s6,s7,s8,s9,s10,s11⟩:=SpAt.cells hS'.2; go_simp
   refine cl 11 rfl fun K hK=>?_
   go_simp
   refine (rise_any s.lo s.hi _ HLs.out.lo HLs.out.hi).mono ?_
   rintro e wq1 ⟨rfl,hb⟩
   replace HX:=Lib.hid (HX.out.kept hb)
   replace HZ:=Lib.hid (HZ.out.kept hb HZ.out.1)
   replace HS:=Lib.hid (HS.out.kept hb (Nat.lt_of_lt_of_le hbw HB.out.size))
   replace HLs:=Lib.hid (HLs.out.kept hb)
   replace HB:=Lib.hid (HB.out.trans (hb.mono HB.out.size))
   clear hb hHeld
   refine hK.out _ _ ⟨HZ.out,HS.out⟩ (fun hHeld=>?_)
   clear hK K
   try simp only [Act.put,p1,p2,p3]
   refine tk 12 rfl (.float .f64 (fb (pk (l.map RSp.sp) (k+1)))) ?_ fun w' hS'=>by have hf:=run_float_arith (P:=Tryz.prog) w' .add 105 .f64 _ _ _ HF2.out; go_simp
   refine tk 13 rfl (.float .f64 (fb (pk (l.map RSp.sp) (k+1)))) ?_
   refine wpAnyH_done (by kernel_rfl) ?_ _
   go_upto_region 8 with (fail)
   have hz8:wq1.cell? ⟨w.heap.size,k,none⟩=some (.complex .f64 0 0):=by rw [HX.out.2.2 k hlt]; unfold ends; rw [if_neg (Nat.lt_irrefl _)]
   have hf8:=HX.out.2.1 k
   go_upto_region 9 with (fail)
   have HX9:=Lib.hid (HX.out.next hlt)
   have HZ9:Hid (At6B (wq1.setCell ⟨w.heap.size,k,none⟩ (.complex .f64 (fb (lk (l.map RSp.sp) k)) (fb (pk (l.map RSp.sp) (k+1))))) (w.heap.size+1) z.kind z.v.a z.v.b z.v.c (.slice z.A z.v.pre.length z.c) (.slice z.B z.v.build.length z.d)):=HZ.out.beside (by omega) _
   have HB9:Hid (Below w.heap.size w (wq1.setCell ⟨w.heap.size,k,none⟩ (.complex .f64 (fb (lk (l.map RSp.sp) k)) (fb (pk (l.map RSp.sp) (k+1)))))):=HB.out.setCell (p:=⟨w.heap.size,k,none⟩) (Nat.le_refl _) _
   have hb9:Below w.heap.size wq1 (wq1.setCell ⟨w.heap.size,k,none⟩ (.complex .f64 (fb (lk (l.map RSp.sp) k)) (fb (pk (l.map RSp.sp) (k+1))))):=(Below.refl _ _).setCell (p:=⟨w.heap.size,k,none⟩) (Nat.le_refl _) _
   have HS9:Hid (SpAt (wq1.setCell ⟨w.heap.size,k,none⟩ (.complex .f64 (fb (lk (l.map RSp.sp) k)) (fb (pk (l.map RSp.sp) (k+1))))) b (o+k * 12) s):=fun i v hv=>(hb9.cell (p:=⟨b,o+k * 12+i,none⟩) hbw).trans (HS.out i v hv)
   clear hz8 hf8 hb9 HX HZ HS HB hHeld
   generalize wq1.setCell ⟨w.heap.size,k,none⟩ (.complex .f64 (fb (lk (l.map RSp.sp) k)) (fb (pk (l.map RSp.sp) (k+1))))=W8 at HX9 HZ9 HB9 HS9 ⊢
   obtain ⟨_,g2,z0,z1,z2,z3,z4,z5⟩:=HZ9.out
   obtain ⟨s0,s1,s2,s3,s4,s5,s6,s7,s8,s9,s10,s11⟩:=SpAt.cells HS9.out
   have HXE:=Lib.hid (HX9.out.six (b:=w.heap.size+1) (by omega) s.hi.kind s.hi.v.a s.hi.v.b s.hi.v.c (.slice s.hi.A s.hi.v.pre.length s.hi.c) (.slice s.hi.B s.hi.v.build.length s.hi.d))
   have HZE:=Lib.hid (HZ9.out.set6 s.hi.kind s.hi.v.a s.hi.v.b s.hi.v.c (.slice s.hi.A s.hi.v.pre.length s.hi.c) (.slice s.hi.B s.hi.v.build.length s.hi.d))
   have HBE:=Lib.hid (below_set6 HB9.out (b:=w.heap.size+1) (by omega) s.hi.kind s.hi.v.a s.hi.v.b s.hi.v.c (.slice s.hi.A s.hi.v.pre.length s.hi.c) (.slice s.hi.B s.hi.v.build.length s.hi.d))
   have HLE:Hid (Span.Lies (Span.set6 W8 (w.heap.size+1) s.hi.kind s.hi.v.a s.hi.v.b s.hi.v.c (.slice s.hi.A s.hi.v.pre.length s.hi.c) (.slice s.hi.B s.hi.v.build.length s.hi.d)) s.hi):=HLw.out.kept HBE.out
   go_upto_region 10 with (fail)
   change Code.wp _ _ _ _ (Span.set6 W8 (w.heap.size+1) s.hi.kind s.hi.v.a s.hi.v.b s.hi.v.c (.slice s.hi.A s.hi.v.pre.length s.hi.c) (.slice s.hi.B s.hi.v.build.length s.hi.d))
   generalize Span.set6 W8 (w.heap.size+1) s.hi.kind s.hi.v.a s.hi.v.b s.hi.v.c (.slice s.hi.A s.hi.v.pre.length s.hi.c) (.slice s.hi.B s.hi.v.build.length s.hi.d)=WE at HXE HZE HBE HLE ⊢
   clear z0 z1 z2 z3 z4 z5 s0 s1 s2 s3 s4 s5 s6 s7 s8 s9 s10 s11 g2 HX9 HZ9 HB9 HS9
   go_wp2
   go_step3
   rw [show ((k:Int)+1)=((k+1:Nat):Int) from rfl]
   exact ⟨rfl,⟨k+1,s.hi,u1,_,_,_,_,_,_,_,_,_,_,_,_,_,_,_,_,_,_,_,_,_,_,_,_,_,_,_,_,_,_,_,_,_,_,_,_,_,_,_,_,_,_,_,_,by omega,HXE,HZE,HNx,HLE,HBE,rfl⟩,by simp [RkM,intOf]; omega⟩
  ·obtain rfl:k=n:=by omega
   go_wp2
   simp only [Exit.jump]
   go_ret
   exact ⟨rfl,HX.out,HB.out⟩
 ·intro HP
  have HX0:Hid (CxAt ((w.alloc (.cells (madeCells #[.complex .f64 0 0] n) 106)).alloc true) w.heap.size n (ends (l.map RSp.sp) 0)):=(CxAt.new w n (l.map RSp.sp) 106).kept ((Below.refl _ _).alloc (Nat.le_refl _) _)
  have HZ0:Hid (At6B ((w.alloc (.cells (madeCells #[.complex .f64 0 0] n) 106)).alloc true) (w.heap.size+1) (.int .i64 0) (.int .u64 0) (.int .u64 0) (.int .u64 0) (.slice none 0 0) (.slice none 0 0)):=by
   have h:=At6B.new (w.alloc (.cells (madeCells #[.complex .f64 0 0] n) 106)) 41 (.int .i64 0) (.int .u64 0) (.int .u64 0) (.int .u64 0) (.slice none 0 0) (.slice none 0 0)
   rw [size_alloc] at h; exact h
  have HB0:Hid (Below w.heap.size w ((w.alloc (.cells (madeCells #[.complex .f64 0 0] n) 106)).alloc true)):=((Below.refl _ _).alloc (Nat.le_refl _) _).alloc (by simp) _
  go_wp2
  go_step3
  rename_i hK
  exact hK _ _ (HP.out _ _ ⟨0,rlow,_,_,_,_,_,_,_,_,_,_,_,_,_,_,_,_,_,_,_,_,_,_,_,_,_,_,_,_,_,_,_,_,_,_,_,_,_,_,_,_,_,_,_,_,_,by omega,HX0,HZ0,rfl,Span.Lies.low _,HB0,rfl⟩)
end Go.Proofs.YtgfbflnhjpbceaaGreatDoor.Nrm
namespace Go.Proofs.YtgfbflnhjpbceaaGreatDoor.Nrm
open Go.RowKit Num Ident Semver Prec Span
open Range (Rng noRng goodR goodL fits wt wtL)
def exA:List UInt8:=(⟨#[94,49,46,50,46,48,44,32,33,61,49,46,51,46,48]⟩:ByteArray).data.toList
def exT:List UInt8:=(⟨#[62,61,49,46,50,46,48,44,32,60,50,46,48,46,48,45,48,44,32,33,61,49,46,51,46,48]⟩:ByteArray).data.toList
def v120:Ver:=⟨1,2,0,[],[]⟩
def v130:Ver:=⟨1,3,0,[],[]⟩
def rA:Rng:=.mk 9 noVer [.mk 7 v120 [],.mk 6 v130 []]
def oA:List Sp:=[⟨aheadOf v120,aheadOf v130⟩,⟨behindOf v130,⟨1,firstV 2 0 0⟩⟩]
theorem exA_read:Range.pread exA=(0,0,rA):=by rfl
theorem rA_good:goodR rA 0=true:=by decide
theorem oA_norm:Span.Norm oA:=(goodS_norm oA).1 (by decide)
theorem oA_chain:Chain oA:=fun i hi=>by
 have:i=0:=by have:oA.length=2:=rfl; omega
 subst this; decide
theorem oA_set:SetOf rA oA:=by
 refine ⟨oA_norm,fun c=>?_⟩
 rw [row_sem oA oA_norm (by simp [oA]) oA_chain c]
 show (stand (aheadOf v120) c≤0∧stand c ⟨1,firstV 2 0 0⟩<0∧∀ s ∈ [(⟨aheadOf v120,aheadOf v130⟩:Sp)],¬ inOne ⟨aheadOf s.hi.v,behindOf s.hi.v⟩ c)↔inC rA c
 have hv:goodV v120=true:=by decide
 unfold rA
 rw [inC_and]
 simp only [List.mem_cons,List.mem_nil_iff,or_false,forall_eq_or_imp,forall_eq]
 rw [inC_ver (by omega) (by omega),inC_ver (by omega) (by omega)]
 have h7:inK 7 v120 c↔stand (aheadOf v120) c≤0∧stand c ⟨1,firstV 2 0 0⟩<0:=Iff.rfl
 have h6:inK 6 v130 c↔¬ inOne ⟨aheadOf v130,behindOf v130⟩ c:=Iff.rfl
 rw [h7,h6]
 have hw:stand (aheadOf v120) c≤0∧stand c ⟨1,firstV 2 0 0⟩<0→inOne ⟨low,high⟩ c:=fun h=>within (s:=⟨aheadOf v120,⟨1,firstV 2 0 0⟩⟩) (ahead_right hv) (by decide) h
 constructor
 ·rintro ⟨a,b,d⟩
  exact ⟨hw ⟨a,b⟩,⟨hw ⟨a,b⟩,a,b⟩,hw ⟨a,b⟩,d⟩
 ·rintro ⟨_,⟨_,a,b⟩,_,d⟩
  exact ⟨a,b,d⟩
theorem oA_text:Range.textR (plainR oA)=exT:=by decide +kernel
end Go.Proofs.YtgfbflnhjpbceaaGreatDoor.Nrm
