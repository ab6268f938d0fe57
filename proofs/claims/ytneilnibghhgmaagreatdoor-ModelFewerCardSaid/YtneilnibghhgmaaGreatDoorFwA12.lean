/-
  What the theorem of the last text needs of these: SpSweepJ, RgGood, KRow. Conditions: as each theorem states.
-/
import Derived.Test.YtneilnibghhgmaaGreatDoorFwA1
import Derived.Test.YtneilnibghhgmaaGreatDoorFwA2
import Derived.Test.YtneilnibghhgmaaGreatDoorFwA3
import Derived.Test.YtneilnibghhgmaaGreatDoorFwA5
import Derived.Test.YtneilnibghhgmaaGreatDoorFwA6
import Derived.Test.YtneilnibghhgmaaGreatDoorFwA7
import Derived.Test.YtneilnibghhgmaaGreatDoorFwA10
import Derived.Test.YtneilnibghhgmaaGreatDoorFwA11
import Derived.StillTailTactics
import Derived.Deep.RegionHeld3
import Derived.Deep.CutBlock
import Derived.Deep.DeepCutAuto
set_option maxRecDepth 100000
set_option maxHeartbeats 25600000
namespace Go.Proofs.YtneilnibghhgmaaGreatDoor.Span
open Go.RowKit Num Ident Semver Prec

structure SwFix (w1:World) (re0:List REdge) (A:Option Addr) (n mb:Nat) (m:Int) (ws:World) (re:List REdge):Prop where
 perm:re.Perm re0
 sorted:re.Pairwise fun x y=>stand x.cut.cut y.cut.cut≤0
 len:re.length=n
 small:n≤100000
 lies:∀ e ∈ re,Lies w1 e.cut
 right:∀ e ∈ re,right e.cut.cut=true
 step:∀ e ∈ re,-10≤e.step∧e.step≤10
 cells:0<n→∃ g,A=some ⟨g,0,none⟩∧g<ws.heap.size∧∀ j,j<n→∀ i u,(re.getD j default).vals[i]?=some u→ws.cell? ⟨g,0+j * 7+i,none⟩=some u
 mbl:mb<ws.heap.size
 mbc:ws.cell? ⟨mb,0,none⟩=some (.int .i64 m)
 old:Below w1.heap.size w1 ws
structure SwAt (w1 ws:World) (n i:Nat) (T:Int) (set:Value) (out:List RSp) (lo:RCut) (W:World):Prop where
 bel:Below ws.heap.size ws W
 lob:At6B W ws.heap.size lo.kind lo.v.a lo.v.b lo.v.c (.slice lo.A lo.v.pre.length lo.c) (.slice lo.B lo.v.build.length lo.d)
 own:W.ownsRow (ws.heap.size+1) 164 12 set out.length (out.flatMap RSp.vals)
 cuts:∀ s ∈ out,OwnC W (ws.heap.size+1) s.lo∧OwnC W (ws.heap.size+1) s.hi
 lies:Lies w1 lo
 bare:bare lo.v=lo.v
 few:lo.v.pre.length≤16
 len:out.length≤i
 lo10:-(10 * (i:Int))≤T
 hi10:T≤10 * (i:Int)
 ile:i≤n
theorem own_set6 {w:World} {B:Nat} {e:TypeId} {size:Nat} {v:Value} {n:Nat} {xs:List Value} (h:w.ownsRow B e size v n xs) {b:Nat} (hb:b<B) (v0 v1 v2 v3 v4 v5:Value):(Span.set6 w b v0 v1 v2 v3 v4 v5).ownsRow B e size v n xs :=
 ownsRow_setCell_below (ownsRow_setCell_below (ownsRow_setCell_below (ownsRow_setCell_below (ownsRow_setCell_below (ownsRow_setCell_below h (a:=⟨b,0,none⟩) hb v0) (a:=⟨b,1,none⟩) hb v1) (a:=⟨b,2,none⟩) hb v2) (a:=⟨b,3,none⟩) hb v3) (a:=⟨b,4,none⟩) hb v4) (a:=⟨b,5,none⟩) hb v5
theorem SwAt.kept {w1 ws:World} {n i:Nat} {T:Int} {set:Value} {out:List RSp} {lo:RCut} {W W':World} (h:SwAt w1 ws n i T set out lo W) (hb:Below W.heap.size W W'):SwAt w1 ws n i T set out lo W' :=
 {h with bel:=h.bel.trans (hb.mono h.bel.size),lob:=h.lob.kept hb h.lob.1,own:=own_below h.own hb,cuts:=fun s hs=>⟨(h.cuts s hs).1.kept hb,(h.cuts s hs).2.kept hb⟩ }
theorem At6B.drew {W:World} {b:Nat} {u0 u1 u2 u3 u4 u5:Value} (h:At6B W b u0 u1 u2 u3 u4 u5):At6B W.drew b u0 u1 u2 u3 u4 u5:=h
theorem region_append_sp {yl:Nat→Option Bool} {o:Oper} {a:Act} {w w':World} {K:Act→World→Prop} {Q:Exit→Act→World→Prop} {v v':Value} {y:Value} (hw:Region.wanted o yl=true) (s x:Operand)
  (ho:o.op=.call { callee:=.builtin .append,args:=#[s,x],argTypes:=#[129,129] }) (hs:a.eval s=v) (hx:a.eval x=y)
  (hrun:(Builtin.append_ #[129,129] o.type #[v,y]).run Tryz.prog w=.ok v' w') (h:K (a.put o.dst v') w'):if Region.wanted o yl=true then Oper.wp Tryz.prog o a w K Q else K (a.put o.dst undef) w:=by
 rw [if_pos hw]
 unfold Oper.wp execOp
 simp only [ho,resolve,invoke,builtin,Sem.run_bind,Sem.run_pure,Result.andThen_ok,List.map_toArray,List.map_cons,List.map_nil,hs,hx,hrun]
 exact h
theorem SwAt.setlo {w1 ws:World} {n i:Nat} {T:Int} {set:Value} {out:List RSp} {lo:RCut} {W:World} (h:SwAt w1 ws n i T set out lo W) (cu:RCut) (hl:Lies w1 cu) (hr:Span.right cu.cut=true):SwAt w1 ws n i T set out cu (Span.set6 W ws.heap.size cu.kind cu.v.a cu.v.b cu.v.c (.slice cu.A cu.v.pre.length cu.c) (.slice cu.B cu.v.build.length cu.d)) :=
 {h with bel:=below_set6 h.bel (Nat.le_refl _) _ _ _ _ _ _,lob:=h.lob.set6 _ _ _ _ _ _,own:=own_set6 h.own (Nat.lt_succ_self _) _ _ _ _ _ _,cuts:=fun s hs=>⟨(h.cuts s hs).1.set6 (Nat.lt_succ_self _) _ _ _ _ _ _,(h.cuts s hs).2.set6 (Nat.lt_succ_self _) _ _ _ _ _ _⟩,lies:=hl,bare:=right_bare hr,few:=(right_few hr).1 }
theorem SwAt.step {w1 ws:World} {n i:Nat} {T:Int} {set:Value} {out:List RSp} {lo:RCut} {W:World} (h:SwAt w1 ws n i T set out lo W) {d:Int} (h1:-10≤d) (h2:d≤10) (hi:i<n):SwAt w1 ws n (i+1) (T+d) set out lo W :=
 {h with len:=Nat.le_succ_of_le h.len,lo10:=by have:=h.lo10; omega,hi10:=by have:=h.hi10; omega,ile:=hi }
def Tag (W:World) (b:Nat):Prop:=∃ C,W.heap[b]?=some (.cells C 161 (0,0))
theorem Tag.kept {W W':World} {b B:Nat} (h:Tag W b) (hb:Below B W W') (hB:b<B):Tag W' b:=by
 obtain ⟨C,hC⟩:=h
 exact ⟨C,(hb.block b hB).trans hC⟩
theorem Tag.new (W:World) (C:Array Value):Tag (W.alloc (.cells C 161)) W.heap.size:=⟨C,by show (W.heap.push _)[W.heap.size]?=_; simp⟩
theorem Tag.apart {W:World} {b B:Nat} {set:Value} {n:Nat} {xs:List Value} (h:Tag W b) (ho:W.ownsRow B 164 12 set n xs):some b≠set.ownBlock:=by
 obtain ⟨C,hC⟩:=h
 rcases ho.2 with ⟨rfl,_⟩ | ⟨g,cap,cur,rfl,_,hg,_⟩
 ·intro h; cases h
 ·intro h
  have e:b=g:=by simpa [Value.ownBlock] using h
  subst e
  rw [hC] at hg
  injection hg with hg
  injection hg with _ h
  exact absurd h (by decide)
theorem At6B.grown {w w':World} {row:Option Nat} {b:Nat} {u0 u1 u2 u3 u4 u5:Value} (h:At6B w b u0 u1 u2 u3 u4 u5) (hg:w.grownBy w' row) (hne:some b≠row):At6B w' b u0 u1 u2 u3 u4 u5:=by
 obtain ⟨h1,h2,c0,c1,c2,c3,c4,c5⟩:=h
 have k:w'.heap[b]?=w.heap[b]?:=hg.block b h1 hne
 exact ⟨Nat.lt_of_lt_of_le h1 hg.size,fun o=>(World.frozen?_of_block (w:=w) (a:=⟨b,o,none⟩) k).trans (h2 o),(World.cell?_of_block (w:=w) (a:=⟨b,0,none⟩) k).trans c0,(World.cell?_of_block (w:=w) (a:=⟨b,1,none⟩) k).trans c1,(World.cell?_of_block (w:=w) (a:=⟨b,2,none⟩) k).trans c2,(World.cell?_of_block (w:=w) (a:=⟨b,3,none⟩) k).trans c3,(World.cell?_of_block (w:=w) (a:=⟨b,4,none⟩) k).trans c4,(World.cell?_of_block (w:=w) (a:=⟨b,5,none⟩) k).trans c5⟩
theorem SwAt.more {w1 ws:World} {n i:Nat} {T:Int} {set:Value} {out:List RSp} {lo:RCut} {W w7 w8:World} {v8:Value} {s:RSp} (h:SwAt w1 ws n i T set out lo W) (hb:Below W.heap.size W w7) (hl:OwnC w7 (ws.heap.size+1) s.lo) (hh:OwnC w7 (ws.heap.size+1) s.hi) (hg:w7.grownBy w8 set.ownBlock)
  (ho:w8.ownsRow (ws.heap.size+1) 164 12 v8 (out.length+1) ((out ++ [s]).flatMap RSp.vals)) (hi:out.length+1≤i):SwAt w1 ws n i T v8 (out ++ [s]) lo w8 :=
 have o7:=own_below h.own hb
 have b8:Below (ws.heap.size+1) W w8:=(hb.mono h.lob.1).grown hg (Nat.le_trans h.lob.1 hb.size) (fun k hk=>(h.own.lt k hk).1)
 {bel:=h.bel.trans (b8.mono (Nat.le_succ _)),lob:=h.lob.kept b8 (Nat.lt_succ_self _),own:=by rw [List.length_append]; exact ho,
  cuts:=fun x hx=>by
   rcases List.mem_append.1 hx with hx | hx
   ·exact ⟨((h.cuts x hx).1.kept hb).grown o7 hg,((h.cuts x hx).2.kept hb).grown o7 hg⟩
   ·rw [List.mem_singleton] at hx; subst hx; exact ⟨hl.grown o7 hg,hh.grown o7 hg⟩,
  lies:=h.lies,bare:=h.bare,few:=h.few,len:=by rw [List.length_append]; exact hi,lo10:=h.lo10,hi10:=h.hi10,ile:=h.ile }
def SwJ0 (w1:World) (re0:List REdge) (A:Option Addr) (n c mb:Nat) (m:Int) (a':Act) (W:World):Prop :=
 ∃ (ws:World) (re:List REdge) (i:Nat) (T:Int) (set:Value) (out:List RSp) (lo:RCut) (u9 u10 u11 u14 u15 u16 u17 u18 u19 u20 u21 u22 u23 u24 u25 u26 u27 u28 u29 u30 u31 u32 u33 u34 u35 u36 u37 u38 u39 u40 u41 u42 u43 u44 u45 u46 u47 u48 u49 u50 u51 u52 u53 u54 u55 u56 u57 u58 u59 u60 u61 u62 u63 u64 u65 u66 u67 u68 u69 u70 u71 u72 u73:Value),SwFix w1 re0 A n mb m ws re∧SwAt w1 ws n i T set out lo W ∧
  sweepL m (re.map REdge.edge)=out.map RSp.sp ++ nextL m T lo.cut ((re.drop i).map REdge.edge)∧a'={ tmps:=#[.slice A n c,.func (.func 198) #[] #[.pointer (some ⟨mb,0,none⟩)],undef,undef,.slice none 0 0,set,.pointer (some ⟨ws.heap.size,0,none⟩),.int .i64 i,.int .i64 T,u9,u10,u11,.slice A n c,.tuple #[],u14,u15,u16,u17,u18,u19,u20,u21,u22,u23,u24,u25,u26,u27,u28,u29,u30,u31,u32,u33,u34,u35,u36,u37,u38,u39,u40,u41,u42,u43,u44,u45,u46,u47,u48,u49,u50,u51,u52,u53,u54,u55,u56,u57,u58,u59,u60,u61,u62,u63,u64,u65,u66,u67,u68,u69,u70,u71,u72,u73],defers:=[] }
def SwJ1 (w1:World) (re0:List REdge) (A:Option Addr) (n c mb:Nat) (m:Int) (a':Act) (W:World):Prop :=
 ∃ (ws:World) (re:List REdge) (i:Nat) (T:Int) (set:Value) (out:List RSp) (lo:RCut) (bc:Nat) (cu:RCut) (was:Bool) (u11 u14 u15 u16 u17 u18 u19 u20 u21 u22 u23 u24 u25 u26 u27 u28 u29 u30 u31 u32 u33 u34 u35 u36 u37 u38 u39 u40 u41 u42 u43 u44 u45 u46 u47 u48 u49 u50 u51 u52 u53 u54 u55 u56 u57 u58 u59 u60 u61 u62 u63 u64 u65 u66 u67 u68 u69 u70 u71 u72 u73:Value),SwFix w1 re0 A n mb m ws re∧SwAt w1 ws n i T set out lo W∧i<n ∧
  At6B W bc cu.kind cu.v.a cu.v.b cu.v.c (.slice cu.A cu.v.pre.length cu.c) (.slice cu.B cu.v.build.length cu.d)∧Tag W bc∧Lies w1 cu∧right cu.cut=true∧sweepL m (re.map REdge.edge)=out.map RSp.sp ++ go m cu.cut was T lo.cut ((re.drop i).map REdge.edge)∧a'={ tmps:=#[.slice A n c,.func (.func 198) #[] #[.pointer (some ⟨mb,0,none⟩)],undef,undef,.slice none 0 0,set,.pointer (some ⟨ws.heap.size,0,none⟩),.int .i64 i,.int .i64 T,.pointer (some ⟨bc,0,none⟩),.bool was,u11,.slice A n c,.tuple #[],u14,u15,u16,u17,u18,u19,u20,u21,u22,u23,u24,u25,u26,u27,u28,u29,u30,u31,u32,u33,u34,u35,u36,u37,u38,u39,u40,u41,u42,u43,u44,u45,u46,u47,u48,u49,u50,u51,u52,u53,u54,u55,u56,u57,u58,u59,u60,u61,u62,u63,u64,u65,u66,u67,u68,u69,u70,u71,u72,u73],defers:=[] }
theorem SwJ0.mk {w1:World} {re0:List REdge} {A:Option Addr} {n c mb:Nat} {m:Int} {a':Act} {W:World} (ws:World) (re:List REdge) (i:Nat) (T:Int) (set:Value) (out:List RSp) (lo:RCut) {u9 u10 u11 u14 u15 u16 u17 u18 u19 u20 u21 u22 u23 u24 u25 u26 u27 u28 u29 u30 u31 u32 u33 u34 u35 u36 u37 u38 u39 u40 u41 u42 u43 u44 u45 u46 u47 u48 u49 u50 u51 u52 u53 u54 u55 u56 u57 u58 u59 u60 u61 u62 u63 u64 u65 u66 u67 u68 u69 u70 u71 u72 u73:Value} (h1:SwFix w1 re0 A n mb m ws re) (h2:SwAt w1 ws n i T set out lo W)
  (h3:sweepL m (re.map REdge.edge)=out.map RSp.sp ++ nextL m T lo.cut ((re.drop i).map REdge.edge)) (h4:a'={ tmps:=#[.slice A n c,.func (.func 198) #[] #[.pointer (some ⟨mb,0,none⟩)],undef,undef,.slice none 0 0,set,.pointer (some ⟨ws.heap.size,0,none⟩),.int .i64 i,.int .i64 T,u9,u10,u11,.slice A n c,.tuple #[],u14,u15,u16,u17,u18,u19,u20,u21,u22,u23,u24,u25,u26,u27,u28,u29,u30,u31,u32,u33,u34,u35,u36,u37,u38,u39,u40,u41,u42,u43,u44,u45,u46,u47,u48,u49,u50,u51,u52,u53,u54,u55,u56,u57,u58,u59,u60,u61,u62,u63,u64,u65,u66,u67,u68,u69,u70,u71,u72,u73],defers:=[] }):SwJ0 w1 re0 A n c mb m a' W :=
 ⟨ws,re,i,T,set,out,lo,u9,u10,u11,u14,u15,u16,u17,u18,u19,u20,u21,u22,u23,u24,u25,u26,u27,u28,u29,u30,u31,u32,u33,u34,u35,u36,u37,u38,u39,u40,u41,u42,u43,u44,u45,u46,u47,u48,u49,u50,u51,u52,u53,u54,u55,u56,u57,u58,u59,u60,u61,u62,u63,u64,u65,u66,u67,u68,u69,u70,u71,u72,u73,h1,h2,h3,h4⟩
theorem SwJ0.out {w1:World} {re0:List REdge} {A:Option Addr} {n c mb:Nat} {m:Int} {C:Act→World→Prop} (h:∀ (W:World) (ws:World) (re:List REdge) (i:Nat) (T:Int) (set:Value) (out:List RSp) (lo:RCut) (u9 u10 u11 u14 u15 u16 u17 u18 u19 u20 u21 u22 u23 u24 u25 u26 u27 u28 u29 u30 u31 u32 u33 u34 u35 u36 u37 u38 u39 u40 u41 u42 u43 u44 u45 u46 u47 u48 u49 u50 u51 u52 u53 u54 u55 u56 u57 u58 u59 u60 u61 u62 u63 u64 u65 u66 u67 u68 u69 u70 u71 u72 u73:Value),SwFix w1 re0 A n mb m ws re→SwAt w1 ws n i T set out lo W →
  sweepL m (re.map REdge.edge)=out.map RSp.sp ++ nextL m T lo.cut ((re.drop i).map REdge.edge)→C { tmps:=#[.slice A n c,.func (.func 198) #[] #[.pointer (some ⟨mb,0,none⟩)],undef,undef,.slice none 0 0,set,.pointer (some ⟨ws.heap.size,0,none⟩),.int .i64 i,.int .i64 T,u9,u10,u11,.slice A n c,.tuple #[],u14,u15,u16,u17,u18,u19,u20,u21,u22,u23,u24,u25,u26,u27,u28,u29,u30,u31,u32,u33,u34,u35,u36,u37,u38,u39,u40,u41,u42,u43,u44,u45,u46,u47,u48,u49,u50,u51,u52,u53,u54,u55,u56,u57,u58,u59,u60,u61,u62,u63,u64,u65,u66,u67,u68,u69,u70,u71,u72,u73],defers:=[] } W):∀ a' W,SwJ0 w1 re0 A n c mb m a' W→C a' W:=by
 rintro a' W ⟨ws,re,i,T,set,out,lo,u9,u10,u11,u14,u15,u16,u17,u18,u19,u20,u21,u22,u23,u24,u25,u26,u27,u28,u29,u30,u31,u32,u33,u34,u35,u36,u37,u38,u39,u40,u41,u42,u43,u44,u45,u46,u47,u48,u49,u50,u51,u52,u53,u54,u55,u56,u57,u58,u59,u60,u61,u62,u63,u64,u65,u66,u67,u68,u69,u70,u71,u72,u73,h1,h2,h3,rfl⟩
 exact h W ws re i T set out lo u9 u10 u11 u14 u15 u16 u17 u18 u19 u20 u21 u22 u23 u24 u25 u26 u27 u28 u29 u30 u31 u32 u33 u34 u35 u36 u37 u38 u39 u40 u41 u42 u43 u44 u45 u46 u47 u48 u49 u50 u51 u52 u53 u54 u55 u56 u57 u58 u59 u60 u61 u62 u63 u64 u65 u66 u67 u68 u69 u70 u71 u72 u73 h1 h2 h3
theorem SwJ1.mk {w1:World} {re0:List REdge} {A:Option Addr} {n c mb:Nat} {m:Int} {a':Act} {W:World} (ws:World) (re:List REdge) (i:Nat) (T:Int) (set:Value) (out:List RSp) (lo:RCut) (bc:Nat) (cu:RCut) (was:Bool) {u11 u14 u15 u16 u17 u18 u19 u20 u21 u22 u23 u24 u25 u26 u27 u28 u29 u30 u31 u32 u33 u34 u35 u36 u37 u38 u39 u40 u41 u42 u43 u44 u45 u46 u47 u48 u49 u50 u51 u52 u53 u54 u55 u56 u57 u58 u59 u60 u61 u62 u63 u64 u65 u66 u67 u68 u69 u70 u71 u72 u73:Value} (h1:SwFix w1 re0 A n mb m ws re) (h2:SwAt w1 ws n i T set out lo W) (h5:i<n)
  (h6:At6B W bc cu.kind cu.v.a cu.v.b cu.v.c (.slice cu.A cu.v.pre.length cu.c) (.slice cu.B cu.v.build.length cu.d)) (h9:Tag W bc) (h7:Lies w1 cu) (h8:right cu.cut=true) (h3:sweepL m (re.map REdge.edge)=out.map RSp.sp ++ go m cu.cut was T lo.cut ((re.drop i).map REdge.edge)) (h4:a'={ tmps:=#[.slice A n c,.func (.func 198) #[] #[.pointer (some ⟨mb,0,none⟩)],undef,undef,.slice none 0 0,set,.pointer (some ⟨ws.heap.size,0,none⟩),.int .i64 i,.int .i64 T,.pointer (some ⟨bc,0,none⟩),.bool was,u11,.slice A n c,.tuple #[],u14,u15,u16,u17,u18,u19,u20,u21,u22,u23,u24,u25,u26,u27,u28,u29,u30,u31,u32,u33,u34,u35,u36,u37,u38,u39,u40,u41,u42,u43,u44,u45,u46,u47,u48,u49,u50,u51,u52,u53,u54,u55,u56,u57,u58,u59,u60,u61,u62,u63,u64,u65,u66,u67,u68,u69,u70,u71,u72,u73],defers:=[] }):SwJ1 w1 re0 A n c mb m a' W :=
 ⟨ws,re,i,T,set,out,lo,bc,cu,was,u11,u14,u15,u16,u17,u18,u19,u20,u21,u22,u23,u24,u25,u26,u27,u28,u29,u30,u31,u32,u33,u34,u35,u36,u37,u38,u39,u40,u41,u42,u43,u44,u45,u46,u47,u48,u49,u50,u51,u52,u53,u54,u55,u56,u57,u58,u59,u60,u61,u62,u63,u64,u65,u66,u67,u68,u69,u70,u71,u72,u73,h1,h2,h5,h6,h9,h7,h8,h3,h4⟩
theorem SwJ1.out {w1:World} {re0:List REdge} {A:Option Addr} {n c mb:Nat} {m:Int} {C:Act→World→Prop} (h:∀ (W:World) (ws:World) (re:List REdge) (i:Nat) (T:Int) (set:Value) (out:List RSp) (lo:RCut) (bc:Nat) (cu:RCut) (was:Bool) (u11 u14 u15 u16 u17 u18 u19 u20 u21 u22 u23 u24 u25 u26 u27 u28 u29 u30 u31 u32 u33 u34 u35 u36 u37 u38 u39 u40 u41 u42 u43 u44 u45 u46 u47 u48 u49 u50 u51 u52 u53 u54 u55 u56 u57 u58 u59 u60 u61 u62 u63 u64 u65 u66 u67 u68 u69 u70 u71 u72 u73:Value),SwFix w1 re0 A n mb m ws re→SwAt w1 ws n i T set out lo W→i<n →
  At6B W bc cu.kind cu.v.a cu.v.b cu.v.c (.slice cu.A cu.v.pre.length cu.c) (.slice cu.B cu.v.build.length cu.d)→Tag W bc→Lies w1 cu→right cu.cut=true→sweepL m (re.map REdge.edge)=out.map RSp.sp ++ go m cu.cut was T lo.cut ((re.drop i).map REdge.edge)→C { tmps:=#[.slice A n c,.func (.func 198) #[] #[.pointer (some ⟨mb,0,none⟩)],undef,undef,.slice none 0 0,set,.pointer (some ⟨ws.heap.size,0,none⟩),.int .i64 i,.int .i64 T,.pointer (some ⟨bc,0,none⟩),.bool was,u11,.slice A n c,.tuple #[],u14,u15,u16,u17,u18,u19,u20,u21,u22,u23,u24,u25,u26,u27,u28,u29,u30,u31,u32,u33,u34,u35,u36,u37,u38,u39,u40,u41,u42,u43,u44,u45,u46,u47,u48,u49,u50,u51,u52,u53,u54,u55,u56,u57,u58,u59,u60,u61,u62,u63,u64,u65,u66,u67,u68,u69,u70,u71,u72,u73],defers:=[] } W):∀ a' W,SwJ1 w1 re0 A n c mb m a' W→C a' W:=by
 rintro a' W ⟨ws,re,i,T,set,out,lo,bc,cu,was,u11,u14,u15,u16,u17,u18,u19,u20,u21,u22,u23,u24,u25,u26,u27,u28,u29,u30,u31,u32,u33,u34,u35,u36,u37,u38,u39,u40,u41,u42,u43,u44,u45,u46,u47,u48,u49,u50,u51,u52,u53,u54,u55,u56,u57,u58,u59,u60,u61,u62,u63,u64,u65,u66,u67,u68,u69,u70,u71,u72,u73,h1,h2,h5,h6,h9,h7,h8,h3,rfl⟩
 exact h W ws re i T set out lo bc cu was u11 u14 u15 u16 u17 u18 u19 u20 u21 u22 u23 u24 u25 u26 u27 u28 u29 u30 u31 u32 u33 u34 u35 u36 u37 u38 u39 u40 u41 u42 u43 u44 u45 u46 u47 u48 u49 u50 u51 u52 u53 u54 u55 u56 u57 u58 u59 u60 u61 u62 u63 u64 u65 u66 u67 u68 u69 u70 u71 u72 u73 h1 h2 h5 h6 h9 h7 h8 h3
def SwM0 (n:Nat) (a':Act) (_:World):Nat:=2 * (n - (intOf (a'.tmps.getD 7 undef)).toNat)+1
def SwM1 (n:Nat) (a':Act) (_:World):Nat:=2 * (n - (intOf (a'.tmps.getD 7 undef)).toNat)
def SweepPost (w1:World) (m:Int) (re0:List REdge) (e:Ending) (w':World):Prop :=
 ∃ (B:Nat) (set:Value) (out:List RSp) (re:List REdge),e=.returned set∧re.Perm re0∧(re.Pairwise fun x y=>stand x.cut.cut y.cut.cut≤0)∧out.map RSp.sp=sweepL m (re.map REdge.edge)∧w1.heap.size≤B∧w'.ownsRow B 164 12 set out.length (out.flatMap RSp.vals) ∧
  (∀ s ∈ out,OwnC w' B s.lo∧OwnC w' B s.hi)∧out.length≤re0.length∧Below w1.heap.size w1 w'
theorem drop_ed (re:List REdge) (k:Nat) (h:k<re.length):(re.drop k).map REdge.edge=(re.getD k default).edge :: (re.drop (k+1)).map REdge.edge:=by
 rw [List.drop_eq_getElem_cons h,List.map_cons]; simp only [List.getD,List.getElem?_eq_getElem h,Option.getD_some]
theorem getE_mem {l:List REdge} {k:Nat} (h:k<l.length):l.getD k default ∈ l:=by simp [List.getD,List.getElem?_eq_getElem h]
theorem ed_cells {w:World} {g n:Nat} {l:List REdge} (h:∀ j,j<n→∀ i u,(l.getD j default).vals[i]?=some u→w.cell? ⟨g,0+j * 7+i,none⟩=some u) {k:Nat} (hk:k<n) :
  w.cell? ⟨g,k * 7,none⟩=some (.int .i64 (l.getD k default).cut.kind)∧w.cell? ⟨g,k * 7+1,none⟩=some (.int .u64 ((l.getD k default).cut.v.a))∧w.cell? ⟨g,k * 7+2,none⟩=some (.int .u64 ((l.getD k default).cut.v.b))∧w.cell? ⟨g,k * 7+3,none⟩=some (.int .u64 ((l.getD k default).cut.v.c))∧w.cell? ⟨g,k * 7+4,none⟩=some (.slice (l.getD k default).cut.A (l.getD k default).cut.v.pre.length (l.getD k default).cut.c)∧w.cell? ⟨g,k * 7+5,none⟩=some (.slice (l.getD k default).cut.B (l.getD k default).cut.v.build.length (l.getD k default).cut.d)∧w.cell? ⟨g,k * 7+6,none⟩=some (.int .i64 (l.getD k default).step):=by
 have h':=fun i u hu=>h k hk i u hu
 simp only [Nat.zero_add] at h'
 exact ⟨h' 0 _ rfl,h' 1 _ rfl,h' 2 _ rfl,h' 3 _ rfl,h' 4 _ rfl,h' 5 _ rfl,h' 6 _ rfl⟩

end Go.Proofs.YtneilnibghhgmaaGreatDoor.Span
namespace Go.Proofs.YtneilnibghhgmaaGreatDoor.Range
open Go.RowKit Num Ident Semver
theorem srow_none (w:World) (A:Option Addr):SRow w A 0 []:=⟨rfl,fun h=>absurd h (Nat.lt_irrefl _)⟩
theorem wtL_len:∀ l:List Rng,l.length≤wtL l
 | []=>Nat.le_refl _
 | r :: l=>by rw [wtL_cons,wt_eq,List.length_cons]; have:=wtL_len l; omega
theorem wt_mem {x:Rng}:∀ {l:List Rng},x ∈ l→wt x≤wtL l
 | [],h=>by cases h
 | y :: l,h=>by
  rw [wtL_cons]
  rcases List.mem_cons.1 h with rfl | h
  ·omega
  ·have:=wt_mem h; omega
theorem right_at {w:World} {S:Nat→Prop} {r:Rng} {x:RV} {d:Nat} (hx:Lies w S r x) (hg:goodR r d=true):d≤64∧goodL r.kind r.subs d=true∧r.subs.length=x.n∧r.kind=x.kind ∧
  ((1≤x.kind∧x.kind≤8∧goodV x.v=true∧x.n=0)∨(x.v=noVer∧((x.kind=0∧x.n=0)∨((x.kind=9∨x.kind=10)∧2≤x.n)∨(x.kind=11∧x.n=1)))):=by
 have hs:=hx.says
 obtain ⟨f,hl,_,_⟩:=hs.subs
 have hk:=hs.kind
 have hv:=hs.ver
 obtain ⟨kind,v,l⟩:=r
 obtain ⟨h1,h2,h3⟩:=good_cases hg
 simp only [Rng.kind,Rng.ver,Rng.subs] at hl hk hv ⊢
 subst hk; subst hv
 refine ⟨h1,h2,hl,rfl,?_⟩
 rcases h3 with ⟨a,b,c,rfl⟩ | ⟨a,⟨b,rfl⟩ | ⟨b,c⟩ | ⟨b,y,rfl⟩⟩
 ·exact .inl ⟨a,b,c,hl.symm⟩
 ·exact .inr ⟨a,.inl ⟨b,hl.symm⟩⟩
 ·exact .inr ⟨a,.inr (.inl ⟨b,hl ▸ c⟩)⟩
 ·exact .inr ⟨a,.inr (.inr ⟨b,hl.symm⟩)⟩
end Go.Proofs.YtneilnibghhgmaaGreatDoor.Range
namespace Go.Proofs.YtneilnibghhgmaaGreatDoor.KR
open Go.RowKit Num
open Range (KeepS LtB InS)

def KRow {α:Type} [Inhabited α] (vals:α→List Value) (k:Nat) (w:World) (S:Nat→Prop) (A:Option Addr) (n:Nat) (l:List α):Prop :=
 l.length=n∧(0<n→∃ b o,A=some ⟨b,o,none⟩∧S b∧b<w.heap.size∧∀ j,j<n→∀ i u,(vals (l.getD j default))[i]?=some u→w.cell? ⟨b,o+j * k+i,none⟩=some u)
section
variable {α:Type} [Inhabited α] {vals:α→List Value} {k:Nat} {w w':World} {S:Nat→Prop} {A:Option Addr} {n:Nat} {l:List α}
theorem KRow.none_ (w:World) (S:Nat→Prop) (A:Option Addr):KRow vals k w S A 0 []:=⟨rfl,fun h=>absurd h (Nat.lt_irrefl _)⟩
theorem KRow.keep (h:KRow vals k w S A n l) (q:KeepS S w w'):KRow vals k w' S A n l:=by
 refine ⟨h.1,fun h0=>?_⟩
 obtain ⟨b,o,e,hb,hlt,hc⟩:=h.2 h0
 exact ⟨b,o,e,hb,Nat.lt_of_lt_of_le hlt q.size,fun j hj i u hu=>q.cell _ _ _ hb (hc j hj i u hu)⟩
theorem KRow.mono {S':Nat→Prop} (h:KRow vals k w S A n l) (hS:∀ b,S b→b<w.heap.size→S' b):KRow vals k w S' A n l:=by
 refine ⟨h.1,fun h0=>?_⟩
 obtain ⟨b,o,e,hb,hlt,hc⟩:=h.2 h0
 exact ⟨b,o,e,hS b hb hlt,hlt,hc⟩
theorem KRow.nil (h:KRow vals k w S none n l):n=0∧l=[]:=by
 rcases Nat.eq_zero_or_pos n with h0 | h0
 ·exact ⟨h0,List.eq_nil_of_length_eq_zero (by rw [h.1]; exact h0)⟩
 ·obtain ⟨b,o,e,_⟩:=h.2 h0
  cases e
theorem KRow.at_ (h:KRow vals k w S A n l) {j:Nat} (hj:j<n):∃ b o,A=some ⟨b,o,none⟩∧S b∧b<w.heap.size∧∀ i u,(vals (l.getD j default))[i]?=some u→w.cell? ⟨b,o+j * k+i,none⟩=some u:=by
 obtain ⟨b,o,e,hb,hlt,hc⟩:=h.2 (by omega)
 exact ⟨b,o,e,hb,hlt,hc j hj⟩
theorem KRow.mem (h:KRow vals k w S A n l) {j:Nat} (hj:j<n):l.getD j default ∈ l:=by
 rw [List.getD_eq_getElem?_getD,List.getElem?_eq_getElem (by rw [h.1]; exact hj)]; exact List.getElem_mem _
theorem KRow.news {ad:Addr} (hk:∀ x,(vals x).length=k) (hk0:0<k) (h:KRow vals k w S (some ad) n l):∀ j u,(l.flatMap vals)[j]?=some u→w.cell? (ad.add j)=some u:=by
 intro j u hu
 have hj:j<l.length * k:=by have:=(List.getElem?_eq_some_iff.1 hu).1; rwa [flat_len vals k hk] at this
 have hd:j / k<l.length:=Nat.div_lt_of_lt_mul (by rw [Nat.mul_comm]; exact hj)
 obtain ⟨b,o,e,_,_,hc⟩:=h.2 (Nat.lt_of_le_of_lt (Nat.zero_le _) (h.1 ▸ hd))
 injection e with e
 subst e
 have hs:j=(j / k) * k+j % k:=by rw [Nat.mul_comm]; exact (Nat.div_add_mod j k).symm
 rw [hs,flat_get vals k hk l (j / k) (j % k) hd (Nat.mod_lt _ hk0)] at hu
 have:=hc (j / k) (by rw [← h.1]; exact hd) (j % k) u hu
 rw [add_none]
 rw [Nat.add_assoc,← hs] at this
 exact this
theorem KRow.piece {A':Option Addr} (h:KRow vals k w S A n l) (p m:Nat) (hp:p+m≤n) (hA:0<m→∀ b o,A=some ⟨b,o,none⟩→A'=some ⟨b,o+p * k,none⟩):KRow vals k w S A' m ((l.drop p).take m):=by
 obtain ⟨hl,hc⟩:=h
 refine ⟨by rw [List.length_take,List.length_drop]; omega,fun h0=>?_⟩
 obtain ⟨b,o,e,hb,hlt,hcell⟩:=hc (by omega)
 refine ⟨b,o+p * k,hA h0 b o e,hb,hlt,fun j hj i u hu=>?_⟩
 have e1:((l.drop p).take m).getD j default=l.getD (p+j) default:=by simp [List.getD,hj]
 rw [e1] at hu
 have:=hcell (p+j) (by omega) i u hu
 rwa [Nat.add_mul,← Nat.add_assoc] at this
theorem KRow.of_own {base:Nat} {e:TypeId} {v:Value} (hk:∀ x,(vals x).length=k) (h:w.ownsRow base e k v n (l.flatMap vals)) (hl:l.length=n) (hS:∀ g,base≤g→g<w.heap.size→S g) :
  ∃ A c,v=.slice A n c∧n≤c∧(A=none→c=0)∧KRow vals k w S A n l:=by
 obtain ⟨A,c,h1,h2,h3,h4⟩:=own_cells hk h hl
 refine ⟨A,c,h1,h2,h3,hl,fun h0=>?_⟩
 obtain ⟨g,e1,hg,hlt,_,hc⟩:=h4 h0
 exact ⟨g,0,e1,hS g hg hlt,hlt,hc⟩
end
theorem run_append_k {α:Type} [Inhabited α] {vals:α→List Value} {k bytes:Nat} {T E:TypeId} {z:Value} (hT:Tryz.prog.underlying T=some (.slice E)) (hI:(Tryz.prog.info? E).map (fun i=>(i.zero,i.size,i.bytes))=some (some z,k,bytes)) (hz:z.cells.size=k) (hk:∀ x,(vals x).length=k) (hk0:0<k) (h1:∀ x,∀ u ∈ vals x,u.oneCell'=true)
  (w:World) (ty:TypeId) (base:Nat) (v:Value) (n:Nat) (l:List α) (hown:w.ownsRow base E k v n (l.flatMap vals)) {S:Nat→Prop} (A:Option Addr) (m c:Nat) (r:List α) (hr:KRow vals k w S A m r) (hnil:A=none→c=0) (hm:n+m≤maxLen) (hb:(n+m) * bytes≤140737488355328) (hbase:base≤w.heap.size) :
  ∃ v' w',(Builtin.append_ #[T,T] ty #[v,.slice A m c]).run Tryz.prog w=.ok v' w'∧w'.ownsRow base E k v' (n+m) ((l ++ r).flatMap vals)∧w.grownBy w' v.ownBlock:=by
 obtain ⟨i,hi,hzi,hs,hby⟩:=info_parts hI
 cases A with
 | none =>
  obtain rfl:=hnil rfl
  obtain ⟨rfl,rfl⟩:=hr.nil
  exact ⟨v,w,run_append_owned_none (P:=Tryz.prog) (w:=w) base T ty E i k hT hi v n _ hown,by simpa using hown,World.grownBy.refl w _⟩
 | some ad =>
  obtain ⟨v',w',h3,h4,h5,_⟩:=run_append_own (P:=Tryz.prog) w base T ty E i z k bytes hT hi hzi hs hby hz hk0 v n _ hown ad m c (r.flatMap vals)
   (by rw [flat_len _ k hk,hr.1]) (hr.news hk hk0) (flat_one _ h1 r) hm hb hbase
  exact ⟨v',w',h3,by rw [List.flatMap_append]; exact h4,h5⟩
theorem region_append {T:TypeId} {yl:Nat→Option Bool} {o:Oper} {a:Act} {w w':World} {K:Act→World→Prop} {Q:Exit→Act→World→Prop} {v v' y:Value} (hw:Region.wanted o yl=true) (s x:Operand)
  (ho:o.op=.call { callee:=.builtin .append,args:=#[s,x],argTypes:=#[T,T] }) (hs:a.eval s=v) (hx:a.eval x=y)
  (hrun:(Builtin.append_ #[T,T] o.type #[v,y]).run Tryz.prog w=.ok v' w') (h:K (a.put o.dst v') w'):if Region.wanted o yl=true then Oper.wp Tryz.prog o a w K Q else K (a.put o.dst undef) w:=by
 rw [if_pos hw]
 unfold Oper.wp execOp
 simp only [ho,resolve,invoke,builtin,Sem.run_bind,Sem.run_pure,Result.andThen_ok,List.map_toArray,List.map_cons,List.map_nil,hs,hx,hrun]
 exact h
structure AtV (W:World) (b:Nat) (L:List Value):Prop where
 lt:b<W.heap.size
 fr:∀ o,W.frozen? ⟨b,o,none⟩=false
 at_:∀ i u,L[i]?=some u→W.cell? ⟨b,i,none⟩=some u
theorem AtV.new (w:World) (t:TypeId) (L:List Value):AtV (w.alloc (.cells L.toArray t)) w.heap.size L :=
 ⟨by simp,fun o=>by simp [go_sem],fun i u hu=>by have:=news_new w L t i u hu; rwa [add_none,Nat.zero_add] at this⟩
theorem AtV.kept {W W':World} {b B:Nat} {L:List Value} (h:AtV W b L) (hb:Below B W W') (hB:b<B):AtV W' b L :=
 ⟨Nat.lt_of_lt_of_le h.lt hb.size,fun o=>(hb.frozen (p:=⟨b,o,none⟩) hB).trans (h.fr o),fun i u hu=>(hb.cell (p:=⟨b,i,none⟩) hB).trans (h.at_ i u hu)⟩
theorem list_of {α:Type} [Inhabited α] {P:Nat→α→Prop}:∀ (n:Nat),(∀ i,i<n→∃ x,P i x)→∃ l:List α,l.length=n∧∀ i,i<n→P i (l.getD i default)
 | 0,_=>⟨[],rfl,fun i hi=>by omega⟩
 | n+1,h=>by
  obtain ⟨l,hl,hp⟩:=list_of n fun i hi=>h i (by omega)
  obtain ⟨x,hx⟩:=h n (by omega)
  refine ⟨l ++ [x],by simp [hl],fun i hi=>?_⟩
  rcases Nat.lt_or_ge i n with h1 | h1
  ·have e:(l ++ [x]).getD i default=l.getD i default:=by simp [List.getD,List.getElem?_append_left (show i<l.length by omega)]
   rw [e]; exact hp i h1
  ·obtain rfl:i=n:=by omega
   have e:(l ++ [x]).getD i default=x:=by simp [List.getD,← hl]
   rw [e]; exact hx
theorem KRow.came {α:Type} [Inhabited α] {vals:α→List Value} {k:Nat} {H:Type} {enc:TypeId × Value→H} {W:World} {T E:TypeId} {P:α→Prop} (hu:Tryz.prog.underlying T=some (.slice E)) (hC:Tryz.prog.cellsOf E=k) (hk:∀ x,(vals x).length=k) (hk0:0<k)
  (hel:∀ (fuel:Nat) (cs:List Value) (y:DataW H × List MemPlace),DataW.trod enc Tryz.prog W 0 (fun _=>true) true fuel E cs=some y→Came.Sized E y.1→∃ x,cs=vals x∧P x)
  {fuel:Nat} {cs:List Value} {y:DataW H × List MemPlace} (hf:DataW.trod enc Tryz.prog W 0 (fun _=>true) true fuel T cs=some y) (hs:Came.Sized T y.1) :
  ∃ (A:Option Addr) (len cap:Nat) (l:List α),cs=[.slice A len cap]∧KRow vals k W (LtB W.heap.size) A len l∧(∀ x ∈ l,P x)∧len≤cap∧cap≤maxLen∧(A=none→cap=0):=by
 rcases DataW.trod_slice hu hf with ⟨hz,_⟩ | ⟨a,len,cap,elems,rest,n2,_,hz,hy,_,hlc,hcm,hle,hi,_,_⟩
 ·exact ⟨none,0,0,[],hz,KRow.none_ _ _ _,fun x hx=>(List.not_mem_nil hx).elim,Nat.le_refl _,by unfold maxLen; omega,fun _=>rfl⟩
 ·rw [hC] at hi
  obtain ⟨ps,hpl,hp⟩:=list_of (α:=α) (P:=fun i (p:α)=>P p∧∀ j u,(vals p)[j]?=some u→W.cell? ((a.add (i * k)).add j)=some u) len fun i hi'=>by
   have h0:=hi i hi'
   rw [List.getElem?_eq_getElem (show i<elems.length by omega),Option.bind_eq_some_iff] at h0
   obtain ⟨cs,hc,ht⟩:=h0
   obtain ⟨_,hcl,hat⟩:=World.cells?_some hc
   obtain ⟨x,e,ho⟩:=hel n2 cs _ ht (by rw [hy] at hs; exact hs.elem hu (i:=i) (List.getElem?_eq_getElem (show i<elems.length by omega)))
   refine ⟨x,ho,fun j u hu=>?_⟩
   have hj:j<k:=by have:=(List.getElem?_eq_some_iff.1 hu).1; rwa [hk] at this
   rw [hat j hj,e]; exact hu
  refine ⟨some a,len,cap,ps,hz,⟨hpl,fun h0=>?_⟩,fun x hx=>?_,hlc,hcm,fun e=>by cases e⟩
  ·obtain ⟨b,o,spot⟩:=a
   obtain ⟨u,hu⟩:∃ u,(vals (ps.getD 0 default))[0]?=some u:=⟨(vals (ps.getD 0 default))[0]'(by rw [hk]; exact hk0),List.getElem?_eq_getElem _⟩
   have h0c:=(hp 0 h0).2 0 u hu
   have hspot:spot=none:=by simpa [Addr.add] using World.cell?_spot h0c
   subst hspot
   have hblk:=World.block_lt_of_cell? W _ h0c
   rw [Num.add_none,Num.add_none] at hblk
   refine ⟨b,o,rfl,hblk,hblk,fun j hj i u hu=>?_⟩
   have e:=(hp j hj).2 i u hu
   rwa [Num.add_none,Num.add_none] at e
  ·obtain ⟨j,hj,rfl⟩:=List.getElem_of_mem hx
   have:=(hp j (by omega)).1
   simpa [List.getD,List.getElem?_eq_getElem hj] using this
end Go.Proofs.YtneilnibghhgmaaGreatDoor.KR
