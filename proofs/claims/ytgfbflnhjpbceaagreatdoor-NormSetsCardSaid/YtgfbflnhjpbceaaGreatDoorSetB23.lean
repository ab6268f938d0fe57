/-
  What the theorem of the last text needs of these: SpRefIns. Conditions: as each theorem states.
-/
import Derived.Test.YtgfbflnhjpbceaaGreatDoorSetB1
import Derived.Test.YtgfbflnhjpbceaaGreatDoorSetB15
import Derived.Test.YtgfbflnhjpbceaaGreatDoorSetB16
import Derived.Test.YtgfbflnhjpbceaaGreatDoorSetB21
import Derived.StillTailTactics
import Derived.Deep.CutBlock
import Derived.Deep.DeepCutAuto
import Derived.Deep.RegionHeld3
set_option maxRecDepth 100000
set_option maxHeartbeats 25600000
namespace Go.Proofs.YtgfbflnhjpbceaaGreatDoor.Span
open Go.RowKit Num Ident Semver Prec

def CuSrc (W:World) (b o:Nat) (L:List RCut):Prop:=b<W.heap.size∧∀ j u,(L.flatMap RCut.vals)[j]?=some u→W.cell? ⟨b,o+j,none⟩=some u
theorem CuSrc.kept {W W':World} {b o:Nat} {L:List RCut} (h:CuSrc W b o L) (hb:Below W.heap.size W W'):CuSrc W' b o L :=
 ⟨Nat.lt_of_lt_of_le h.1 hb.size,fun j u hu=>(hb.cell (p:=⟨b,o+j,none⟩) h.1).trans (h.2 j u hu)⟩
theorem CuSrc.keptB {W W':World} {b o B:Nat} {L:List RCut} (h:CuSrc W b o L) (hlt:b<B) (hb:Below B W W'):CuSrc W' b o L :=
 ⟨Nat.lt_of_lt_of_le h.1 hb.size,fun j u hu=>(hb.cell (p:=⟨b,o+j,none⟩) hlt).trans (h.2 j u hu)⟩
theorem CuSrc.at {W:World} {b o:Nat} {L:List RCut} (h:CuSrc W b o L) {m:Nat} (hm:m<L.length):W.cell? ⟨b,o+m * 6,none⟩=some (.int .i64 (L.getD m default).kind)∧W.cell? ⟨b,o+m * 6+1,none⟩=some (.int .u64 ((L.getD m default).v.a))∧W.cell? ⟨b,o+m * 6+2,none⟩=some (.int .u64 ((L.getD m default).v.b))∧W.cell? ⟨b,o+m * 6+3,none⟩=some (.int .u64 ((L.getD m default).v.c))∧W.cell? ⟨b,o+m * 6+4,none⟩=some (.slice (L.getD m default).A (L.getD m default).v.pre.length (L.getD m default).c)∧W.cell? ⟨b,o+m * 6+5,none⟩=some (.slice (L.getD m default).B (L.getD m default).v.build.length (L.getD m default).d):=by
 have k:∀ i u,i<6→(L.getD m default).vals[i]?=some u→W.cell? ⟨b,o+m * 6+i,none⟩=some u:=fun i u hi hu=>by
  have:=h.2 (m * 6+i) u (by rw [flat_get RCut.vals 6 vals_len L m i hm hi]; exact hu)
  rwa [← Nat.add_assoc] at this
 exact ⟨k 0 _ (by omega) rfl,k 1 _ (by omega) rfl,k 2 _ (by omega) rfl,k 3 _ (by omega) rfl,k 4 _ (by omega) rfl,k 5 _ (by omega) rfl⟩
theorem CuSrc.take {W:World} {b o:Nat} {L:List RCut} (h:CuSrc W b o L) (m:Nat):∀ j u,((L.take m).flatMap RCut.vals)[j]?=some u→W.cell? ((⟨b,o,none⟩:Addr).add j)=some u:=fun j u hu=>by
 rw [add_none]
 refine h.2 j u ?_
 rw [← List.take_append_drop m L,List.flatMap_append,List.getElem?_append_left (List.getElem?_eq_some_iff.1 hu).1]; exact hu
theorem CuSrc.drop {W:World} {b o:Nat} {L:List RCut} (h:CuSrc W b o L) {m:Nat} (hm:m≤L.length):∀ j u,((L.drop m).flatMap RCut.vals)[j]?=some u→W.cell? ((⟨b,o+m * 6,none⟩:Addr).add j)=some u:=fun j u hu=>by
 rw [add_none,Nat.add_assoc]
 refine h.2 (m * 6+j) u ?_
 have e:((L.take m).flatMap RCut.vals).length=m * 6:=by rw [flat_len RCut.vals 6 vals_len,List.length_take,Nat.min_eq_left hm]
 rw [← List.take_append_drop m L,List.flatMap_append,List.getElem?_append_right (by rw [e]; omega),e,Nat.add_sub_cancel_left]; exact hu
structure CutsAt (w wl:World) (b o cp:Nat) (L:List RCut) (W:World):Prop where
 src:CuSrc W b o L
 lies:∀ r ∈ L,Lies w r
 rise:Rise (L.map RCut.cut)
 cap:L.length≤cp
 capm:cp≤maxLen
 bel:Below wl.heap.size wl W
theorem CutsAt.kept {w wl:World} {b o cp:Nat} {L:List RCut} {W W':World} (h:CutsAt w wl b o cp L W) (hb:Below W.heap.size W W'):CutsAt w wl b o cp L W' :=
 ⟨h.src.kept hb,h.lies,h.rise,h.cap,h.capm,h.bel.trans (hb.mono h.bel.size)⟩
def Two (M:List Cut) (s:Sp) (q:Nat):Prop:=(1≤q→right s.lo=true→Hits M s.lo)∧(2≤q→right s.hi=true→Hits M s.hi)
theorem HitsAll.more {L M:List Cut} {l:List Sp} (h:HitsAll L l) (hm:∀ x ∈ L,x ∈ M):HitsAll M l:=fun s hs=>⟨fun g=>((h s hs).1 g).more hm,fun g=>((h s hs).2 g).more hm⟩
theorem HitsAll.nil (L:List Cut):HitsAll L []:=fun s hs=>by cases hs
theorem HitsAll.snoc {L:List Cut} {l:List Sp} {s:Sp} (h:HitsAll L l) (h2:Two L s 2):HitsAll L (l ++ [s]):=fun t ht=>by
 rcases List.mem_append.1 ht with ht | ht
 ·exact h t ht
 ·rw [List.mem_singleton] at ht; subst ht; exact ⟨h2.1 (by omega),h2.2 (by omega)⟩
theorem cut_at_map (L:List RCut) (m:Nat):cutAt (L.map RCut.cut) m=(L.getD m default).cut:=by
 unfold cutAt
 by_cases h:m<L.length
 ·simp [List.getD,List.getElem?_eq_getElem h]
 ·simp [List.getD,List.getElem?_eq_none (Nat.le_of_not_lt h)]; rfl
theorem getC_mem {l:List RCut} {k:Nat} (h:k<l.length):l.getD k default ∈ l:=by simp [List.getD,List.getElem?_eq_getElem h]
theorem ins_map (L:List RCut) (c:RCut) (m:Nat):(L.take m ++ c :: L.drop m).map RCut.cut=(L.map RCut.cut).take m ++ c.cut :: (L.map RCut.cut).drop m:=by
 rw [List.map_append,List.map_cons,List.map_take,List.map_drop]
theorem take_all (l:List RSp) (k:Nat) (h:k<l.length):(l.take (k+1)).map RSp.sp=(l.take k).map RSp.sp ++ [(l.getD k default).sp]:=by
 rw [List.take_add_one,List.map_append,List.getElem?_eq_getElem h]; simp [List.getD,List.getElem?_eq_getElem h]
def CutsJ1 (w wl:World) (N:Nat) (all:List RSp) (v i:Value) (W:World):Prop:=∃ (k b o cp:Nat) (L:List RCut),k≤N∧i=.int .i64 k∧v=.slice (some ⟨b,o,none⟩) L.length cp∧CutsAt w wl b o cp L W∧HitsAll (L.map RCut.cut) ((all.take k).map RSp.sp)∧L.length≤2+2 * k
def CutsJ2 (w wl:World) (all:List RSp) (k:Nat) (v i:Value) (W:World):Prop:=∃ (q b o cp:Nat) (L:List RCut),q≤2∧i=.int .i64 q∧v=.slice (some ⟨b,o,none⟩) L.length cp∧CutsAt w wl b o cp L W∧HitsAll (L.map RCut.cut) ((all.take k).map RSp.sp)∧Two (L.map RCut.cut) (all.getD k default).sp q∧L.length≤2+2 * k+q
def CutsPost (w:World) (a b:List RSp) (e:Ending) (w':World):Prop :=
 ∃ (g o cp:Nat) (L:List RCut),e=.returned (.slice (some ⟨g,o,none⟩) L.length cp)∧CuSrc w' g o L∧(∀ r ∈ L,Lies w r)∧Rise (L.map RCut.cut)∧HitsAll (L.map RCut.cut) (a.map RSp.sp)∧HitsAll (L.map RCut.cut) (b.map RSp.sp)∧L.length≤2+2 * (a.length+b.length)∧Below w.heap.size w w'
structure SpSrc (w:World) (A:Option Addr) (n c:Nat) (l:List RSp):Prop where
 row:SpRow w A n l
 nil:A=none→c=0
theorem run_append_sps (w:World) (ty:TypeId) (base:Nat) (v:Value) (n:Nat) (l:List RSp) (hown:w.ownsRow base 43 12 v n (l.flatMap RSp.vals)) (A:Option Addr) (m c:Nat) (r:List RSp) (hr:SpSrc w A m c r) (hb:(n+m) * 160≤140737488355328) (hbase:base≤w.heap.size) :
  ∃ v' w',(Builtin.append_ #[31,31] ty #[v,.slice A m c]).run Tryz.prog w=.ok v' w'∧w'.ownsRow base 43 12 v' (n+m) ((l ++ r).flatMap RSp.vals)∧w.grownBy w' v.ownBlock:=by
 obtain ⟨i,hi,hz,hs,hby⟩:=info_parts spInfo
 cases A with
 | none =>
  obtain rfl:=hr.nil rfl
  have h0:m=0:=by
   rcases Nat.eq_zero_or_pos m with h | h
   ·exact h
   ·obtain ⟨b,o,e,_⟩:=hr.row.2.2 h; cases e
  subst h0
  obtain rfl:r=[]:=List.eq_nil_of_length_eq_zero hr.row.1
  exact ⟨v,w,run_append_owned_none (P:=Tryz.prog) (w:=w) base 31 ty 43 i 12 Tryz.underlying31 hi v n _ hown,by simpa using hown,World.grownBy.refl w _⟩
 | some ad =>
  refine run_append_sp w ty base v n l hown ad m c r hr.row.1 (fun j u hu=>?_) hb hbase
  have hj:j<r.length * 12:=by have:=(List.getElem?_eq_some_iff.1 hu).1; rwa [flat_len RSp.vals 12 svals_len] at this
  obtain ⟨b,o,e,_,hc⟩:=hr.row.2.2 (by rw [← hr.row.1]; omega)
  injection e with e
  subst e
  have hd:j=(j / 12) * 12+j % 12:=by omega
  rw [hd,flat_get RSp.vals 12 svals_len r (j / 12) (j % 12) (by omega) (by omega)] at hu
  have:=hc (j / 12) (by rw [← hr.row.1]; omega) (j % 12) u hu
  rw [add_none]
  rw [Nat.add_assoc,← hd] at this
  exact this
theorem wpList_append_sps (w:World) {ops:Array Oper} {rest:List Oper} {o:Oper} {a:Act} {Q:Exit→Act→World→Prop} (hgd:o.guard=none) (s x:Operand)
  (ho:o.op=.call { callee:=.builtin .append,args:=#[s,x],argTypes:=#[31,31] })
  (base:Nat) (v:Value) (n:Nat) (l:List RSp) (hs:a.eval s=v) (hown:w.ownsRow base 43 12 v n (l.flatMap RSp.vals)) (A:Option Addr) (m c:Nat) (r:List RSp) (hx:a.eval x=.slice A m c) (hr:SpSrc w A m c r) (hb:(n+m) * 160≤140737488355328) (hbase:base≤w.heap.size)
  (h:∀ v' w',w'.ownsRow base 43 12 v' (n+m) ((l ++ r).flatMap RSp.vals)→Below base w w'→wpList Tryz.prog ops Q rest (a.put o.dst v') w'):wpList Tryz.prog ops Q (o :: rest) a w:=by
 refine wpList_plain hgd fun K hK=>?_
 obtain ⟨v',w',hrun,h2,h3⟩:=run_append_sps w o.type base v n l hown A m c r hr hb hbase
 unfold Oper.wp execOp
 simp only [ho,resolve,invoke,builtin,Sem.run_bind,Sem.run_pure,Result.andThen_ok,List.map_toArray,List.map_cons,List.map_nil,hs,hx,hrun]
 exact hK _ _ (h v' w' h2 ((Below.refl base w).grown h3 hbase fun k hk=>(hown.lt k hk).1))
theorem run_append_cu (w:World) (ty:TypeId) (base:Nat) (v:Value) (n:Nat) (l:List RCut) (hown:w.ownsRow base 41 6 v n (l.flatMap RCut.vals)) (ad:Addr) (m c:Nat) (r:List RCut) (hr:r.length=m) (hnews:∀ j u,(r.flatMap RCut.vals)[j]?=some u→w.cell? (ad.add j)=some u) (hb:(n+m) * 80≤140737488355328) (hbase:base≤w.heap.size) :
  ∃ v' w',(Builtin.append_ #[94,94] ty #[v,.slice (some ad) m c]).run Tryz.prog w=.ok v' w'∧w'.ownsRow base 41 6 v' (n+m) ((l ++ r).flatMap RCut.vals)∧w.grownBy w' v.ownBlock:=by
 obtain ⟨i,hi,hz,hs,hby⟩:=info_parts cuInfo
 obtain ⟨v',w',h3,h4,h5,_⟩:=run_append_own (P:=Tryz.prog) w base 94 ty 41 i _ 6 80 Tryz.underlying94 hi hz hs hby rfl (by omega) v n _ hown ad m c (r.flatMap RCut.vals)
  (by rw [flat_len _ 6 vals_len,hr]) hnews (flat_one _ vals_one r) (by unfold maxLen; omega) hb hbase
 exact ⟨v',w',h3,by rw [List.flatMap_append]; exact h4,h5⟩
theorem CuSrc.grown {w w':World} {row:Option Nat} {b o:Nat} {L:List RCut} (h:CuSrc w b o L) (hg:w.grownBy w' row) (hne:some b≠row):CuSrc w' b o L :=
 ⟨Nat.lt_of_lt_of_le h.1 hg.size,fun j u hu=>(World.cell?_of_block (w:=w) (a:=⟨b,o+j,none⟩) (hg.block b h.1 hne)).trans (h.2 j u hu)⟩
theorem CuSrc.dropAd {W:World} {b o:Nat} {L:List RCut} (h:CuSrc W b o L) {m cp:Nat} {ad:Addr} (hm:m≤L.length) (hc:L.length≤cp) (had:(if cp=m then (⟨b,o,none⟩:Addr) else ⟨b,o+m * 6,none⟩)=ad):∀ j u,((L.drop m).flatMap RCut.vals)[j]?=some u→W.cell? (ad.add j)=some u:=by
 intro j u hu
 by_cases hcm:cp=m
 ·rw [List.drop_eq_nil_of_le (by omega)] at hu; simp at hu
 ·rw [if_neg hcm] at had; subst had; exact h.drop hm j u hu
theorem own_src {w:World} {base:Nat} {v:Value} {L:List RCut} (h:w.ownsRow base 41 6 v L.length (L.flatMap RCut.vals)) (h0:0<L.length):∃ g cp,v=.slice (some ⟨g,0,none⟩) L.length cp∧L.length≤cp∧cp≤maxLen∧CuSrc w g 0 L:=by
 have hcs:=fun g=>h.cells (g:=g)
 rcases h.2 with ⟨_,h1⟩ | ⟨g,cap,cur,rfl,_,hg,hnc,hcm,_⟩
 ·omega
 ·exact ⟨g,cap,rfl,hnc,hcm,(Array.getElem?_eq_some_iff.1 hg).1,fun j u hu=>by have:=hcs g rfl j u hu; rwa [add_none] at this⟩
theorem region_append_cu {yl:Nat→Option Bool} {o:Oper} {a:Act} {w w':World} {K:Act→World→Prop} {Q:Exit→Act→World→Prop} {v v':Value} {y:Value} (hw:Region.wanted o yl=true) (s x:Operand)
  (ho:o.op=.call { callee:=.builtin .append,args:=#[s,x],argTypes:=#[94,94] }) (hs:a.eval s=v) (hx:a.eval x=y)
  (hrun:(Builtin.append_ #[94,94] o.type #[v,y]).run Tryz.prog w=.ok v' w') (h:K (a.put o.dst v') w'):if Region.wanted o yl=true then Oper.wp Tryz.prog o a w K Q else K (a.put o.dst undef) w:=by
 rw [if_pos hw]
 unfold Oper.wp execOp
 simp only [ho,resolve,invoke,builtin,Sem.run_bind,Sem.run_pure,Result.andThen_ok,List.map_toArray,List.map_cons,List.map_nil,hs,hx,hrun]
 exact h
theorem ins17 {Q:Exit→Act→World→Prop} (w w5 wz:World) (b o cp m pc:Nat) (L:List RCut) (c:RCut) (u0 u1 u2 u3 u4 u6 u7 u8 u11 u12 u13 u14 u15 u16 u17 u18 u19 u20 u21 u22 u23 u24 u25 u26 u27 u28 u29 u30 u31 u32 u33 u34 u35 u36 u37 u38 u39 u40 u41 u42 u43 u44 u45 u46 u47 u48 u49 u50 u51 u52 u53 u54 u55 u56 u57 u58 u59 u60 u61 u62 u63 u64 u65 u66 u67 u68 u69 u70 u71 u72 u73 u74 u75 u76 u77 u78 u79 u80 u81 u82 u83 u84:Value) (hm:m≤L.length) (hlen:L.length≤100000) (ha7:CutsAt w w5 b o cp L wz) (k7:At6B wz pc c.kind c.v.a c.v.b c.v.c (.slice c.A c.v.pre.length c.c) (.slice c.B c.v.build.length c.d))
  (hpan:∀ x (a:Act) (d:Nat) v W,Q (.panic x) (a.put (some d) v) W→Q (.panic x) a W) (h:∀ (g' cp':Nat) (L':List RCut) (W':World) (t0 t1 t2 t3 t4 t5 t6 t7 t8 t9 t10 t11:Value),L.take m ++ c :: L.drop m=L'→CuSrc W' g' 0 L'→L'.length≤cp'→cp'≤maxLen→Below wz.heap.size wz W'→Q Exit.normal { tmps:=#[u0,u1,u2,u3,u4,.slice (some ⟨g',0,none⟩) L'.length cp',u6,u7,u8,.pointer (some ⟨pc,0,none⟩),.int .i64 m,u11,u12,u13,u14,u15,u16,u17,u18,u19,u20,u21,u22,u23,u24,u25,u26,u27,u28,u29,u30,u31,u32,u33,u34,u35,u36,u37,u38,u39,u40,u41,u42,u43,u44,u45,u46,u47,u48,u49,u50,u51,u52,u53,u54,u55,u56,u57,u58,u59,u60,u61,u62,u63,u64,u65,u66,u67,u68,u69,u70,u71,t0,t1,t2,t3,t4,t5,t6,t7,t8,t9,t10,t11,u84],defers:=[] } W') :
  (Code.region 17 #[{ dst:=some 72,op:=Op.buildSlice 94 0 #[],type:=94,pos := "ref.go:80",after:=#[],guard:=none },{ dst:=some 73,op:=Op.move (Operand.tmp 5),type:=94,pos := "ref.go:80",after:=#[],guard:=none },{ dst:=some 74,op:=Op.move (Operand.tmp 10),type:=3,pos := "ref.go:80",after:=#[],guard:=none },{ dst:=some 75,op:=Op.slice 94 (Operand.tmp 73) none (some (Operand.tmp 74)) none,type:=94,pos := "ref.go:80",after:=#[{ on:=1,ground:=Ground.data },{ on:=2,ground:=Ground.data }],guard:=none },{ dst:=some 76,op:=Op.call { callee:=Callee.builtin Builtin.append,args:=#[Operand.tmp 72,Operand.tmp 75],argTypes:=#[94,94] },type:=94,pos := "ref.go:80",after:=#[{ on:=0,ground:=Ground.data },{ on:=3,ground:=Ground.data }],guard:=none },{ dst:=some 77,op:=Op.load 41 (Operand.tmp 9),type:=41,pos := "ref.go:80",after:=#[],guard:=none },{ dst:=some 78,op:=Op.buildSlice 94 1 #[(0,Operand.tmp 77)],type:=94,pos := "ref.go:80",after:=#[{ on:=5,ground:=Ground.data }],guard:=none },{ dst:=some 79,op:=Op.call { callee:=Callee.builtin Builtin.append,args:=#[Operand.tmp 76,Operand.tmp 78],argTypes:=#[94,94] },type:=94,pos := "ref.go:80",after:=#[{ on:=4,ground:=Ground.data },{ on:=6,ground:=Ground.data },{ on:=4,ground:=Ground.chain }],guard:=none },{ dst:=some 80,op:=Op.move (Operand.tmp 5),type:=94,pos := "ref.go:80",after:=#[],guard:=none },{ dst:=some 81,op:=Op.move (Operand.tmp 10),type:=3,pos := "ref.go:80",after:=#[],guard:=none },{ dst:=some 82,op:=Op.slice 94 (Operand.tmp 80) (some (Operand.tmp 81)) none none,type:=94,pos := "ref.go:80",after:=#[{ on:=8,ground:=Ground.data },{ on:=9,ground:=Ground.data }],guard:=none },{ dst:=some 83,op:=Op.call { callee:=Callee.builtin Builtin.append,args:=#[Operand.tmp 79,Operand.tmp 82],argTypes:=#[94,94] },type:=94,pos := "ref.go:80",after:=#[{ on:=7,ground:=Ground.data },{ on:=10,ground:=Ground.data },{ on:=7,ground:=Ground.chain }],guard:=none },{ dst:=some 5,op:=Op.assign (Operand.tmp 83),type:=94,pos := "ref.go:80",after:=#[{ on:=11,ground:=Ground.data },{ on:=11,ground:=Ground.chain },{ on:=0,ground:=Ground.phase },{ on:=1,ground:=Ground.phase },{ on:=2,ground:=Ground.phase },{ on:=3,ground:=Ground.phase },{ on:=4,ground:=Ground.phase },{ on:=5,ground:=Ground.phase },{ on:=6,ground:=Ground.phase },{ on:=7,ground:=Ground.phase },{ on:=8,ground:=Ground.phase },{ on:=9,ground:=Ground.phase },{ on:=10,ground:=Ground.phase },{ on:=11,ground:=Ground.phase }],guard:=none }] true).wp Tryz.prog Q { tmps:=#[u0,u1,u2,u3,u4,.slice (some ⟨b,o,none⟩) L.length cp,u6,u7,u8,.pointer (some ⟨pc,0,none⟩),.int .i64 m,u11,u12,u13,u14,u15,u16,u17,u18,u19,u20,u21,u22,u23,u24,u25,u26,u27,u28,u29,u30,u31,u32,u33,u34,u35,u36,u37,u38,u39,u40,u41,u42,u43,u44,u45,u46,u47,u48,u49,u50,u51,u52,u53,u54,u55,u56,u57,u58,u59,u60,u61,u62,u63,u64,u65,u66,u67,u68,u69,u70,u71,u72,u73,u74,u75,u76,u77,u78,u79,u80,u81,u82,u83,u84],defers:=[] } wz:=by
 have HPA:=Lib.hid hpan
 clear hpan
 obtain ⟨ad,had⟩:∃ ad,(if cp=m then (⟨b,o,none⟩:Addr) else ⟨b,o+m * 6,none⟩)=ad:=⟨_,rfl⟩
 have HAD:=Lib.hid had
 have hmc:m≤cp:=Nat.le_trans hm ha7.cap
 have hcm:=ha7.capm
 unfold maxLen at hcm
 have HA7:=Lib.hid ha7
 have K7:=Lib.hid k7
 have HQ:=Lib.hid h
 clear ha7 k7 h
 obtain ⟨hpc,_,z0,z1,z2,z3,z4,z5⟩:=K7.out
 have H0:Hid (Below wz.heap.size wz wz.drew):=(Below.refl _ _).drew
 obtain ⟨L',hL'⟩:∃ L',L.take m ++ c :: L.drop m=L':=⟨_,rfl⟩
 have HLL:=Lib.hid hL'
 have hl2:L'.length=L.length+1:=by rw [← hL']; simp; omega
 clear hL' had
 refine wp_region_held_drew (S:=fun w'=>Below wz.heap.size wz w') (by kernel_rfl) H0.out (fun hHeld=>?_)
 refine wpAnyH_take (i:=1) (oi:={ dst:=some 73,op:=Op.move (Operand.tmp 5),type:=94,pos:=_,after:=_,guard:=none }) (v:=.slice (some ⟨b,o,none⟩) L.length cp) rfl (by kernel_rfl) (by kernel_rfl) (by kernel_rfl) (fun _ _ _ h=>HPA.out _ _ _ _ _ h) (Or.inl ⟨by rfl,fun w' hS'=>by go_simp⟩) (by assumption) ?_
 simp only [Act.put,p1,p2,p3]
 refine wpAnyH_take (i:=2) (oi:={ dst:=some 74,op:=Op.move (Operand.tmp 10),type:=3,pos:=_,after:=_,guard:=none }) (v:=.int .i64 m) rfl (by kernel_rfl) (by kernel_rfl) (by kernel_rfl) (fun _ _ _ h=>HPA.out _ _ _ _ _ h) (Or.inl ⟨by rfl,fun w' hS'=>by go_simp⟩) (by assumption) ?_
 simp only [Act.put,p1,p2,p3]
 refine wpAnyH_take (i:=3) (oi:={ dst:=some 75,op:=Op.slice 94 (Operand.tmp 73) none (some (Operand.tmp 74)) none,type:=94,pos:=_,after:=_,guard:=none }) (v:=.slice (some ⟨b,o,none⟩) m cp) rfl (by kernel_rfl) (by kernel_rfl) (by kernel_rfl) (fun _ _ _ h=>HPA.out _ _ _ _ _ h) (Or.inl ⟨by rfl,fun w' hS'=>by go_simp⟩) (by assumption) ?_
 simp only [Act.put,p1,p2,p3]
 refine wpAnyH_take (i:=5) (oi:={ dst:=some 77,op:=Op.load 41 (Operand.tmp 9),type:=41,pos:=_,after:=_,guard:=none }) (v:=.agg #[c.kind,c.v.a,c.v.b,c.v.c,.slice c.A c.v.pre.length c.c,.slice c.B c.v.build.length c.d]) rfl (by kernel_rfl) (by kernel_rfl) (by kernel_rfl) (fun _ _ _ h=>HPA.out _ _ _ _ _ h) (Or.inl ⟨by rfl,fun w' hS'=>by have q0:=(hS'.cell (p:=⟨pc,0,none⟩) hpc).trans z0; have q1:=(hS'.cell (p:=⟨pc,1,none⟩) hpc).trans z1; have q2:=(hS'.cell (p:=⟨pc,2,none⟩) hpc).trans z2; have q3:=(hS'.cell (p:=⟨pc,3,none⟩) hpc).trans z3; have q4:=(hS'.cell (p:=⟨pc,4,none⟩) hpc).trans z4; have q5:=(hS'.cell (p:=⟨pc,5,none⟩) hpc).trans z5; go_simp⟩) (by assumption) ?_
 simp only [Act.put,p1,p2,p3]
 refine wpAnyH_take (i:=8) (oi:={ dst:=some 80,op:=Op.move (Operand.tmp 5),type:=94,pos:=_,after:=_,guard:=none }) (v:=.slice (some ⟨b,o,none⟩) L.length cp) rfl (by kernel_rfl) (by kernel_rfl) (by kernel_rfl) (fun _ _ _ h=>HPA.out _ _ _ _ _ h) (Or.inl ⟨by rfl,fun w' hS'=>by go_simp⟩) (by assumption) ?_
 simp only [Act.put,p1,p2,p3]
 refine wpAnyH_take (i:=9) (oi:={ dst:=some 81,op:=Op.move (Operand.tmp 10),type:=3,pos:=_,after:=_,guard:=none }) (v:=.int .i64 m) rfl (by kernel_rfl) (by kernel_rfl) (by kernel_rfl) (fun _ _ _ h=>HPA.out _ _ _ _ _ h) (Or.inl ⟨by rfl,fun w' hS'=>by go_simp⟩) (by assumption) ?_
 simp only [Act.put,p1,p2,p3]
 refine wpAnyH_take (i:=10) (oi:={ dst:=some 82,op:=Op.slice 94 (Operand.tmp 80) (some (Operand.tmp 81)) none none,type:=94,pos:=_,after:=_,guard:=none }) (v:=.slice (some ad) (L.length - m) (cp - m)) rfl (by kernel_rfl) (by kernel_rfl) (by kernel_rfl) (fun _ _ _ h=>HPA.out _ _ _ _ _ h) (Or.inl ⟨by rfl,fun w' hS'=>by go_simp; rw [← HAD.out]; split <;> rfl⟩) (by assumption) ?_
 simp only [Act.put,p1,p2,p3]
 refine wpAnyH_ready (rs:=[0,6]) (by kernel_rfl) (by simp) ?_
 refine AllReadyH.cons (nth_ops (i:=0) rfl) (fun K hK=>?_) (AllReadyH.cons (nth_ops (i:=6) rfl) (fun K hK=>?_) (AllReadyH.nil))
 ·go_simp
  have H1:Hid (Below wz.heap.size wz (wz.drew.alloc (.cells #[] 41))):=H0.out.alloc H0.out.size _
  have OW1:Hid (World.ownsRow (wz.drew.alloc (.cells #[] 41)) wz.heap.size 41 6 (.slice (some ⟨wz.heap.size,0,none⟩) 0 0) 0 (([]:List RCut).flatMap RCut.vals)):=by
   have q:=World.ownsRow_made (base:=wz.heap.size) (e:=41) (size:=6) wz.drew #[] 0 H0.out.size (by unfold maxLen; omega) rfl
   try rw [size_alloc] at q
   exact q
  refine hK.out _ _ H1.out (fun hHeld=>?_)
  clear hK K hHeld
  try simp only [Act.put,p1,p2,p3]
  refine wpAnyH_ready (rs:=[4,6]) (by kernel_rfl) (by simp) ?_
  refine AllReadyH.cons (nth_ops (i:=4) rfl) (fun K hK=>?_) (AllReadyH.cons (nth_ops (i:=6) rfl) (fun K hK=>?_) (AllReadyH.nil))
  ·obtain ⟨v2,u2,hrun,ho,hg⟩:=run_append_cu (wz.drew.alloc (.cells #[] 41)) 94 wz.heap.size (.slice (some ⟨wz.heap.size,0,none⟩) 0 0) 0 [] OW1.out ⟨b,o,none⟩ m cp (L.take m) (by first | (simp; done) | (simp; omega)) ((HA7.out.src.kept H1.out).take m) (by omega) H1.out.size
   have H2:Hid (Below wz.heap.size wz u2):=H1.out.grown hg H1.out.size (fun k hk=>(OW1.out.lt k hk).1)
   have OW2:=Lib.hid ho
   rw [Nat.zero_add,List.nil_append] at OW2
   refine region_append_cu (by rfl) _ _ rfl rfl rfl hrun ?_
   clear hrun ho hg
   refine hK.out _ _ H2.out (fun hHeld=>?_)
   clear hK K hHeld
   try simp only [Act.put,p1,p2,p3]
   refine wpAnyH_ready (rs:=[6]) (by kernel_rfl) (by simp) ?_
   refine AllReadyH.cons (nth_ops (i:=6) rfl) (fun K hK=>?_) (AllReadyH.nil)
   go_simp
   have H3:Hid (Below wz.heap.size wz (u2.alloc c)):=H2.out.alloc H2.out.size _
   have NS3:Hid (CuSrc (u2.alloc c) (u2.heap.size) 0 [c]):=by
    have q:CuSrc (u2.alloc c) u2.heap.size 0 [c]:=⟨by simp,fun j u hu=>by have:=news_new u2 ([c].flatMap RCut.vals) 41 j u hu; rw [add_none] at this; exact this⟩
    try rw [size_alloc] at q
    exact q
   have OW3:=Lib.hid (OW2.out.alloc c)
   refine hK.out _ _ H3.out (fun hHeld=>?_)
   clear hK K hHeld
   try simp only [Act.put,p1,p2,p3]
   refine wpAnyH_ready (rs:=[7]) (by kernel_rfl) (by simp) ?_
   refine AllReadyH.cons (nth_ops (i:=7) rfl) (fun K hK=>?_) (AllReadyH.nil)
   obtain ⟨v4,u4,hrun,ho,hg⟩:=run_append_cu (u2.alloc c) 94 wz.heap.size v2 m (L.take m) OW3.out ⟨u2.heap.size,0,none⟩ 1 1 [c] rfl (fun j u hu=>by rw [add_none]; exact NS3.out.2 j u hu) (by omega) H3.out.size
   have H4:Hid (Below wz.heap.size wz u4):=H3.out.grown hg H3.out.size (fun k hk=>(OW3.out.lt k hk).1)
   have OW4:=Lib.hid ho
   refine region_append_cu (by rfl) _ _ rfl rfl rfl hrun ?_
   clear hrun ho hg
   refine hK.out _ _ H4.out (fun hHeld=>?_)
   clear hK K hHeld
   try simp only [Act.put,p1,p2,p3]
   refine wpAnyH_ready (rs:=[11]) (by kernel_rfl) (by simp) ?_
   refine AllReadyH.cons (nth_ops (i:=11) rfl) (fun K hK=>?_) (AllReadyH.nil)
   obtain ⟨v5,u5,hrun,ho,hg⟩:=run_append_cu u4 94 wz.heap.size v4 (m+1) (L.take m ++ [c]) OW4.out ad (L.length - m) (cp - m) (L.drop m) (by first | (simp; done) | (simp; omega)) ((HA7.out.src.kept H4.out).dropAd hm HA7.out.cap HAD.out) (by omega) H4.out.size
   have H5:Hid (Below wz.heap.size wz u5):=H4.out.grown hg H4.out.size (fun k hk=>(OW4.out.lt k hk).1)
   have OF:Hid (World.ownsRow u5 wz.heap.size 41 6 v5 L'.length (L'.flatMap RCut.vals)):=by
    have q:=ho
    rw [show L.take m ++ [c] ++ L.drop m=L' by rw [← HLL.out,List.append_assoc]; rfl] at q
    unfold Hid; rw [show L'.length=m+1+(L.length - m) by omega]; exact q
   obtain ⟨g',cp',he,k1,k2,k3⟩:=own_src OF.out (by omega)
   subst he
   clear OF ho
   refine region_append_cu (by rfl) _ _ rfl rfl rfl hrun ?_
   have KK:=Lib.hid (And.intro k1 (And.intro k2 k3))
   clear hrun hg k1 k2 k3
   refine hK.out _ _ H5.out (fun hHeld=>?_)
   clear hK K hHeld
   try simp only [Act.put,p1,p2,p3]
   refine wpAnyH_take (i:=12) (oi:={ dst:=some 5,op:=Op.assign (Operand.tmp 83),type:=94,pos:=_,after:=_,guard:=none }) (v:=.slice (some ⟨g',0,none⟩) L'.length cp') rfl (by kernel_rfl) (by kernel_rfl) (by kernel_rfl) (fun _ _ _ h=>HPA.out _ _ _ _ _ h) (Or.inl ⟨by rfl,fun w' hS'=>by go_simp⟩) (by assumption) ?_
   simp only [Act.put,p1,p2,p3]
   refine wpAnyH_done (by kernel_rfl) ?_ _
   exact HQ.out g' cp' L' _ _ _ _ _ _ _ _ _ _ _ _ _ HLL.out KK.out.2.2 KK.out.1 KK.out.2.1 H5.out
  ·go_simp
   have H2:Hid (Below wz.heap.size wz ((wz.drew.alloc (.cells #[] 41)).alloc c)):=H1.out.alloc H1.out.size _
   have NS2:Hid (CuSrc ((wz.drew.alloc (.cells #[] 41)).alloc c) (wz.heap.size+1) 0 [c]):=by
    have q:CuSrc ((wz.drew.alloc (.cells #[] 41)).alloc c) (wz.drew.alloc (.cells #[] 41)).heap.size 0 [c]:=⟨by simp,fun j u hu=>by have:=news_new (wz.drew.alloc (.cells #[] 41)) ([c].flatMap RCut.vals) 41 j u hu; rw [add_none] at this; exact this⟩
    try rw [size_alloc] at q
    exact q
   have OW2:=Lib.hid (OW1.out.alloc c)
   refine hK.out _ _ H2.out (fun hHeld=>?_)
   clear hK K hHeld
   try simp only [Act.put,p1,p2,p3]
   refine wpAnyH_ready (rs:=[4]) (by kernel_rfl) (by simp) ?_
   refine AllReadyH.cons (nth_ops (i:=4) rfl) (fun K hK=>?_) (AllReadyH.nil)
   obtain ⟨v3,u3,hrun,ho,hg⟩:=run_append_cu ((wz.drew.alloc (.cells #[] 41)).alloc c) 94 wz.heap.size (.slice (some ⟨wz.heap.size,0,none⟩) 0 0) 0 [] OW2.out ⟨b,o,none⟩ m cp (L.take m) (by first | (simp; done) | (simp; omega)) ((HA7.out.src.kept H2.out).take m) (by omega) H2.out.size
   have H3:Hid (Below wz.heap.size wz u3):=H2.out.grown hg H2.out.size (fun k hk=>(OW2.out.lt k hk).1)
   have NS3:Hid (CuSrc u3 (wz.heap.size+1) 0 [c]):=NS2.out.grown hg (fun h=>by have h2:wz.heap.size+1=wz.heap.size:=Option.some.inj h; omega)
   have OW3:=Lib.hid ho
   rw [Nat.zero_add,List.nil_append] at OW3
   refine region_append_cu (by rfl) _ _ rfl rfl rfl hrun ?_
   clear hrun ho hg
   refine hK.out _ _ H3.out (fun hHeld=>?_)
   clear hK K hHeld
   try simp only [Act.put,p1,p2,p3]
   refine wpAnyH_ready (rs:=[7]) (by kernel_rfl) (by simp) ?_
   refine AllReadyH.cons (nth_ops (i:=7) rfl) (fun K hK=>?_) (AllReadyH.nil)
   obtain ⟨v4,u4,hrun,ho,hg⟩:=run_append_cu u3 94 wz.heap.size v3 m (L.take m) OW3.out ⟨wz.heap.size+1,0,none⟩ 1 1 [c] rfl (fun j u hu=>by rw [add_none]; exact NS3.out.2 j u hu) (by omega) H3.out.size
   have H4:Hid (Below wz.heap.size wz u4):=H3.out.grown hg H3.out.size (fun k hk=>(OW3.out.lt k hk).1)
   have OW4:=Lib.hid ho
   refine region_append_cu (by rfl) _ _ rfl rfl rfl hrun ?_
   clear hrun ho hg
   refine hK.out _ _ H4.out (fun hHeld=>?_)
   clear hK K hHeld
   try simp only [Act.put,p1,p2,p3]
   refine wpAnyH_ready (rs:=[11]) (by kernel_rfl) (by simp) ?_
   refine AllReadyH.cons (nth_ops (i:=11) rfl) (fun K hK=>?_) (AllReadyH.nil)
   obtain ⟨v5,u5,hrun,ho,hg⟩:=run_append_cu u4 94 wz.heap.size v4 (m+1) (L.take m ++ [c]) OW4.out ad (L.length - m) (cp - m) (L.drop m) (by first | (simp; done) | (simp; omega)) ((HA7.out.src.kept H4.out).dropAd hm HA7.out.cap HAD.out) (by omega) H4.out.size
   have H5:Hid (Below wz.heap.size wz u5):=H4.out.grown hg H4.out.size (fun k hk=>(OW4.out.lt k hk).1)
   have OF:Hid (World.ownsRow u5 wz.heap.size 41 6 v5 L'.length (L'.flatMap RCut.vals)):=by
    have q:=ho
    rw [show L.take m ++ [c] ++ L.drop m=L' by rw [← HLL.out,List.append_assoc]; rfl] at q
    unfold Hid; rw [show L'.length=m+1+(L.length - m) by omega]; exact q
   obtain ⟨g',cp',he,k1,k2,k3⟩:=own_src OF.out (by omega)
   subst he
   clear OF ho
   refine region_append_cu (by rfl) _ _ rfl rfl rfl hrun ?_
   have KK:=Lib.hid (And.intro k1 (And.intro k2 k3))
   clear hrun hg k1 k2 k3
   refine hK.out _ _ H5.out (fun hHeld=>?_)
   clear hK K hHeld
   try simp only [Act.put,p1,p2,p3]
   refine wpAnyH_take (i:=12) (oi:={ dst:=some 5,op:=Op.assign (Operand.tmp 83),type:=94,pos:=_,after:=_,guard:=none }) (v:=.slice (some ⟨g',0,none⟩) L'.length cp') rfl (by kernel_rfl) (by kernel_rfl) (by kernel_rfl) (fun _ _ _ h=>HPA.out _ _ _ _ _ h) (Or.inl ⟨by rfl,fun w' hS'=>by go_simp⟩) (by assumption) ?_
   simp only [Act.put,p1,p2,p3]
   refine wpAnyH_done (by kernel_rfl) ?_ _
   exact HQ.out g' cp' L' _ _ _ _ _ _ _ _ _ _ _ _ _ HLL.out KK.out.2.2 KK.out.1 KK.out.2.1 H5.out
 ·go_simp
  have H1:Hid (Below wz.heap.size wz (wz.drew.alloc c)):=H0.out.alloc H0.out.size _
  have NS1:Hid (CuSrc (wz.drew.alloc c) (wz.heap.size) 0 [c]):=by
   have q:CuSrc (wz.drew.alloc c) wz.drew.heap.size 0 [c]:=⟨by simp,fun j u hu=>by have:=news_new wz.drew ([c].flatMap RCut.vals) 41 j u hu; rw [add_none] at this; exact this⟩
   try rw [size_alloc] at q
   exact q
  refine hK.out _ _ H1.out (fun hHeld=>?_)
  clear hK K hHeld
  try simp only [Act.put,p1,p2,p3]
  refine wpAnyH_ready (rs:=[0]) (by kernel_rfl) (by simp) ?_
  refine AllReadyH.cons (nth_ops (i:=0) rfl) (fun K hK=>?_) (AllReadyH.nil)
  go_simp
  have H2:Hid (Below wz.heap.size wz ((wz.drew.alloc c).alloc (.cells #[] 41))):=H1.out.alloc H1.out.size _
  have OW2:Hid (World.ownsRow ((wz.drew.alloc c).alloc (.cells #[] 41)) wz.heap.size 41 6 (.slice (some ⟨wz.heap.size+1,0,none⟩) 0 0) 0 (([]:List RCut).flatMap RCut.vals)):=by
   have q:=World.ownsRow_made (base:=wz.heap.size) (e:=41) (size:=6) (wz.drew.alloc c) #[] 0 H1.out.size (by unfold maxLen; omega) rfl
   try rw [size_alloc] at q
   exact q
  have NS2:Hid (CuSrc ((wz.drew.alloc c).alloc (.cells #[] 41)) (wz.heap.size) 0 [c]):=NS1.out.kept ((Below.refl _ _).alloc (Nat.le_refl _) _)
  refine hK.out _ _ H2.out (fun hHeld=>?_)
  clear hK K hHeld
  try simp only [Act.put,p1,p2,p3]
  refine wpAnyH_ready (rs:=[4]) (by kernel_rfl) (by simp) ?_
  refine AllReadyH.cons (nth_ops (i:=4) rfl) (fun K hK=>?_) (AllReadyH.nil)
  obtain ⟨v3,u3,hrun,ho,hg⟩:=run_append_cu ((wz.drew.alloc c).alloc (.cells #[] 41)) 94 wz.heap.size (.slice (some ⟨wz.heap.size+1,0,none⟩) 0 0) 0 [] OW2.out ⟨b,o,none⟩ m cp (L.take m) (by first | (simp; done) | (simp; omega)) ((HA7.out.src.kept H2.out).take m) (by omega) H2.out.size
  have H3:Hid (Below wz.heap.size wz u3):=H2.out.grown hg H2.out.size (fun k hk=>(OW2.out.lt k hk).1)
  have NS3:Hid (CuSrc u3 (wz.heap.size) 0 [c]):=NS2.out.grown hg (fun h=>by have h2:wz.heap.size=wz.heap.size+1:=Option.some.inj h; omega)
  have OW3:=Lib.hid ho
  rw [Nat.zero_add,List.nil_append] at OW3
  refine region_append_cu (by rfl) _ _ rfl rfl rfl hrun ?_
  clear hrun ho hg
  refine hK.out _ _ H3.out (fun hHeld=>?_)
  clear hK K hHeld
  try simp only [Act.put,p1,p2,p3]
  refine wpAnyH_ready (rs:=[7]) (by kernel_rfl) (by simp) ?_
  refine AllReadyH.cons (nth_ops (i:=7) rfl) (fun K hK=>?_) (AllReadyH.nil)
  obtain ⟨v4,u4,hrun,ho,hg⟩:=run_append_cu u3 94 wz.heap.size v3 m (L.take m) OW3.out ⟨wz.heap.size,0,none⟩ 1 1 [c] rfl (fun j u hu=>by rw [add_none]; exact NS3.out.2 j u hu) (by omega) H3.out.size
  have H4:Hid (Below wz.heap.size wz u4):=H3.out.grown hg H3.out.size (fun k hk=>(OW3.out.lt k hk).1)
  have OW4:=Lib.hid ho
  refine region_append_cu (by rfl) _ _ rfl rfl rfl hrun ?_
  clear hrun ho hg
  refine hK.out _ _ H4.out (fun hHeld=>?_)
  clear hK K hHeld
  try simp only [Act.put,p1,p2,p3]
  refine wpAnyH_ready (rs:=[11]) (by kernel_rfl) (by simp) ?_
  refine AllReadyH.cons (nth_ops (i:=11) rfl) (fun K hK=>?_) (AllReadyH.nil)
  obtain ⟨v5,u5,hrun,ho,hg⟩:=run_append_cu u4 94 wz.heap.size v4 (m+1) (L.take m ++ [c]) OW4.out ad (L.length - m) (cp - m) (L.drop m) (by first | (simp; done) | (simp; omega)) ((HA7.out.src.kept H4.out).dropAd hm HA7.out.cap HAD.out) (by omega) H4.out.size
  have H5:Hid (Below wz.heap.size wz u5):=H4.out.grown hg H4.out.size (fun k hk=>(OW4.out.lt k hk).1)
  have OF:Hid (World.ownsRow u5 wz.heap.size 41 6 v5 L'.length (L'.flatMap RCut.vals)):=by
   have q:=ho
   rw [show L.take m ++ [c] ++ L.drop m=L' by rw [← HLL.out,List.append_assoc]; rfl] at q
   unfold Hid; rw [show L'.length=m+1+(L.length - m) by omega]; exact q
  obtain ⟨g',cp',he,k1,k2,k3⟩:=own_src OF.out (by omega)
  subst he
  clear OF ho
  refine region_append_cu (by rfl) _ _ rfl rfl rfl hrun ?_
  have KK:=Lib.hid (And.intro k1 (And.intro k2 k3))
  clear hrun hg k1 k2 k3
  refine hK.out _ _ H5.out (fun hHeld=>?_)
  clear hK K hHeld
  try simp only [Act.put,p1,p2,p3]
  refine wpAnyH_take (i:=12) (oi:={ dst:=some 5,op:=Op.assign (Operand.tmp 83),type:=94,pos:=_,after:=_,guard:=none }) (v:=.slice (some ⟨g',0,none⟩) L'.length cp') rfl (by kernel_rfl) (by kernel_rfl) (by kernel_rfl) (fun _ _ _ h=>HPA.out _ _ _ _ _ h) (Or.inl ⟨by rfl,fun w' hS'=>by go_simp⟩) (by assumption) ?_
  simp only [Act.put,p1,p2,p3]
  refine wpAnyH_done (by kernel_rfl) ?_ _
  exact HQ.out g' cp' L' _ _ _ _ _ _ _ _ _ _ _ _ _ HLL.out KK.out.2.2 KK.out.1 KK.out.2.1 H5.out
end Go.Proofs.YtgfbflnhjpbceaaGreatDoor.Span
