/-
  What the theorem of the last text needs of these: ShJoinsWalk, ShJoinsAll. Conditions: as each theorem states.
-/
import Derived.Test.YtgakcdcfblgagaaDoorJoA1
import Derived.Test.YtgakcdcfblgagaaDoorJoA2
import Derived.Test.YtgakcdcfblgagaaDoorJoA9
import Derived.Test.YtgakcdcfblgagaaDoorJoA12
import Derived.Test.YtgakcdcfblgagaaDoorJoA13
import Derived.Test.YtgakcdcfblgagaaDoorJoA16
import Derived.Test.YtgakcdcfblgagaaDoorJoA21
import Derived.Test.YtgakcdcfblgagaaDoorJoA22
import Derived.Test.YtgakcdcfblgagaaDoorJoA23
set_option maxRecDepth 100000
set_option maxHeartbeats 25600000
namespace Go.Proofs.YtgakcdcfblgagaaDoor.Sheet
open Go.RowKit Num Ident Semver Fr
open KR (KRow AtV)
open Range (KeepS LtB From OpsTab)
open Model (PDep PRel PPack PPin MDep MVer MRel MPack MPin DepOk VerOk PinOk RelOk PackOk DRow SPRow RRow PRow)

theorem depInfoJ:(Tryd.prog.info? 53).map (fun i=>(i.zero,i.size,i.bytes))=some (some (.agg #[.string ⟨#[]⟩,.int .i64 0,.int .u64 0,.int .u64 0,.int .u64 0,.slice none 0 0,.slice none 0 0,.slice none 0 0]),8,120):=by kernel_rfl
theorem lenG {α:Type} {w:List UInt8} {mk:Line→α}:∀ (ls:List (List UInt8)) (st:List α),(linesG w mk st ls).2.length≤st.length+ls.length
 | [],st=>Nat.le_refl _
 | t :: ts,st=>by
  rw [linesG]
  have h1:=lenG (w:=w) (mk:=mk) ts st
  have h2:=lenG (w:=w) (mk:=mk) ts (st ++ [mk (readL t)])
  rw [List.length_append] at h2
  simp only [List.length_cons,List.length_nil] at h2 ⊢
  split
  ·omega
  ·split
   ·simp
   ·split
    ·simp
    ·omega
theorem linesOf_len:∀ s:List UInt8,(linesOf s).length≤s.length
 | []=>Nat.le_refl _
 | c :: s=>by
  have h:=linesOf_len s
  rw [linesOf]
  split
  ·simp; omega
  ·split
   ·simp
   ·rename_i l ls hl
    rw [hl] at h
    simp at h ⊢
    omega
theorem _root_.Go.Proofs.YtgakcdcfblgagaaDoor.Model.PinOk.mono {w:World} {S S':Nat→Prop} {p:MPin} (h:PinOk w S p) (hS:∀ b,S b→b<w.heap.size→S' b):PinOk w S' p:=pin_mono h hS
theorem wpList_ran_if {P:Program} {w:World} {ops:Array Oper} {rest:List Oper} {o:Oper} {a:Act} {Q:Exit→Act→World→Prop} {T:TypeId} {s x:Operand} {sv xv v':Value} {w':World} (hw:Region.wanted o (yielded ops a.tmps)=true)
  (ho:o.op=.call { callee:=.builtin .append,args:=#[s,x],argTypes:=#[T,T] }) (hs:a.eval s=sv) (hx:a.eval x=xv) (hrun:(Builtin.append_ #[T,T] o.type #[sv,xv]).run P w=.ok v' w')
  (h:wpList P ops Q rest (a.put o.dst v') w'):wpList P ops Q (o :: rest) a w:=by
 unfold wpList
 rw [if_pos hw]
 refine .inl ?_
 unfold Oper.wp execOp
 simp only [ho,resolve,invoke,builtin,Sem.run_bind,Sem.run_pure,Result.andThen_ok,List.map_toArray,List.map_cons,List.map_nil,hs,hx,hrun]
 exact h
theorem both_cases {α:Type} {E F G:Nat} {x y z:List α} (h:(G=0↔E=0∧F=0)∧(G=0→z=x ++ y)):(E=0∧F=0∧G=0∧z=x ++ y)∨(E≠0∧G≠0)∨(E=0∧F≠0∧G≠0):=by
 by_cases hG:G=0
 ·exact .inl ⟨(h.1.1 hG).1,(h.1.1 hG).2,hG,h.2 hG⟩
 ·by_cases hE:E=0
  ·exact .inr (.inr ⟨hE,fun hF=>hG (h.1.2 ⟨hE,hF⟩),hG⟩)
  ·exact .inr (.inl ⟨hE,hG⟩)
theorem bothD {a b:List UInt8} (h1:a.length≤300) (h2:b.length≤300):((rootsB (a ++ 10 :: b)).1=0↔(rootsB a).1=0∧(rootsB b).1=0)∧((rootsB (a ++ 10 :: b)).1=0→(rootsB (a ++ 10 :: b)).2=(rootsB a).2 ++ (rootsB b).2):=by
 unfold rootsB
 rw [if_neg (show ¬ 16777216<a.length by omega),if_neg (show ¬ 16777216<b.length by omega),if_neg (show ¬ 16777216<(a ++ 10 :: b).length by rw [List.length_append,List.length_cons]; omega)]
 exact linesG_both wRoot depOf a b
theorem lenD {a:List UInt8} (h:a.length≤300):(rootsB a).2.length≤300:=by
 unfold rootsB
 rw [if_neg (by omega)]
 have:=lenG (w:=wRoot) (mk:=depOf) (linesOf a) []
 have:=linesOf_len a
 simp at *
 omega
theorem bothS {a b:List UInt8} (h1:a.length≤300) (h2:b.length≤300):((pinsB (a ++ 10 :: b)).1=0↔(pinsB a).1=0∧(pinsB b).1=0)∧((pinsB (a ++ 10 :: b)).1=0→(pinsB (a ++ 10 :: b)).2=(pinsB a).2 ++ (pinsB b).2):=by
 unfold pinsB
 rw [if_neg (show ¬ 16777216<a.length by omega),if_neg (show ¬ 16777216<b.length by omega),if_neg (show ¬ 16777216<(a ++ 10 :: b).length by rw [List.length_append,List.length_cons]; omega)]
 exact linesG_both wPin pinOf a b
theorem lenS {a:List UInt8} (h:a.length≤300):(pinsB a).2.length≤300:=by
 unfold pinsB
 rw [if_neg (by omega)]
 have:=lenG (w:=wPin) (mk:=pinOf) (linesOf a) []
 have:=linesOf_len a
 simp at *
 omega
theorem sheetJoins_any (A0:Option Addr) (n0 c0:Nat) (l0:List UInt8) (A1:Option Addr) (n1 c1:Nat) (l1:List UInt8) (w:World) (r0:Row w A0 n0 l0) (r1:Row w A1 n1 l1) (h0:n0≤c0) (h1:n1≤c1) (m0:c0≤maxLen) (m1:c1≤maxLen) (z0:A0=none→c0=0) (z1:A1=none→c1=0) (ht:OpsTab w) (hgl:1<w.heap.size) :
  Calls Tryd.prog 3 #[.slice A0 n0 c0,.slice A1 n1 c1] w fun e w'=>e=.returned (.bool true)∧Below w.heap.size w w':=by
 have R0:=Lib.hid r0
 have R1:=Lib.hid r1
 have HT:=Lib.hid ht
 have HM:=Lib.hid (And.intro m0 m1)
 have hl0:l0.length=n0:=r0.1
 have hl1:l1.length=n1:=r1.1
 clear r0 r1 ht m0 m1
 go_enter Tryd.func3,Tryd.ntmps3
 go_wp2_with fail
 refine (awake10_any w HT.out hgl).mono ?_
 rintro e wa ⟨rfl,hb⟩
 have HBA:=Lib.hid hb
 clear hb
 by_cases b0:n0≤300
 ·by_cases b1:n1≤300
  ·have q0:¬ (300:Int)<(n0:Int):=by omega
   have q1:¬ (300:Int)<(n1:Int):=by omega
   go_upto_region 5 with (fail)
   have O1:Hid (World.ownsRow (wa.alloc (.cells #[] 5)) wa.heap.size 5 1 (.slice (some ⟨wa.heap.size,0,none⟩) 0 0) 0 (cells [])):=World.ownsRow_made (base:=wa.heap.size) (e:=5) (size:=1) wa #[] 0 (Nat.le_refl _) (by unfold maxLen; omega) rfl
   have HB1:Hid (Below w.heap.size w (wa.alloc (.cells #[] 5))):=HBA.out.alloc HBA.out.size _
   have R0a:Hid (Row (wa.alloc (.cells #[] 5)) A0 n0 l0):=R0.out.kept HB1.out
   go_wp2_with (refine wpList_append_row _ rfl _ _ rfl wa.heap.size _ 0 [] rfl O1.out A0 n0 c0 l0 rfl R0a.out z0 (by omega) (by simp) ?_)
   intro A2 c2 w2 hc2 hr2 ho2 hb2
   try simp only [Nat.zero_add,List.nil_append] at hc2 hr2 ho2
   have HB2:Hid (Below w.heap.size w w2):=HB1.out.trans (hb2.mono HBA.out.size)
   have HB2':Hid (Below w.heap.size w (w2.alloc (.cells #[.int .u8 10] 5))):=HB2.out.alloc HB2.out.size _
   have R10:Hid (Row (w2.alloc (.cells #[.int .u8 10] 5)) (some ⟨w2.heap.size,0,none⟩) 1 [10]):=Row.new w2 [10] #[.int .u8 10] 5 _ rfl (by decide)
   have O2:Hid (World.ownsRow (w2.alloc (.cells #[.int .u8 10] 5)) wa.heap.size 5 1 (.slice A2 n0 c2) n0 (cells l0)):=own_but ho2 (But.of_same ((Below.refl _ _).alloc (Nat.le_refl _) _) fun _=>False) fun _ _ g=>g
   have HZ2:Hid (wa.heap.size≤(w2.alloc (.cells #[.int .u8 10] 5)).heap.size):=by
    have:=hb2.size
    rw [size_alloc] at this ⊢
    show _≤_
    omega
   clear hc2 hr2 ho2 hb2
   go_wp2_with (refine wpList_append_row _ rfl _ _ rfl wa.heap.size _ n0 l0 rfl O2.out (some ⟨w2.heap.size,0,none⟩) 1 1 [10] rfl R10.out (fun e=>by cases e) (by omega) HZ2.out ?_)
   intro A3 c3 w3 hc3 hr3 ho3 hb3
   have HB3:Hid (Below w.heap.size w w3):=HB2'.out.trans (hb3.mono HBA.out.size)
   have HZ3:Hid (wa.heap.size≤w3.heap.size):=Nat.le_trans HZ2.out hb3.size
   have O3:=Lib.hid ho3
   have R1a:Hid (Row w3 A1 n1 l1):=R1.out.kept HB3.out
   clear hc3 hr3 ho3 hb3
   go_wp2_with (refine wpList_append_row _ rfl _ _ rfl wa.heap.size _ (n0+1) (l0 ++ [10]) rfl O3.out A1 n1 c1 l1 rfl R1a.out z1 (by omega) HZ3.out ?_)
   intro A4 c4 w4 hc4 hr4 ho4 hb4
   have HB4:Hid (Below w.heap.size w w4):=HB3.out.trans (hb4.mono HBA.out.size)
   have hm4:=(own_caps ho4).2.1
   try simp only [List.append_assoc,List.singleton_append,List.cons_append,List.nil_append] at hr4
   have RB:=Lib.hid hr4
   have HC4:=Lib.hid (And.intro hc4 hm4)
   clear hc4 hr4 ho4 hb4 hm4 O1 O2 O3 R10 R0a R1a HZ2 HZ3 HB1 HB2 HB2' HB3
   obtain ⟨nb,hnb⟩:∃ nb,n0+1+n1=nb:=⟨_,rfl⟩
   have HNB:=Lib.hid hnb
   rw [hnb] at RB HC4 ⊢
   clear hnb
   have HZ:Hid (Below w4.heap.size w4 w4):=Below.refl _ _
   go_wp2_with fail
   have Hr0:Hid (Below w.heap.size w w4):=HB4.out.trans (HZ.out.mono HB4.out.size)
   refine (readRoots_any A0 n0 c0 l0 w4 (R0.out.kept Hr0.out) (by omega) h0 HM.out.1 (HT.out.keep (Range.Keep.of_below (Hr0.out))) (by have:=(Hr0.out).size; omega)).mono ?_
   rintro e rw1 ⟨rA1,rc1,rx,rq1,rfl,e1,k1,i1,j1,z1',b1'⟩
   have rE1:=Lib.hid e1
   have rK1:=Lib.hid k1
   have rI1:=Lib.hid (And.intro (And.intro i1 j1) z1')
   have Hr1:Hid (Below w.heap.size w rw1):=Hr0.out.trans (b1'.mono Hr0.out.size)
   have Gr1:Hid (Below w4.heap.size w4 rw1):=HZ.out.trans (b1'.mono HZ.out.size)
   clear e1 k1 i1 j1 z1' b1'
   go_wp2_with fail
   refine (readRoots_any A1 n1 c1 l1 rw1 (R1.out.kept Hr1.out) (by omega) h1 HM.out.2 (HT.out.keep (Range.Keep.of_below (Hr1.out))) (by have:=(Hr1.out).size; omega)).mono ?_
   rintro e rw2 ⟨rA2,rc2,ry,rq2,rfl,e1,k1,i1,j1,z1',b1'⟩
   have rE2:=Lib.hid e1
   have rK2:=Lib.hid k1
   have rI2:=Lib.hid (And.intro (And.intro i1 j1) z1')
   have Hr2:Hid (Below w.heap.size w rw2):=Hr1.out.trans (b1'.mono Hr1.out.size)
   have Gr2:Hid (Below w4.heap.size w4 rw2):=Gr1.out.trans (b1'.mono Gr1.out.size)
   have Jr2:Hid (Below rw1.heap.size rw1 rw2):=b1'
   clear e1 k1 i1 j1 z1' b1'
   go_wp2_with fail
   refine (readRoots_any A4 nb c4 (l0 ++ 10 :: l1) rw2 (RB.out.kept Gr2.out) (by have:=HNB.out; omega) HC4.out.1 HC4.out.2 (HT.out.keep (Range.Keep.of_below (Hr2.out))) (by have:=(Hr2.out).size; omega)).mono ?_
   rintro e rw3 ⟨rA3,rc3,rz,rq3,rfl,e1,k1,i1,j1,z1',b1'⟩
   have rE3:=Lib.hid e1
   have rK3:=Lib.hid k1
   have Hr3:Hid (Below w.heap.size w rw3):=Hr2.out.trans (b1'.mono Hr2.out.size)
   have Gr3:Hid (Below w4.heap.size w4 rw3):=Gr2.out.trans (b1'.mono Gr2.out.size)
   have Jr3:Hid (Below rw2.heap.size rw2 rw3):=b1'
   clear e1 k1 i1 j1 z1' b1'
   have rL1:Hid (rx.length≤300):=by have:=lenD (a:=l0) (by omega); rw [← rE1.out,List.length_map] at this; exact this
   have rL2:Hid (ry.length≤300):=by have:=lenD (a:=l1) (by omega); rw [← rE2.out,List.length_map] at this; exact this
   have rC:=Lib.hid (both_cases (bothD (a:=l0) (b:=l1) (by omega) (by omega)))
   rw [← rE1.out,← rE2.out,← rE3.out] at rC
   generalize (rootsB l0).1=E at rC ⊢
   generalize (rootsB l1).1=F at rC ⊢
   generalize (rootsB (l0 ++ 10 :: l1)).1=G at rC ⊢
   clear rE1 rE2 rE3
   rcases rC.out with ⟨rfl,rfl,rfl,hz⟩ | ⟨hE,hG⟩ | ⟨rfl,hF,hG⟩
   ·have HZZ:=Lib.hid hz
    clear hz
    go_upto_region 9 with (fail)
    obtain ⟨rv1,rW1,hr1,ho1,hg1⟩:=KR.run_append_k (bytes:=120) Tryd.underlying24 depInfoJ rfl Model.dep_len (by omega) Model.dep_one (rw3.alloc (.cells #[] 53)) 24 rw3.heap.size (.slice (some ⟨rw3.heap.size,0,none⟩) 0 0) 0 [] (World.ownsRow_made (base:=rw3.heap.size) (e:=53) (size:=8) rw3 #[] 0 (Nat.le_refl _) (by unfold maxLen; omega) rfl) rA1 rx.length rc1 rx (rK1.out.row.keep (KeepS.of_below ((Jr2.out.trans (Jr3.out.mono Jr2.out.size)).trans (((Below.refl _ _).alloc (Nat.le_refl _) _).mono (Nat.le_trans Jr2.out.size Jr3.out.size))))) rI1.out.2 (by have:=rL1.out; unfold maxLen; omega) (by have:=rL1.out; omega) (by simp)
    rw [Nat.zero_add,List.nil_append] at ho1
    have hB1:Below rw3.heap.size rw3 rW1:=((Below.refl _ _).alloc (Nat.le_refl _) _).grown hg1 (by simp) fun k hk=>by
     have e:k=rw3.heap.size:=by injection hk with hk; exact hk.symm
     omega
    obtain ⟨rv2,rW2,hr2,ho2,hg2⟩:=KR.run_append_k (bytes:=120) Tryd.underlying24 depInfoJ rfl Model.dep_len (by omega) Model.dep_one rW1 24 rw3.heap.size rv1 rx.length rx ho1 rA2 ry.length rc2 ry (rK2.out.row.keep (KeepS.of_below (Jr3.out.trans (hB1.mono Jr3.out.size)))) rI2.out.2 (by have:=rL1.out; have:=rL2.out; unfold maxLen; omega) (by have:=rL1.out; have:=rL2.out; omega) hB1.size
    have hB2:Below rw3.heap.size rw3 rW2:=hB1.grown hg2 hB1.size fun k hk=>(ho1.lt k hk).1
    obtain ⟨rA5,rc5,rfl,k1,k2,k3⟩:=KRow.of_own (S:=LtB rW2.heap.size) Model.dep_len ho2 (by rw [List.length_append]) (fun g _ h=>h)
    have hzl:rz.length=rx.length+ry.length:=by
     have:=congrArg List.length HZZ.out
     simpa using this
    have HK5:Hid (DRow rW2 (LtB rW2.heap.size) rA5 (rx.length+ry.length) (rx ++ ry)):=by
     refine ⟨k3,fun d hd=>?_⟩
     rcases List.mem_append.1 hd with hd | hd
     ·exact ((rK1.out.ok d hd).keep (KeepS.of_below ((Jr2.out.trans (Jr3.out.mono Jr2.out.size)).trans (hB2.mono (Nat.le_trans Jr2.out.size Jr3.out.size))))).mono fun b g _=>by
       have:=Jr2.out.size; have:=Jr3.out.size; have:=hB2.size
       exact Nat.lt_of_lt_of_le (show b<rw1.heap.size from g) (by omega)
     ·exact ((rK2.out.ok d hd).keep (KeepS.of_below (Jr3.out.trans (hB2.mono Jr3.out.size)))).mono fun b g _=>by
       have:=Jr3.out.size; have:=hB2.size
       exact Nat.lt_of_lt_of_le (show b<rw2.heap.size from g) (by omega)
    have HK3:Hid (DRow rW2 (LtB rW2.heap.size) rA3 (rx.length+ry.length) rz):=by
     rw [← hzl]
     exact ⟨(rK3.out.keep (KeepS.of_below hB2)).row.mono fun b g _=>Nat.lt_of_lt_of_le (show b<rw3.heap.size from g) hB2.size,fun d hd=>((rK3.out.ok d hd).keep (KeepS.of_below hB2)).mono fun b g _=>Nat.lt_of_lt_of_le (show b<rw3.heap.size from g) hB2.size⟩
    have HG:Hid (Below w4.heap.size w4 rW2):=Gr3.out.trans (hB2.mono Gr3.out.size)
    have HEQ:Hid (rz.map MDep.p=(rx ++ ry).map MDep.p):=by unfold Hid; rw [List.map_append]; exact HZZ.out
    rw [hzl]
    have HLL:Hid (rx.length+ry.length≤maxLen):=by have:=rL1.out; have:=rL2.out; unfold Hid maxLen; omega
    clear hB1 hB2 ho1 ho2 hg1 hg2 k1 k2 k3 hzl
    go_wp2_with (first | (refine wpList_ran_if (by rfl) rfl rfl rfl hr1 ?_) | (refine wpList_ran_if (by rfl) rfl rfl rfl hr2 ?_))
    refine (roots_yes rA3 rA5 (rx.length+ry.length) rc3 rc5 rz (rx ++ ry) rW2.heap.size rW2 HK3.out HK5.out HEQ.out (Nat.le_refl _) HLL.out).mono ?_
    rintro e wz ⟨rfl,hb⟩
    clear HZ
    have HZ:Hid (Below w4.heap.size w4 wz):=HG.out.trans (hb.mono HG.out.size)
    clear hb hr1 hr2 HK3 HK5 HEQ HLL HG
    clear Hr0 Hr1 Hr2 Hr3 Gr1 Gr2 Gr3 Jr2 Jr3 rK1 rK2 rK3 rI1 rI2 rL1 rL2 rC
    go_wp2_with fail
    have Hs0:Hid (Below w.heap.size w wz):=HB4.out.trans (HZ.out.mono HB4.out.size)
    refine (readPins_any A0 n0 c0 l0 wz (R0.out.kept Hs0.out) (by omega) h0 HM.out.1).mono ?_
    rintro e sw1 ⟨sA1,sc1,sx,sq1,rfl,e1,k1,i1,j1,z1',b1'⟩
    have sE1:=Lib.hid e1
    have sK1:=Lib.hid k1
    have sI1:=Lib.hid (And.intro (And.intro i1 j1) z1')
    have Hs1:Hid (Below w.heap.size w sw1):=Hs0.out.trans (b1'.mono Hs0.out.size)
    have Gs1:Hid (Below w4.heap.size w4 sw1):=HZ.out.trans (b1'.mono HZ.out.size)
    clear e1 k1 i1 j1 z1' b1'
    go_wp2_with fail
    refine (readPins_any A1 n1 c1 l1 sw1 (R1.out.kept Hs1.out) (by omega) h1 HM.out.2).mono ?_
    rintro e sw2 ⟨sA2,sc2,sy,sq2,rfl,e1,k1,i1,j1,z1',b1'⟩
    have sE2:=Lib.hid e1
    have sK2:=Lib.hid k1
    have sI2:=Lib.hid (And.intro (And.intro i1 j1) z1')
    have Hs2:Hid (Below w.heap.size w sw2):=Hs1.out.trans (b1'.mono Hs1.out.size)
    have Gs2:Hid (Below w4.heap.size w4 sw2):=Gs1.out.trans (b1'.mono Gs1.out.size)
    have Js2:Hid (Below sw1.heap.size sw1 sw2):=b1'
    clear e1 k1 i1 j1 z1' b1'
    go_wp2_with fail
    refine (readPins_any A4 nb c4 (l0 ++ 10 :: l1) sw2 (RB.out.kept Gs2.out) (by have:=HNB.out; omega) HC4.out.1 HC4.out.2).mono ?_
    rintro e sw3 ⟨sA3,sc3,sz,sq3,rfl,e1,k1,i1,j1,z1',b1'⟩
    have sE3:=Lib.hid e1
    have sK3:=Lib.hid k1
    have Hs3:Hid (Below w.heap.size w sw3):=Hs2.out.trans (b1'.mono Hs2.out.size)
    have Gs3:Hid (Below w4.heap.size w4 sw3):=Gs2.out.trans (b1'.mono Gs2.out.size)
    have Js3:Hid (Below sw2.heap.size sw2 sw3):=b1'
    clear e1 k1 i1 j1 z1' b1'
    have sL1:Hid (sx.length≤300):=by have:=lenS (a:=l0) (by omega); rw [← sE1.out,List.length_map] at this; exact this
    have sL2:Hid (sy.length≤300):=by have:=lenS (a:=l1) (by omega); rw [← sE2.out,List.length_map] at this; exact this
    have sC:=Lib.hid (both_cases (bothS (a:=l0) (b:=l1) (by omega) (by omega)))
    rw [← sE1.out,← sE2.out,← sE3.out] at sC
    generalize (pinsB l0).1=E at sC ⊢
    generalize (pinsB l1).1=F at sC ⊢
    generalize (pinsB (l0 ++ 10 :: l1)).1=G at sC ⊢
    clear sE1 sE2 sE3
    rcases sC.out with ⟨rfl,rfl,rfl,hz⟩ | ⟨hE,hG⟩ | ⟨rfl,hF,hG⟩
    ·have HZZ:=Lib.hid hz
     clear hz
     go_upto_region 14 with (fail)
     obtain ⟨sv1,sW1,hr1,ho1,hg1⟩:=KR.run_append_k (bytes:=88) Tryd.underlying29 pinInfo rfl pinlen (by omega) pin_one (sw3.alloc (.cells #[] 60)) 29 sw3.heap.size (.slice (some ⟨sw3.heap.size,0,none⟩) 0 0) 0 [] (World.ownsRow_made (base:=sw3.heap.size) (e:=60) (size:=6) sw3 #[] 0 (Nat.le_refl _) (by unfold maxLen; omega) rfl) sA1 sx.length sc1 sx (sK1.out.row.keep (KeepS.of_below ((Js2.out.trans (Js3.out.mono Js2.out.size)).trans (((Below.refl _ _).alloc (Nat.le_refl _) _).mono (Nat.le_trans Js2.out.size Js3.out.size))))) sI1.out.2 (by have:=sL1.out; unfold maxLen; omega) (by have:=sL1.out; omega) (by simp)
     rw [Nat.zero_add,List.nil_append] at ho1
     have hB1:Below sw3.heap.size sw3 sW1:=((Below.refl _ _).alloc (Nat.le_refl _) _).grown hg1 (by simp) fun k hk=>by
      have e:k=sw3.heap.size:=by injection hk with hk; exact hk.symm
      omega
     obtain ⟨sv2,sW2,hr2,ho2,hg2⟩:=KR.run_append_k (bytes:=88) Tryd.underlying29 pinInfo rfl pinlen (by omega) pin_one sW1 29 sw3.heap.size sv1 sx.length sx ho1 sA2 sy.length sc2 sy (sK2.out.row.keep (KeepS.of_below (Js3.out.trans (hB1.mono Js3.out.size)))) sI2.out.2 (by have:=sL1.out; have:=sL2.out; unfold maxLen; omega) (by have:=sL1.out; have:=sL2.out; omega) hB1.size
     have hB2:Below sw3.heap.size sw3 sW2:=hB1.grown hg2 hB1.size fun k hk=>(ho1.lt k hk).1
     obtain ⟨sA5,sc5,rfl,k1,k2,k3⟩:=KRow.of_own (S:=LtB sW2.heap.size) pinlen ho2 (by rw [List.length_append]) (fun g _ h=>h)
     have hzl:sz.length=sx.length+sy.length:=by
      have:=congrArg List.length HZZ.out
      simpa using this
     have HK5:Hid (SPRow sW2 (LtB sW2.heap.size) sA5 (sx.length+sy.length) (sx ++ sy)):=by
      refine ⟨k3,fun d hd=>?_⟩
      rcases List.mem_append.1 hd with hd | hd
      ·exact ((sK1.out.ok d hd).keep (KeepS.of_below ((Js2.out.trans (Js3.out.mono Js2.out.size)).trans (hB2.mono (Nat.le_trans Js2.out.size Js3.out.size))))).mono fun b g _=>by
        have:=Js2.out.size; have:=Js3.out.size; have:=hB2.size
        exact Nat.lt_of_lt_of_le (show b<sw1.heap.size from g) (by omega)
      ·exact ((sK2.out.ok d hd).keep (KeepS.of_below (Js3.out.trans (hB2.mono Js3.out.size)))).mono fun b g _=>by
        have:=Js3.out.size; have:=hB2.size
        exact Nat.lt_of_lt_of_le (show b<sw2.heap.size from g) (by omega)
     have HK3:Hid (SPRow sW2 (LtB sW2.heap.size) sA3 (sx.length+sy.length) sz):=by
      rw [← hzl]
      exact ⟨(sK3.out.keep (KeepS.of_below hB2)).row.mono fun b g _=>Nat.lt_of_lt_of_le (show b<sw3.heap.size from g) hB2.size,fun d hd=>((sK3.out.ok d hd).keep (KeepS.of_below hB2)).mono fun b g _=>Nat.lt_of_lt_of_le (show b<sw3.heap.size from g) hB2.size⟩
     have HG:Hid (Below w4.heap.size w4 sW2):=Gs3.out.trans (hB2.mono Gs3.out.size)
     have HEQ:Hid (sz.map MPin.p=(sx ++ sy).map MPin.p):=by unfold Hid; rw [List.map_append]; exact HZZ.out
     rw [hzl]
     have HLL:Hid (sx.length+sy.length≤maxLen):=by have:=sL1.out; have:=sL2.out; unfold Hid maxLen; omega
     clear hB1 hB2 ho1 ho2 hg1 hg2 k1 k2 k3 hzl
     go_wp2_with (first | (refine wpList_ran_if (by rfl) rfl rfl rfl hr1 ?_) | (refine wpList_ran_if (by rfl) rfl rfl rfl hr2 ?_))
     refine (pins_yes sA3 sA5 (sx.length+sy.length) sc3 sc5 sz (sx ++ sy) sW2.heap.size sW2 HK3.out HK5.out HEQ.out (Nat.le_refl _) HLL.out).mono ?_
     rintro e wz ⟨rfl,hb⟩
     clear HZ
     have HZ:Hid (Below w4.heap.size w4 wz):=HG.out.trans (hb.mono HG.out.size)
     clear hb hr1 hr2 HK3 HK5 HEQ HLL HG
     clear Hs0 Hs1 Hs2 Hs3 Gs1 Gs2 Gs3 Js2 Js3 sK1 sK2 sK3 sI1 sI2 sL1 sL2 sC
     go_wp2
     go_ret
     exact ⟨rfl,HB4.out.trans (HZ.out.mono HB4.out.size)⟩
    ·have hEb:((E:Int) == 0)=false:=by simp [hE]
     have hGb:((G:Int) == 0)=false:=by simp [hG]
     have hGn:((G:Int) != 0)=true:=by simp [hG]
     clear HZ
     obtain ⟨wz,hwz⟩:∃ wz,sw3=wz:=⟨_,rfl⟩
     have HZ:Hid (Below w4.heap.size w4 wz):=by rw [← hwz]; exact Gs3.out
     rw [hwz]
     clear hwz
     clear Hs0 Hs1 Hs2 Hs3 Gs1 Gs2 Gs3 Js2 Js3 sK1 sK2 sK3 sI1 sI2 sL1 sL2 sC
     go_wp2
     go_ret
     exact ⟨rfl,HB4.out.trans (HZ.out.mono HB4.out.size)⟩
    ·have hFb:((F:Int) == 0)=false:=by simp [hF]
     have hGb:((G:Int) == 0)=false:=by simp [hG]
     have hGn:((G:Int) != 0)=true:=by simp [hG]
     clear HZ
     obtain ⟨wz,hwz⟩:∃ wz,sw3=wz:=⟨_,rfl⟩
     have HZ:Hid (Below w4.heap.size w4 wz):=by rw [← hwz]; exact Gs3.out
     rw [hwz]
     clear hwz
     clear Hs0 Hs1 Hs2 Hs3 Gs1 Gs2 Gs3 Js2 Js3 sK1 sK2 sK3 sI1 sI2 sL1 sL2 sC
     go_wp2
     go_ret
     exact ⟨rfl,HB4.out.trans (HZ.out.mono HB4.out.size)⟩
   ·have hEb:((E:Int) == 0)=false:=by simp [hE]
    have hGb:((G:Int) == 0)=false:=by simp [hG]
    have hGn:((G:Int) != 0)=true:=by simp [hG]
    clear HZ
    obtain ⟨wz,hwz⟩:∃ wz,rw3=wz:=⟨_,rfl⟩
    have HZ:Hid (Below w4.heap.size w4 wz):=by rw [← hwz]; exact Gr3.out
    rw [hwz]
    clear hwz
    clear Hr0 Hr1 Hr2 Hr3 Gr1 Gr2 Gr3 Jr2 Jr3 rK1 rK2 rK3 rI1 rI2 rL1 rL2 rC
    go_wp2_with fail
    have Hs0:Hid (Below w.heap.size w wz):=HB4.out.trans (HZ.out.mono HB4.out.size)
    refine (readPins_any A0 n0 c0 l0 wz (R0.out.kept Hs0.out) (by omega) h0 HM.out.1).mono ?_
    rintro e sw1 ⟨sA1,sc1,sx,sq1,rfl,e1,k1,i1,j1,z1',b1'⟩
    have sE1:=Lib.hid e1
    have sK1:=Lib.hid k1
    have sI1:=Lib.hid (And.intro (And.intro i1 j1) z1')
    have Hs1:Hid (Below w.heap.size w sw1):=Hs0.out.trans (b1'.mono Hs0.out.size)
    have Gs1:Hid (Below w4.heap.size w4 sw1):=HZ.out.trans (b1'.mono HZ.out.size)
    clear e1 k1 i1 j1 z1' b1'
    go_wp2_with fail
    refine (readPins_any A1 n1 c1 l1 sw1 (R1.out.kept Hs1.out) (by omega) h1 HM.out.2).mono ?_
    rintro e sw2 ⟨sA2,sc2,sy,sq2,rfl,e1,k1,i1,j1,z1',b1'⟩
    have sE2:=Lib.hid e1
    have sK2:=Lib.hid k1
    have sI2:=Lib.hid (And.intro (And.intro i1 j1) z1')
    have Hs2:Hid (Below w.heap.size w sw2):=Hs1.out.trans (b1'.mono Hs1.out.size)
    have Gs2:Hid (Below w4.heap.size w4 sw2):=Gs1.out.trans (b1'.mono Gs1.out.size)
    have Js2:Hid (Below sw1.heap.size sw1 sw2):=b1'
    clear e1 k1 i1 j1 z1' b1'
    go_wp2_with fail
    refine (readPins_any A4 nb c4 (l0 ++ 10 :: l1) sw2 (RB.out.kept Gs2.out) (by have:=HNB.out; omega) HC4.out.1 HC4.out.2).mono ?_
    rintro e sw3 ⟨sA3,sc3,sz,sq3,rfl,e1,k1,i1,j1,z1',b1'⟩
    have sE3:=Lib.hid e1
    have sK3:=Lib.hid k1
    have Hs3:Hid (Below w.heap.size w sw3):=Hs2.out.trans (b1'.mono Hs2.out.size)
    have Gs3:Hid (Below w4.heap.size w4 sw3):=Gs2.out.trans (b1'.mono Gs2.out.size)
    have Js3:Hid (Below sw2.heap.size sw2 sw3):=b1'
    clear e1 k1 i1 j1 z1' b1'
    have sL1:Hid (sx.length≤300):=by have:=lenS (a:=l0) (by omega); rw [← sE1.out,List.length_map] at this; exact this
    have sL2:Hid (sy.length≤300):=by have:=lenS (a:=l1) (by omega); rw [← sE2.out,List.length_map] at this; exact this
    have sC:=Lib.hid (both_cases (bothS (a:=l0) (b:=l1) (by omega) (by omega)))
    rw [← sE1.out,← sE2.out,← sE3.out] at sC
    generalize (pinsB l0).1=E at sC ⊢
    generalize (pinsB l1).1=F at sC ⊢
    generalize (pinsB (l0 ++ 10 :: l1)).1=G at sC ⊢
    clear sE1 sE2 sE3
    rcases sC.out with ⟨rfl,rfl,rfl,hz⟩ | ⟨hE,hG⟩ | ⟨rfl,hF,hG⟩
    ·have HZZ:=Lib.hid hz
     clear hz
     go_upto_region 14 with (fail)
     obtain ⟨sv1,sW1,hr1,ho1,hg1⟩:=KR.run_append_k (bytes:=88) Tryd.underlying29 pinInfo rfl pinlen (by omega) pin_one (sw3.alloc (.cells #[] 60)) 29 sw3.heap.size (.slice (some ⟨sw3.heap.size,0,none⟩) 0 0) 0 [] (World.ownsRow_made (base:=sw3.heap.size) (e:=60) (size:=6) sw3 #[] 0 (Nat.le_refl _) (by unfold maxLen; omega) rfl) sA1 sx.length sc1 sx (sK1.out.row.keep (KeepS.of_below ((Js2.out.trans (Js3.out.mono Js2.out.size)).trans (((Below.refl _ _).alloc (Nat.le_refl _) _).mono (Nat.le_trans Js2.out.size Js3.out.size))))) sI1.out.2 (by have:=sL1.out; unfold maxLen; omega) (by have:=sL1.out; omega) (by simp)
     rw [Nat.zero_add,List.nil_append] at ho1
     have hB1:Below sw3.heap.size sw3 sW1:=((Below.refl _ _).alloc (Nat.le_refl _) _).grown hg1 (by simp) fun k hk=>by
      have e:k=sw3.heap.size:=by injection hk with hk; exact hk.symm
      omega
     obtain ⟨sv2,sW2,hr2,ho2,hg2⟩:=KR.run_append_k (bytes:=88) Tryd.underlying29 pinInfo rfl pinlen (by omega) pin_one sW1 29 sw3.heap.size sv1 sx.length sx ho1 sA2 sy.length sc2 sy (sK2.out.row.keep (KeepS.of_below (Js3.out.trans (hB1.mono Js3.out.size)))) sI2.out.2 (by have:=sL1.out; have:=sL2.out; unfold maxLen; omega) (by have:=sL1.out; have:=sL2.out; omega) hB1.size
     have hB2:Below sw3.heap.size sw3 sW2:=hB1.grown hg2 hB1.size fun k hk=>(ho1.lt k hk).1
     obtain ⟨sA5,sc5,rfl,k1,k2,k3⟩:=KRow.of_own (S:=LtB sW2.heap.size) pinlen ho2 (by rw [List.length_append]) (fun g _ h=>h)
     have hzl:sz.length=sx.length+sy.length:=by
      have:=congrArg List.length HZZ.out
      simpa using this
     have HK5:Hid (SPRow sW2 (LtB sW2.heap.size) sA5 (sx.length+sy.length) (sx ++ sy)):=by
      refine ⟨k3,fun d hd=>?_⟩
      rcases List.mem_append.1 hd with hd | hd
      ·exact ((sK1.out.ok d hd).keep (KeepS.of_below ((Js2.out.trans (Js3.out.mono Js2.out.size)).trans (hB2.mono (Nat.le_trans Js2.out.size Js3.out.size))))).mono fun b g _=>by
        have:=Js2.out.size; have:=Js3.out.size; have:=hB2.size
        exact Nat.lt_of_lt_of_le (show b<sw1.heap.size from g) (by omega)
      ·exact ((sK2.out.ok d hd).keep (KeepS.of_below (Js3.out.trans (hB2.mono Js3.out.size)))).mono fun b g _=>by
        have:=Js3.out.size; have:=hB2.size
        exact Nat.lt_of_lt_of_le (show b<sw2.heap.size from g) (by omega)
     have HK3:Hid (SPRow sW2 (LtB sW2.heap.size) sA3 (sx.length+sy.length) sz):=by
      rw [← hzl]
      exact ⟨(sK3.out.keep (KeepS.of_below hB2)).row.mono fun b g _=>Nat.lt_of_lt_of_le (show b<sw3.heap.size from g) hB2.size,fun d hd=>((sK3.out.ok d hd).keep (KeepS.of_below hB2)).mono fun b g _=>Nat.lt_of_lt_of_le (show b<sw3.heap.size from g) hB2.size⟩
     have HG:Hid (Below w4.heap.size w4 sW2):=Gs3.out.trans (hB2.mono Gs3.out.size)
     have HEQ:Hid (sz.map MPin.p=(sx ++ sy).map MPin.p):=by unfold Hid; rw [List.map_append]; exact HZZ.out
     rw [hzl]
     have HLL:Hid (sx.length+sy.length≤maxLen):=by have:=sL1.out; have:=sL2.out; unfold Hid maxLen; omega
     clear hB1 hB2 ho1 ho2 hg1 hg2 k1 k2 k3 hzl
     go_wp2_with (first | (refine wpList_ran_if (by rfl) rfl rfl rfl hr1 ?_) | (refine wpList_ran_if (by rfl) rfl rfl rfl hr2 ?_))
     refine (pins_yes sA3 sA5 (sx.length+sy.length) sc3 sc5 sz (sx ++ sy) sW2.heap.size sW2 HK3.out HK5.out HEQ.out (Nat.le_refl _) HLL.out).mono ?_
     rintro e wz ⟨rfl,hb⟩
     clear HZ
     have HZ:Hid (Below w4.heap.size w4 wz):=HG.out.trans (hb.mono HG.out.size)
     clear hb hr1 hr2 HK3 HK5 HEQ HLL HG
     clear Hs0 Hs1 Hs2 Hs3 Gs1 Gs2 Gs3 Js2 Js3 sK1 sK2 sK3 sI1 sI2 sL1 sL2 sC
     go_wp2
     go_ret
     exact ⟨rfl,HB4.out.trans (HZ.out.mono HB4.out.size)⟩
    ·have hEb:((E:Int) == 0)=false:=by simp [hE]
     have hGb:((G:Int) == 0)=false:=by simp [hG]
     have hGn:((G:Int) != 0)=true:=by simp [hG]
     clear HZ
     obtain ⟨wz,hwz⟩:∃ wz,sw3=wz:=⟨_,rfl⟩
     have HZ:Hid (Below w4.heap.size w4 wz):=by rw [← hwz]; exact Gs3.out
     rw [hwz]
     clear hwz
     clear Hs0 Hs1 Hs2 Hs3 Gs1 Gs2 Gs3 Js2 Js3 sK1 sK2 sK3 sI1 sI2 sL1 sL2 sC
     go_wp2
     go_ret
     exact ⟨rfl,HB4.out.trans (HZ.out.mono HB4.out.size)⟩
    ·have hFb:((F:Int) == 0)=false:=by simp [hF]
     have hGb:((G:Int) == 0)=false:=by simp [hG]
     have hGn:((G:Int) != 0)=true:=by simp [hG]
     clear HZ
     obtain ⟨wz,hwz⟩:∃ wz,sw3=wz:=⟨_,rfl⟩
     have HZ:Hid (Below w4.heap.size w4 wz):=by rw [← hwz]; exact Gs3.out
     rw [hwz]
     clear hwz
     clear Hs0 Hs1 Hs2 Hs3 Gs1 Gs2 Gs3 Js2 Js3 sK1 sK2 sK3 sI1 sI2 sL1 sL2 sC
     go_wp2
     go_ret
     exact ⟨rfl,HB4.out.trans (HZ.out.mono HB4.out.size)⟩
   ·have hFb:((F:Int) == 0)=false:=by simp [hF]
    have hGb:((G:Int) == 0)=false:=by simp [hG]
    have hGn:((G:Int) != 0)=true:=by simp [hG]
    clear HZ
    obtain ⟨wz,hwz⟩:∃ wz,rw3=wz:=⟨_,rfl⟩
    have HZ:Hid (Below w4.heap.size w4 wz):=by rw [← hwz]; exact Gr3.out
    rw [hwz]
    clear hwz
    clear Hr0 Hr1 Hr2 Hr3 Gr1 Gr2 Gr3 Jr2 Jr3 rK1 rK2 rK3 rI1 rI2 rL1 rL2 rC
    go_wp2_with fail
    have Hs0:Hid (Below w.heap.size w wz):=HB4.out.trans (HZ.out.mono HB4.out.size)
    refine (readPins_any A0 n0 c0 l0 wz (R0.out.kept Hs0.out) (by omega) h0 HM.out.1).mono ?_
    rintro e sw1 ⟨sA1,sc1,sx,sq1,rfl,e1,k1,i1,j1,z1',b1'⟩
    have sE1:=Lib.hid e1
    have sK1:=Lib.hid k1
    have sI1:=Lib.hid (And.intro (And.intro i1 j1) z1')
    have Hs1:Hid (Below w.heap.size w sw1):=Hs0.out.trans (b1'.mono Hs0.out.size)
    have Gs1:Hid (Below w4.heap.size w4 sw1):=HZ.out.trans (b1'.mono HZ.out.size)
    clear e1 k1 i1 j1 z1' b1'
    go_wp2_with fail
    refine (readPins_any A1 n1 c1 l1 sw1 (R1.out.kept Hs1.out) (by omega) h1 HM.out.2).mono ?_
    rintro e sw2 ⟨sA2,sc2,sy,sq2,rfl,e1,k1,i1,j1,z1',b1'⟩
    have sE2:=Lib.hid e1
    have sK2:=Lib.hid k1
    have sI2:=Lib.hid (And.intro (And.intro i1 j1) z1')
    have Hs2:Hid (Below w.heap.size w sw2):=Hs1.out.trans (b1'.mono Hs1.out.size)
    have Gs2:Hid (Below w4.heap.size w4 sw2):=Gs1.out.trans (b1'.mono Gs1.out.size)
    have Js2:Hid (Below sw1.heap.size sw1 sw2):=b1'
    clear e1 k1 i1 j1 z1' b1'
    go_wp2_with fail
    refine (readPins_any A4 nb c4 (l0 ++ 10 :: l1) sw2 (RB.out.kept Gs2.out) (by have:=HNB.out; omega) HC4.out.1 HC4.out.2).mono ?_
    rintro e sw3 ⟨sA3,sc3,sz,sq3,rfl,e1,k1,i1,j1,z1',b1'⟩
    have sE3:=Lib.hid e1
    have sK3:=Lib.hid k1
    have Hs3:Hid (Below w.heap.size w sw3):=Hs2.out.trans (b1'.mono Hs2.out.size)
    have Gs3:Hid (Below w4.heap.size w4 sw3):=Gs2.out.trans (b1'.mono Gs2.out.size)
    have Js3:Hid (Below sw2.heap.size sw2 sw3):=b1'
    clear e1 k1 i1 j1 z1' b1'
    have sL1:Hid (sx.length≤300):=by have:=lenS (a:=l0) (by omega); rw [← sE1.out,List.length_map] at this; exact this
    have sL2:Hid (sy.length≤300):=by have:=lenS (a:=l1) (by omega); rw [← sE2.out,List.length_map] at this; exact this
    have sC:=Lib.hid (both_cases (bothS (a:=l0) (b:=l1) (by omega) (by omega)))
    rw [← sE1.out,← sE2.out,← sE3.out] at sC
    generalize (pinsB l0).1=E at sC ⊢
    generalize (pinsB l1).1=F at sC ⊢
    generalize (pinsB (l0 ++ 10 :: l1)).1=G at sC ⊢
    clear sE1 sE2 sE3
    rcases sC.out with ⟨rfl,rfl,rfl,hz⟩ | ⟨hE,hG⟩ | ⟨rfl,hF,hG⟩
    ·have HZZ:=Lib.hid hz
     clear hz
     go_upto_region 14 with (fail)
     obtain ⟨sv1,sW1,hr1,ho1,hg1⟩:=KR.run_append_k (bytes:=88) Tryd.underlying29 pinInfo rfl pinlen (by omega) pin_one (sw3.alloc (.cells #[] 60)) 29 sw3.heap.size (.slice (some ⟨sw3.heap.size,0,none⟩) 0 0) 0 [] (World.ownsRow_made (base:=sw3.heap.size) (e:=60) (size:=6) sw3 #[] 0 (Nat.le_refl _) (by unfold maxLen; omega) rfl) sA1 sx.length sc1 sx (sK1.out.row.keep (KeepS.of_below ((Js2.out.trans (Js3.out.mono Js2.out.size)).trans (((Below.refl _ _).alloc (Nat.le_refl _) _).mono (Nat.le_trans Js2.out.size Js3.out.size))))) sI1.out.2 (by have:=sL1.out; unfold maxLen; omega) (by have:=sL1.out; omega) (by simp)
     rw [Nat.zero_add,List.nil_append] at ho1
     have hB1:Below sw3.heap.size sw3 sW1:=((Below.refl _ _).alloc (Nat.le_refl _) _).grown hg1 (by simp) fun k hk=>by
      have e:k=sw3.heap.size:=by injection hk with hk; exact hk.symm
      omega
     obtain ⟨sv2,sW2,hr2,ho2,hg2⟩:=KR.run_append_k (bytes:=88) Tryd.underlying29 pinInfo rfl pinlen (by omega) pin_one sW1 29 sw3.heap.size sv1 sx.length sx ho1 sA2 sy.length sc2 sy (sK2.out.row.keep (KeepS.of_below (Js3.out.trans (hB1.mono Js3.out.size)))) sI2.out.2 (by have:=sL1.out; have:=sL2.out; unfold maxLen; omega) (by have:=sL1.out; have:=sL2.out; omega) hB1.size
     have hB2:Below sw3.heap.size sw3 sW2:=hB1.grown hg2 hB1.size fun k hk=>(ho1.lt k hk).1
     obtain ⟨sA5,sc5,rfl,k1,k2,k3⟩:=KRow.of_own (S:=LtB sW2.heap.size) pinlen ho2 (by rw [List.length_append]) (fun g _ h=>h)
     have hzl:sz.length=sx.length+sy.length:=by
      have:=congrArg List.length HZZ.out
      simpa using this
     have HK5:Hid (SPRow sW2 (LtB sW2.heap.size) sA5 (sx.length+sy.length) (sx ++ sy)):=by
      refine ⟨k3,fun d hd=>?_⟩
      rcases List.mem_append.1 hd with hd | hd
      ·exact ((sK1.out.ok d hd).keep (KeepS.of_below ((Js2.out.trans (Js3.out.mono Js2.out.size)).trans (hB2.mono (Nat.le_trans Js2.out.size Js3.out.size))))).mono fun b g _=>by
        have:=Js2.out.size; have:=Js3.out.size; have:=hB2.size
        exact Nat.lt_of_lt_of_le (show b<sw1.heap.size from g) (by omega)
      ·exact ((sK2.out.ok d hd).keep (KeepS.of_below (Js3.out.trans (hB2.mono Js3.out.size)))).mono fun b g _=>by
        have:=Js3.out.size; have:=hB2.size
        exact Nat.lt_of_lt_of_le (show b<sw2.heap.size from g) (by omega)
     have HK3:Hid (SPRow sW2 (LtB sW2.heap.size) sA3 (sx.length+sy.length) sz):=by
      rw [← hzl]
      exact ⟨(sK3.out.keep (KeepS.of_below hB2)).row.mono fun b g _=>Nat.lt_of_lt_of_le (show b<sw3.heap.size from g) hB2.size,fun d hd=>((sK3.out.ok d hd).keep (KeepS.of_below hB2)).mono fun b g _=>Nat.lt_of_lt_of_le (show b<sw3.heap.size from g) hB2.size⟩
     have HG:Hid (Below w4.heap.size w4 sW2):=Gs3.out.trans (hB2.mono Gs3.out.size)
     have HEQ:Hid (sz.map MPin.p=(sx ++ sy).map MPin.p):=by unfold Hid; rw [List.map_append]; exact HZZ.out
     rw [hzl]
     have HLL:Hid (sx.length+sy.length≤maxLen):=by have:=sL1.out; have:=sL2.out; unfold Hid maxLen; omega
     clear hB1 hB2 ho1 ho2 hg1 hg2 k1 k2 k3 hzl
     go_wp2_with (first | (refine wpList_ran_if (by rfl) rfl rfl rfl hr1 ?_) | (refine wpList_ran_if (by rfl) rfl rfl rfl hr2 ?_))
     refine (pins_yes sA3 sA5 (sx.length+sy.length) sc3 sc5 sz (sx ++ sy) sW2.heap.size sW2 HK3.out HK5.out HEQ.out (Nat.le_refl _) HLL.out).mono ?_
     rintro e wz ⟨rfl,hb⟩
     clear HZ
     have HZ:Hid (Below w4.heap.size w4 wz):=HG.out.trans (hb.mono HG.out.size)
     clear hb hr1 hr2 HK3 HK5 HEQ HLL HG
     clear Hs0 Hs1 Hs2 Hs3 Gs1 Gs2 Gs3 Js2 Js3 sK1 sK2 sK3 sI1 sI2 sL1 sL2 sC
     go_wp2
     go_ret
     exact ⟨rfl,HB4.out.trans (HZ.out.mono HB4.out.size)⟩
    ·have hEb:((E:Int) == 0)=false:=by simp [hE]
     have hGb:((G:Int) == 0)=false:=by simp [hG]
     have hGn:((G:Int) != 0)=true:=by simp [hG]
     clear HZ
     obtain ⟨wz,hwz⟩:∃ wz,sw3=wz:=⟨_,rfl⟩
     have HZ:Hid (Below w4.heap.size w4 wz):=by rw [← hwz]; exact Gs3.out
     rw [hwz]
     clear hwz
     clear Hs0 Hs1 Hs2 Hs3 Gs1 Gs2 Gs3 Js2 Js3 sK1 sK2 sK3 sI1 sI2 sL1 sL2 sC
     go_wp2
     go_ret
     exact ⟨rfl,HB4.out.trans (HZ.out.mono HB4.out.size)⟩
    ·have hFb:((F:Int) == 0)=false:=by simp [hF]
     have hGb:((G:Int) == 0)=false:=by simp [hG]
     have hGn:((G:Int) != 0)=true:=by simp [hG]
     clear HZ
     obtain ⟨wz,hwz⟩:∃ wz,sw3=wz:=⟨_,rfl⟩
     have HZ:Hid (Below w4.heap.size w4 wz):=by rw [← hwz]; exact Gs3.out
     rw [hwz]
     clear hwz
     clear Hs0 Hs1 Hs2 Hs3 Gs1 Gs2 Gs3 Js2 Js3 sK1 sK2 sK3 sI1 sI2 sL1 sL2 sC
     go_wp2
     go_ret
     exact ⟨rfl,HB4.out.trans (HZ.out.mono HB4.out.size)⟩
  ·have q0:¬ (300:Int)<(n0:Int):=by omega
   have q1:(300:Int)<(n1:Int):=by omega
   go_wp2
   go_ret
   exact ⟨rfl,HBA.out⟩
 ·have q0:(300:Int)<(n0:Int):=by omega
  go_wp2
  go_ret
  exact ⟨rfl,HBA.out⟩
end Go.Proofs.YtgakcdcfblgagaaDoor.Sheet
namespace Go.Proofs.YtgakcdcfblgagaaDoor.Came
open Go.ChangeShapes Go.WideShapes Go.RowKit
theorem bytes_cap {H:Type} {enc:TypeId × Value→H} {W:World} {a:Option Addr} {len cap:Nat} {d:DataW H} {ps:List MemPlace}
  (h:DataW.Trod enc Tryd.prog W 0 (fun _=>true) true 22 (.slice a len cap) d ps):cap≤maxLen:=by
 obtain ⟨fuel,hf⟩:=h
 rcases open_ints Tryd.underlying22 Tryd.underlying5 (by kernel_rfl) hf with ⟨hcs,_⟩ | ⟨x,l,c,zs,hcs,_,hl,hm,hz,_,hcell,hwz⟩
 ·simp [Value.cells] at hcs
  obtain ⟨rfl,rfl,rfl⟩:=hcs
  unfold maxLen
  omega
 ·simp [Value.cells] at hcs
  obtain ⟨rfl,rfl,rfl⟩:=hcs
  exact hm
end Go.Proofs.YtgakcdcfblgagaaDoor.Came
namespace Go.Proofs.YtgakcdcfblgagaaDoor.Sheet
open Go.RowKit Num Ident Semver
open Range (OpsTab)
theorem ops_lt {w:World} (ht:OpsTab w):1<w.heap.size:=by
 have h:=ht 0 (by omega)
 by_cases hl:1<w.heap.size
 ·exact hl
 ·exfalso
  have h2:w.heap[1]?=none:=Array.getElem?_eq_none (by omega)
  simp [World.cell?,h2] at h
end Go.Proofs.YtgakcdcfblgagaaDoor.Sheet
