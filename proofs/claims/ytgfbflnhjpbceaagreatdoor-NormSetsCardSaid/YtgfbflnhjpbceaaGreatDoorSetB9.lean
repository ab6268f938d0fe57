/-
  What the theorem of the last text needs of these: SvText, PrCmp. Conditions: as each theorem states.
-/
import Derived.Test.YtgfbflnhjpbceaaGreatDoorSetB1
import Derived.Test.YtgfbflnhjpbceaaGreatDoorSetB3
import Derived.Test.YtgfbflnhjpbceaaGreatDoorSetB4
import Derived.Test.YtgfbflnhjpbceaaGreatDoorSetB5
import Derived.Test.YtgfbflnhjpbceaaGreatDoorSetB7
import Derived.Test.YtgfbflnhjpbceaaGreatDoorShelfBuild
import Derived.Deep.CutBlock
import Derived.Deep.DeepCutAuto
import Derived.Deep.RegionHeld3
set_option maxRecDepth 100000
set_option maxHeartbeats 25600000
namespace Go.Proofs.YtgfbflnhjpbceaaGreatDoor.Semver
open Go.RowKit Num Ident

def Bld (w:World) (B b:Nat) (l:List UInt8):Prop:=Lib.IsBuilderF 71 5 B b (Lib.byteCells l) w
theorem Bld.new (w:World) (B:Nat) (h:B≤w.heap.size):Bld (w.alloc (.cells #[.pointer none,.slice none 0 0] 71)) B w.heap.size []:=by
 refine .inl ⟨h,.slice none 0 0,?_,World.ownsRowF_nil _ _ _ _,by simp [Value.ownBlock]⟩
 show (w.heap.push _)[w.heap.size]?=_
 simp
theorem atF_kept {w w':World} {B b:Nat} {p:Value} {bs:List Value} (h:Lib.BuilderAtF 71 5 B b p bs w) (hb:Below w.heap.size w w'):Lib.BuilderAtF 71 5 B b p bs w':=by
 obtain ⟨h1,v,h2,h3,h4⟩:=h
 have lt:∀ k o,w.heap[k]?=some o→k<w.heap.size:=fun k o hk=>(Array.getElem?_eq_some_iff.1 hk).1
 refine ⟨h1,v,(hb.block b (lt b _ h2)).trans h2,⟨h3.1,?_⟩,h4⟩
 rcases h3.2 with h5 | ⟨g,cap,cur,fz,e1,e2,e3,e4⟩
 ·exact .inl h5
 ·exact .inr ⟨g,cap,cur,fz,e1,e2,(hb.block g (lt g _ e3)).trans e3,e4⟩
theorem Bld.kept {w w':World} {B b:Nat} {l:List UInt8} (h:Bld w B b l) (hb:Below w.heap.size w w'):Bld w' B b l :=
 h.elim (fun x=>.inl (atF_kept x hb)) (fun x=>.inr (atF_kept x hb))
theorem others_below {w w':World} {b:Option Nat} (hb:Below w.heap.size w w'):Lib.OthersKept 5 b w w' :=
 fun k _ hk _ _=>(hb.block k (Array.getElem?_eq_some_iff.1 hk).1).trans hk
theorem byteCells_length (l:List UInt8):(Lib.byteCells l).length=l.length:=by simp [Lib.byteCells]
theorem byteCells_append (l r:List UInt8):Lib.byteCells (l ++ r)=Lib.byteCells l ++ Lib.byteCells r:=by simp [Lib.byteCells]
def Wrote (w:World) (B b:Nat) (l:List UInt8) (w':World):Prop:=Bld w' B b l∧Below B w w'∧Lib.OthersKept 5 (some b) w w'
theorem writeByte_any (B b:Nat) (l:List UInt8) (c:UInt8) (m:Int) (hm:m=(c.toNat:Int)) (w:World) (h:Bld w B b l) (hl:l.length≤100000000) (hBw:B≤w.heap.size) :
  Calls Tryz.prog 118 #[.pointer (some ⟨b,0,none⟩),.int .u8 m] w fun e w'=>e=.returned .nilIface∧Wrote w B b (l ++ [c]) w':=by
 subst hm
 refine (Tryz.writeByte B b (Lib.byteCells l) (c.toNat:Int) w h (by rw [byteCells_length]; omega) hBw).mono ?_
 rintro e w' ⟨rfl,h1,h2,h3⟩
 exact ⟨rfl,.inr (by rw [byteCells_append]; exact h1),h2,h3⟩
theorem writeString_any (B b:Nat) (l t:List UInt8) (w:World) (h:Bld w B b l) (hl:l.length≤100000000) (ht:t.length≤100000000) (hBw:B≤w.heap.size) :
  Calls Tryz.prog 50 #[.pointer (some ⟨b,0,none⟩),.string (mk t)] w fun e w'=>e=.returned (.tuple #[.int .i64 (mk t).size,.nilIface])∧Wrote w B b (l ++ t) w':=by
 refine (Tryz.writeString B b (Lib.byteCells l) (mk t) w h (by rw [byteCells_length,mk_size]; omega) hBw).mono ?_
 rintro e w' ⟨rfl,h1,h2,h3⟩
 exact ⟨rfl,.inr (by rw [byteCells_append]; exact h1),h2,h3⟩
theorem writeRow_any (B b:Nat) (l:List UInt8) (A:Option Addr) (n c:Nat) (xs:List (List UInt8)) (mb:UInt8) (m:Int) (hm:m=(mb.toNat:Int)) (w0 w:World) (h:Bld w B b l) (hl:l.length≤100000) (hBw:B≤w.heap.size)
  (hr:SRow w0 A n xs) (hb0:Below w0.heap.size w0 w) (hB0:w0.heap.size≤B) (hc:n≤c) (hs:shortB xs=true) :
  Calls Tryz.prog 119 #[.pointer (some ⟨b,0,none⟩),.slice A n c,.int .u8 m] w fun e w'=>e=.returned (.tuple #[])∧Wrote w B b (l ++ rowText mb xs) w':=by
 have hn:=hr.1
 have hn40:n≤40:=by have:=((shortB_iff xs).1 hs).1; omega
 have HN:=Lib.hid hn; clear hn
 by_cases h0:n=0
 ·have HF:=Lib.hid (rowText_none (m:=mb) (xs:=xs) (by rw [HN.out]; exact h0))
  subst h0
  have H:=Lib.hid h
  clear h hr hm
  go_enter Tryz.func119,Tryz.ntmps119
  go_wp2
  go_end0
  exact ⟨rfl,by rw [HF.out,List.append_nil]; exact ⟨H.out,Below.refl _ _,Lib.OthersKept.refl _ _ _⟩⟩
 ·have HF:=Lib.hid (rowText_some (m:=mb) (xs:=xs) (by rw [HN.out]; exact h0))
  have HJ:=Lib.hid (short_joined hs)
  have H:=Lib.hid h
  have HR:=Lib.hid hr
  have HB0:=Lib.hid hb0
  have HS:=Lib.hid hs
  have HM:=Lib.hid hm
  have hpos:0<n:=by omega
  clear h hr hb0 hs h0 hm
  go_enter Tryz.func119,Tryz.ntmps119
  go_wp2_with fail
  refine (writeByte_any B b l mb m HM.out _ H.out (by omega) hBw).mono ?_
  rintro e w1 ⟨rfl,h1,hb1,hk1⟩
  have H1:=Lib.hid h1
  have HB1:=Lib.hid hb1
  have HK1:=Lib.hid hk1
  have HW1:=Lib.hid (HB0.out.trans (hb1.mono hB0))
  have hz1:=hb1.size
  clear h1 hb1 hk1
  go_wp2_with fail
  refine (Ident.text_any _ _ _ xs _ (HR.out.kept HW1.out) hc HS.out).mono ?_
  rintro e w2 ⟨rfl,hb2⟩
  have H2:=Lib.hid (H1.out.kept hb2)
  have HB2:=Lib.hid (HB1.out.trans (hb2.mono (by omega)))
  have HK2:=Lib.hid (HK1.out.trans (others_below (b:=some b) hb2))
  have hz2:=hb2.size
  clear hb2
  go_wp2_with fail
  refine (writeString_any B b (l ++ [mb]) (joined xs) _ H2.out (by rw [List.length_append]; simp; omega) (by have:=HJ.out; omega) (by omega)).mono ?_
  rintro e w3 ⟨rfl,h3,hb3,hk3⟩
  have H3:=Lib.hid h3
  have HB3:=Lib.hid (HB2.out.trans hb3)
  have HK3:=Lib.hid (HK2.out.trans hk3)
  clear h3 hb3 hk3
  go_wp2
  go_end0
  exact ⟨rfl,by rw [HF.out,← List.append_assoc]; exact ⟨H3.out,HB3.out,HK3.out⟩⟩
def TextAt (w:World) (v:Ver) (i:Nat) (w':World):Prop :=
 (i=0∧Bld w' (w.heap.size+1) (w.heap.size+1) [])∨(i=1∧Bld w' (w.heap.size+1) (w.heap.size+1) ([] ++ Lib.decDigits v.a ++ [46]))∨(i=2∧Bld w' (w.heap.size+1) (w.heap.size+1) ([] ++ Lib.decDigits v.a ++ [46] ++ Lib.decDigits v.b ++ [46]))
def TextJ (w:World) (v:Ver) (A:Option Addr) (c:Nat) (B:Option Addr) (d:Nat) (a':Act) (w':World):Prop :=
 ∃ (i bc:Nat) (u6 u7 u8 u9 u10 u11 u12 u13 u14 u15 u16 u17 u18 u19 u20 u21 u22 u23 u24:Value),Below w.heap.size w w'∧At5 w' w.heap.size v.a v.b v.c (.slice A v.pre.length c) (.slice B v.build.length d)∧w'.heap[bc]?=some (.cells #[v.a,v.b,v.c] 99)∧w.heap.size+1<bc∧TextAt w v i w' ∧
  a'={ tmps:=#[.agg #[v.a,v.b,v.c,.slice A v.pre.length c,.slice B v.build.length d],.pointer (some ⟨w.heap.size,0,none⟩),.string ⟨#[]⟩,.pointer (some ⟨w.heap.size+1,0,none⟩),.pointer (some ⟨bc,0,none⟩),.int .i64 i,u6,u7,u8,u9,u10,u11,u12,u13,u14,u15,u16,u17,u18,u19,u20,u21,u22,u23,u24],defers:=[] }
def TextM (a':Act) (_:World):Nat:=3 - (intOf (a'.tmps.getD 5 undef)).toNat
theorem vtext_any (v:Ver) (A:Option Addr) (c:Nat) (B:Option Addr) (d:Nat) (w:World) (ha:v.a<18446744073709551616) (hb:v.b<18446744073709551616) (hc:v.c<18446744073709551616)
  (hr1:SRow w A v.pre.length v.pre) (hr2:SRow w B v.build.length v.build) (hc1:v.pre.length≤c) (hc2:v.build.length≤d) (hs1:shortB v.pre=true) (hs2:shortB v.build=true) (htab:Tab w) :
  Calls Tryz.prog 91 #[.agg #[v.a,v.b,v.c,.slice A v.pre.length c,.slice B v.build.length d]] w fun e w'=>e=.returned (.string (mk (vtext v)))∧Below w.heap.size w w':=by
 have Ha:=Lib.hid ha
 have Hb:=Lib.hid hb
 have Hc:=Lib.hid hc
 have HDa:=Lib.hid (dec_le v.a ha)
 have HDb:=Lib.hid (dec_le v.b hb)
 have HDc:=Lib.hid (dec_le v.c hc)
 have HR1:=Lib.hid hr1
 have HR2:=Lib.hid hr2
 have HS1:=Lib.hid hs1
 have HS2:=Lib.hid hs2
 have HP1:=Lib.hid (rowText_le (m:=45) hs1)
 have HTab:=Lib.hid htab
 clear ha hb hc hr1 hr2 hs1 hs2 htab
 go_enter Tryz.func91,Tryz.ntmps91
 go_wp2
 refine wp_scope_back 0 (TextJ w v A c B d) TextM rfl ?_ ?_
 ·rintro a' w0 ⟨i,bc,u6,u7,u8,u9,u10,u11,u12,u13,u14,u15,u16,u17,u18,u19,u20,u21,u22,u23,u24,hbel,h5,hheap,hbc,hat,rfl⟩
  have HB:=Lib.hid hbel
  have H5:=Lib.hid h5
  have HC:=Lib.hid hheap
  have hz0:=h5.1
  have hzc:bc<w0.heap.size:=(Array.getElem?_eq_some_iff.1 hheap).1
  have hx0:w0.cell? ⟨bc,0,none⟩=some (.int .u64 v.a):=by rw [Lib.cell_of_heap hheap]; rfl
  have hx1:w0.cell? ⟨bc,1,none⟩=some (.int .u64 v.b):=by rw [Lib.cell_of_heap hheap]; rfl
  have hx2:w0.cell? ⟨bc,2,none⟩=some (.int .u64 v.c):=by rw [Lib.cell_of_heap hheap]; rfl
  clear hbel h5 hheap
  rcases hat with ⟨rfl,hl⟩ | ⟨rfl,hl⟩ | ⟨rfl,hl⟩
  ·have HL:=Lib.hid hl; clear hl
   have hlen:([]:List UInt8).length≤1000:=by simp only [List.length_nil]; omega
   have ht:=HTab.out.kept HB.out
   have HT:=Lib.hid ht; clear ht
   go_wp2_with fail
   refine (Num.text_any v.a Ha.out _ HT.out).mono ?_
   rintro e w1 ⟨rfl,hb1⟩
   have hz1:=hb1.size
   have L1:=Lib.hid (HL.out.kept hb1)
   have K1:=Lib.hid ((hb1.block bc (Array.getElem?_eq_some_iff.1 HC.out).1).trans HC.out)
   have Q1:=Lib.hid (H5.out.kept hb1 (by omega))
   have B1:=Lib.hid (HB.out.trans (hb1.mono (by omega)))
   clear hb1 HT HL HC H5 hx0 hx1 hx2
   go_wp2_with fail
   refine (writeString_any _ _ _ (Lib.decDigits v.a) _ L1.out (by have:=hlen; omega) (by have:=HDa.out; omega) (by omega)).mono ?_
   rintro e w2 ⟨rfl,l2,hb2,hk2⟩
   have hz2:=hb2.size
   have L2:=Lib.hid l2
   have K2:=Lib.hid (hk2 _ _ K1.out (by simp; omega) (by intro c fz e; injection e with _ e; exact absurd e (by decide)))
   have Q2:=Lib.hid (Q1.out.kept hb2 (by omega))
   have B2:=Lib.hid (B1.out.trans (hb2.mono (by omega)))
   clear l2 hb2 hk2 L1 K1 Q1 B1
   go_wp2_with fail
   refine (writeByte_any _ _ _ 46 46 rfl _ L2.out (by rw [List.length_append]; have:=hlen; have:=HDa.out; omega) (by omega)).mono ?_
   rintro e w3 ⟨rfl,l3,hb3,hk3⟩
   have hz3:=hb3.size
   have L3:=Lib.hid l3
   have K3:=Lib.hid (hk3 _ _ K2.out (by simp; omega) (by intro c fz e; injection e with _ e; exact absurd e (by decide)))
   have Q3:=Lib.hid (Q2.out.kept hb3 (by omega))
   have B3:=Lib.hid (B2.out.trans (hb3.mono (by omega)))
   clear l3 hb3 hk3 L2 K2 Q2 B2
   go_wp2
   go_step3
   refine ⟨rfl,⟨1,bc,_,_,_,_,_,_,_,_,_,_,_,_,_,_,_,_,_,_,_,B3.out,Q3.out,K3.out,hbc,.inr (.inl ⟨rfl,L3.out⟩),rfl⟩,?_⟩
   simp [TextM,intOf]
  ·have HL:=Lib.hid hl; clear hl
   have hlen:([] ++ Lib.decDigits v.a ++ [46]:List UInt8).length≤1000:=by simp only [List.length_append,List.length_singleton,List.length_nil]; have:=HDa.out; have:=HDb.out; omega
   have ht:=HTab.out.kept HB.out
   have HT:=Lib.hid ht; clear ht
   go_wp2_with fail
   refine (Num.text_any v.b Hb.out _ HT.out).mono ?_
   rintro e w1 ⟨rfl,hb1⟩
   have hz1:=hb1.size
   have L1:=Lib.hid (HL.out.kept hb1)
   have K1:=Lib.hid ((hb1.block bc (Array.getElem?_eq_some_iff.1 HC.out).1).trans HC.out)
   have Q1:=Lib.hid (H5.out.kept hb1 (by omega))
   have B1:=Lib.hid (HB.out.trans (hb1.mono (by omega)))
   clear hb1 HT HL HC H5 hx0 hx1 hx2
   go_wp2_with fail
   refine (writeString_any _ _ _ (Lib.decDigits v.b) _ L1.out (by have:=hlen; omega) (by have:=HDb.out; omega) (by omega)).mono ?_
   rintro e w2 ⟨rfl,l2,hb2,hk2⟩
   have hz2:=hb2.size
   have L2:=Lib.hid l2
   have K2:=Lib.hid (hk2 _ _ K1.out (by simp; omega) (by intro c fz e; injection e with _ e; exact absurd e (by decide)))
   have Q2:=Lib.hid (Q1.out.kept hb2 (by omega))
   have B2:=Lib.hid (B1.out.trans (hb2.mono (by omega)))
   clear l2 hb2 hk2 L1 K1 Q1 B1
   go_wp2_with fail
   refine (writeByte_any _ _ _ 46 46 rfl _ L2.out (by rw [List.length_append]; have:=hlen; have:=HDb.out; omega) (by omega)).mono ?_
   rintro e w3 ⟨rfl,l3,hb3,hk3⟩
   have hz3:=hb3.size
   have L3:=Lib.hid l3
   have K3:=Lib.hid (hk3 _ _ K2.out (by simp; omega) (by intro c fz e; injection e with _ e; exact absurd e (by decide)))
   have Q3:=Lib.hid (Q2.out.kept hb3 (by omega))
   have B3:=Lib.hid (B2.out.trans (hb3.mono (by omega)))
   clear l3 hb3 hk3 L2 K2 Q2 B2
   go_wp2
   go_step3
   refine ⟨rfl,⟨2,bc,_,_,_,_,_,_,_,_,_,_,_,_,_,_,_,_,_,_,_,B3.out,Q3.out,K3.out,hbc,.inr (.inr ⟨rfl,L3.out⟩),rfl⟩,?_⟩
   simp [TextM,intOf]
  ·have HL:=Lib.hid hl; clear hl
   have hlen:([] ++ Lib.decDigits v.a ++ [46] ++ Lib.decDigits v.b ++ [46]:List UInt8).length≤1000:=by simp only [List.length_append,List.length_singleton,List.length_nil]; have:=HDa.out; have:=HDb.out; omega
   have ht:=HTab.out.kept HB.out
   have HT:=Lib.hid ht; clear ht
   go_wp2_with fail
   refine (Num.text_any v.c Hc.out _ HT.out).mono ?_
   rintro e w1 ⟨rfl,hb1⟩
   have hz1:=hb1.size
   have L1:=Lib.hid (HL.out.kept hb1)
   have K1:=Lib.hid ((hb1.block bc (Array.getElem?_eq_some_iff.1 HC.out).1).trans HC.out)
   have Q1:=Lib.hid (H5.out.kept hb1 (by omega))
   have B1:=Lib.hid (HB.out.trans (hb1.mono (by omega)))
   clear hb1 HT HL HC H5 hx0 hx1 hx2
   go_wp2_with fail
   refine (writeString_any _ _ _ (Lib.decDigits v.c) _ L1.out (by have:=hlen; omega) (by have:=HDc.out; omega) (by omega)).mono ?_
   rintro e w2 ⟨rfl,l2,hb2,hk2⟩
   have hz2:=hb2.size
   have L2:=Lib.hid l2
   have K2:=Lib.hid (hk2 _ _ K1.out (by simp; omega) (by intro c fz e; injection e with _ e; exact absurd e (by decide)))
   have Q2:=Lib.hid (Q1.out.kept hb2 (by omega))
   have B2:=Lib.hid (B1.out.trans (hb2.mono (by omega)))
   clear l2 hb2 hk2 L1 K1 Q1 B1
   obtain ⟨_,_,g0,g1,g2,g3,g4⟩:=Q2.out
   have hlen2:([] ++ Lib.decDigits v.a ++ [46] ++ Lib.decDigits v.b ++ [46] ++ Lib.decDigits v.c).length≤1000:=by simp only [List.length_append,List.length_singleton,List.length_nil]; have:=HDa.out; have:=HDb.out; have:=HDc.out; omega
   go_wp2_with fail
   refine (writeRow_any _ _ _ A v.pre.length c v.pre 45 45 rfl w _ L2.out (by omega) (by omega) HR1.out B2.out (by omega) hc1 HS1.out).mono ?_
   rintro e w3 ⟨rfl,l3,hb3,hk3⟩
   have hz3:=hb3.size
   have L3:=Lib.hid l3
   have Q3:=Lib.hid (Q2.out.kept hb3 (by omega))
   have B3:=Lib.hid (B2.out.trans (hb3.mono (by omega)))
   clear l3 hb3 hk3 L2 K2 Q2 B2 g0 g1 g2 g3 g4
   obtain ⟨_,_,g0,g1,g2,g3,g4⟩:=Q3.out
   have hlen3:([] ++ Lib.decDigits v.a ++ [46] ++ Lib.decDigits v.b ++ [46] ++ Lib.decDigits v.c ++ rowText 45 v.pre).length≤20000:=by rw [List.length_append]; have:=HP1.out; omega
   go_wp2_with fail
   refine (writeRow_any _ _ _ B v.build.length d v.build 43 43 rfl w _ L3.out (by omega) (by omega) HR2.out B3.out (by omega) hc2 HS2.out).mono ?_
   rintro e w4 ⟨rfl,l4,hb4,hk4⟩
   have hz4:=hb4.size
   have L4:=Lib.hid l4
   have B4:=Lib.hid (B3.out.trans (hb4.mono (by omega)))
   clear l4 hb4 hk4 L3 Q3 B3 g0 g1 g2 g3 g4 hlen hlen2 hlen3
   have HTX:Hid ([] ++ Lib.decDigits v.a ++ [46] ++ Lib.decDigits v.b ++ [46] ++ Lib.decDigits v.c ++ rowText 45 v.pre ++ rowText 43 v.build=vtext v):=by unfold Hid vtext; rw [List.nil_append]
   generalize [] ++ Lib.decDigits v.a ++ [46] ++ Lib.decDigits v.b ++ [46] ++ Lib.decDigits v.c ++ rowText 45 v.pre ++ rowText 43 v.build=tx at L4 HTX
   go_wp2_with fail
   refine (Tryz.builderString _ _ _ _ L4.out (by omega)).mono ?_
   rintro e w5 ⟨rfl,_,hb5,_⟩
   have B5:=Lib.hid (B4.out.trans (hb5.mono (by omega)))
   clear hb5
   go_wp2
   simp only [Exit.jump]
   go_ret
   exact ⟨by rw [← HTX.out]; rfl,B5.out⟩
 ·intro HP
  have H5:=Lib.hid (At5.new w 25 v.a v.b v.c (.slice A v.pre.length c) (.slice B v.build.length d))
  have HN:=Bld.new (w.alloc (.cells #[v.a,v.b,v.c,.slice A v.pre.length c,.slice B v.build.length d] 25)) (w.heap.size+1) (by simp)
  rw [size_alloc] at HN
  have HBN:=Lib.hid HN; clear HN
  go_wp2_with fail
  refine (coreOf_any _ _ _ _ _ _).mono ?_
  rintro e w1 ⟨rfl,hb1⟩
  have hz1:w.heap.size+2≤w1.heap.size:=by have:=hb1.size; simpa using this
  have HBa:Hid (Below w.heap.size w ((w.alloc (.cells #[v.a,v.b,v.c,.slice A v.pre.length c,.slice B v.build.length d] 25)).alloc (.cells #[.pointer none,.slice none 0 0] 71))):=((Below.refl _ _).alloc (Nat.le_refl _) _).alloc (by simp) _
  have HBb:=Lib.hid (HBa.out.trans (hb1.mono (by simp; omega)))
  have H5b:=Lib.hid ((H5.out.kept ((Below.refl _ _).alloc (Nat.le_refl _) (.cells #[.pointer none,.slice none 0 0] 71)) (by simp)).kept hb1 (by simp; omega))
  have HLb:=Lib.hid (HBN.out.kept hb1)
  have HBc:=Lib.hid ((Below.refl w1.heap.size w1).alloc (Nat.le_refl _) (.cells #[v.a,v.b,v.c] 99))
  have HBd:=Lib.hid (HBb.out.trans (HBc.out.mono (by omega)))
  have H5d:=Lib.hid (H5b.out.kept HBc.out (by omega))
  have HLd:=Lib.hid (HLb.out.kept HBc.out)
  have HCd:Hid ((w1.alloc (.cells #[v.a,v.b,v.c] 99)).heap[w1.heap.size]?=some (.cells #[v.a,v.b,v.c] 99)):=by
   show (w1.heap.push _)[w1.heap.size]?=_
   simp
  clear hb1 H5 HBN HBa HBb H5b HLb HBc
  go_wp2
  go_step3
  rename_i hK
  exact hK _ _ (HP.out _ _ ⟨0,w1.heap.size,_,_,_,_,_,_,_,_,_,_,_,_,_,_,_,_,_,_,_,HBd.out,H5d.out,HCd.out,by omega,.inl ⟨rfl,HLd.out⟩,rfl⟩)
end Go.Proofs.YtgfbflnhjpbceaaGreatDoor.Semver
namespace Go.Proofs.YtgfbflnhjpbceaaGreatDoor.Prec
open Go.RowKit Num Ident Semver

def Fit (xs:List (List UInt8)):Prop:=xs.length≤maxLen∧∀ x ∈ xs,x.length≤maxLen
theorem Fit.nil:Fit []:=⟨by unfold maxLen; simp,fun x hx=>by simp at hx⟩
theorem Fit.zero:Fit [[48]]:=⟨by unfold maxLen; simp,fun x hx=>by simp at hx; subst hx; unfold maxLen; simp⟩
theorem releases_anyD (A:Option Addr) (ca:Nat) (xs:List (List UInt8)) (B:Option Addr) (cb:Nat) (ys:List (List UInt8)) (w:World) (hA:SRow w A xs.length xs) (hB:SRow w B ys.length ys) (fx:Fit xs) (fy:Fit ys) :
  Calls Tryz.prog 131 #[.slice A xs.length ca,.slice B ys.length cb] w fun e w'=>e=.returned (.int .i64 (cmpPre xs ys))∧BelowD w.heap.size w w':=by
 have HA:=Lib.hid hA
 have HB:=Lib.hid hB
 have FX:=Lib.hid fx
 have FY:=Lib.hid fy
 have hx:=fx.1
 have hy:=fy.1
 unfold maxLen at hx hy
 clear hA hB fx fy
 by_cases h1:xs.length=0
 ·by_cases h2:ys.length=0
  ·have HF:=Lib.hid (cmpPre_rows (x:=xs) (y:=ys) ⟨fun _=>h2,fun _=>h1⟩)
   have K:Hid (∀ W,W=w→Calls Tryz.prog 151 #[.slice A xs.length ca,.slice B ys.length cb] W fun e w'=>e=.returned (.int .i64 (cmpPre xs ys))∧BelowD w.heap.size w w'):=by
    rintro W rfl; rw [HF.out]; exact rows_anyD A _ ca xs B _ cb ys W HA.out HB.out FX.out.1 FY.out.1 FX.out.2 FY.out.2
   rw [h1,h2] at K
   clear HF
   go_enter Tryz.func131,Tryz.ntmps131
   go_wp2_with fail
   refine (K.out _ rfl).mono ?_
   rintro e w1 ⟨rfl,hb1⟩
   go_wp2
   go_ret
   exact ⟨rfl,hb1⟩
  ·have HF:=Lib.hid (cmpPre_one h1 h2)
   have h3:0<ys.length:=by omega
   go_enter Tryz.func131,Tryz.ntmps131
   go_wp2
   go_ret
   exact ⟨by rw [HF.out]; rfl,BelowD.refl _ _⟩
 ·have h3:0<xs.length:=by omega
  by_cases h2:ys.length=0
  ·have HF:=Lib.hid (cmpPre_two h1 h2)
   go_enter Tryz.func131,Tryz.ntmps131
   go_wp2
   go_ret
   exact ⟨by rw [HF.out]; rfl,BelowD.refl _ _⟩
  ·have h4:0<ys.length:=by omega
   have HF:=Lib.hid (cmpPre_rows (x:=xs) (y:=ys) ⟨fun h=>absurd h h1,fun h=>absurd h h2⟩)
   have K:Hid (∀ W,W=w→Calls Tryz.prog 151 #[.slice A xs.length ca,.slice B ys.length cb] W fun e w'=>e=.returned (.int .i64 (cmpPre xs ys))∧BelowD w.heap.size w w'):=by
    rintro W rfl; rw [HF.out]; exact rows_anyD A _ ca xs B _ cb ys W HA.out HB.out FX.out.1 FY.out.1 FX.out.2 FY.out.2
   clear HF
   go_enter Tryz.func131,Tryz.ntmps131
   go_wp2_with fail
   refine (K.out _ rfl).mono ?_
   rintro e w1 ⟨rfl,hb1⟩
   go_wp2
   go_ret
   exact ⟨rfl,hb1⟩
theorem compare_anyD (u v:Ver) (A1 A2 B1 B2:Option Addr) (c1 c2 d1 d2:Nat) (w:World) (r1:SRow w A1 u.pre.length u.pre) (q1:SRow w B1 v.pre.length v.pre) (f1:Fit u.pre) (g1:Fit v.pre) :
  Calls Tryz.prog 110 #[.agg #[u.a,u.b,u.c,.slice A1 u.pre.length c1,.slice A2 u.build.length c2],.agg #[v.a,v.b,v.c,.slice B1 v.pre.length d1,.slice B2 v.build.length d2]] w fun e w'=>e=.returned (.int .i64 (cmpV u v))∧BelowD w.heap.size w w':=by
 have HB0:Hid (BelowD w.heap.size w ((w.alloc (.cells #[u.a,u.b,u.c,.slice A1 u.pre.length c1,.slice A2 u.build.length c2] 25)).alloc (.cells #[v.a,v.b,v.c,.slice B1 v.pre.length d1,.slice B2 v.build.length d2] 25))):=((BelowD.refl _ _).alloc (Nat.le_refl _) _).alloc (by simp) _
 have K1:Hid (At5 ((w.alloc (.cells #[u.a,u.b,u.c,.slice A1 u.pre.length c1,.slice A2 u.build.length c2] 25)).alloc (.cells #[v.a,v.b,v.c,.slice B1 v.pre.length d1,.slice B2 v.build.length d2] 25)) w.heap.size u.a u.b u.c (.slice A1 u.pre.length c1) (.slice A2 u.build.length c2)):=(At5.new w 25 _ _ _ _ _).kept ((Below.refl _ _).alloc (Nat.le_refl _) _) (by simp)
 have K2:Hid (At5 ((w.alloc (.cells #[u.a,u.b,u.c,.slice A1 u.pre.length c1,.slice A2 u.build.length c2] 25)).alloc (.cells #[v.a,v.b,v.c,.slice B1 v.pre.length d1,.slice B2 v.build.length d2] 25)) (w.heap.size+1) v.a v.b v.c (.slice B1 v.pre.length d1) (.slice B2 v.build.length d2)):=by
  have:=At5.new (w.alloc (.cells #[u.a,u.b,u.c,.slice A1 u.pre.length c1,.slice A2 u.build.length c2] 25)) 25 v.a v.b v.c (.slice B1 v.pre.length d1) (.slice B2 v.build.length d2)
  rw [size_alloc] at this; exact this
 have R1:=Lib.hid r1
 have Q1:=Lib.hid q1
 have F1:=Lib.hid f1
 have G1:=Lib.hid g1
 clear r1 q1 f1 g1
 have HF:Hid (cmpV u v=if cmpCore u v=0 then cmpPre u.pre v.pre else cmpCore u v):=rfl
 have HC:Hid (∀ W,Calls Tryz.prog 130 #[.agg #[u.a,u.b,u.c],.agg #[v.a,v.b,v.c]] W fun e w'=>e=.returned (.int .i64 (cmpCore u v))∧BelowD W.heap.size W w'):=fun W=>cores_anyD u v W
 generalize cmpCore u v=c at HF HC
 go_enter Tryz.func110,Tryz.ntmps110
 go_upto_region 1 with (fail)
 generalize ((w.alloc (.cells #[u.a,u.b,u.c,.slice A1 u.pre.length c1,.slice A2 u.build.length c2] 25)).alloc (.cells #[v.a,v.b,v.c,.slice B1 v.pre.length d1,.slice B2 v.build.length d2] 25))=W at HB0 K1 K2 ⊢
 have hz:=K2.out.1
 have hw:=HB0.out.size
 have D0:=Lib.hid (BelowD.refl W.heap.size W).drew
 have D1:=Lib.hid (D0.out.mono (B':=w.heap.size) hw)
 refine wp_region_held_drew (S:=fun w'=>(w'.cell? ⟨w.heap.size,0,none⟩=some (.int .u64 u.a)∧w'.cell? ⟨w.heap.size,1,none⟩=some (.int .u64 u.b)∧w'.cell? ⟨w.heap.size,2,none⟩=some (.int .u64 u.c)∧w'.cell? ⟨w.heap.size,3,none⟩=some (.slice A1 u.pre.length c1)∧w'.cell? ⟨w.heap.size,4,none⟩=some (.slice A2 u.build.length c2))∧(w'.cell? ⟨(w.heap.size+1),0,none⟩=some (.int .u64 v.a)∧w'.cell? ⟨(w.heap.size+1),1,none⟩=some (.int .u64 v.b)∧w'.cell? ⟨(w.heap.size+1),2,none⟩=some (.int .u64 v.c)∧w'.cell? ⟨(w.heap.size+1),3,none⟩=some (.slice B1 v.pre.length d1)∧w'.cell? ⟨(w.heap.size+1),4,none⟩=some (.slice B2 v.build.length d2))) (by kernel_rfl) ⟨K1.out.2.2,K2.out.2.2⟩ (fun hHeld=>?_)
 refine tk 0 rfl (.agg #[u.a,u.b,u.c,.slice A1 u.pre.length c1,.slice A2 u.build.length c2]) ?_
 refine tk 2 rfl (.agg #[v.a,v.b,v.c,.slice B1 v.pre.length d1,.slice B2 v.build.length d2]) ?_
 refine cl 1 rfl fun K hK=>?_
 go_simp
 refine (coreOf_anyD _ _ _ _ _ _).mono ?_
 rintro e w2 ⟨rfl,hb2⟩
 have L1:=Lib.hid ((K1.out.kept D0.out.toBelow (by omega)).kept hb2.toBelow (by simp; omega))
 have L2:=Lib.hid ((K2.out.kept D0.out.toBelow (by omega)).kept hb2.toBelow (by simp; omega))
 have B2:=Lib.hid ((HB0.out.trans D1.out).trans (hb2.mono (by simp; omega)))
 have hz2:W.heap.size≤w2.heap.size:=by have:=hb2.size; simpa using this
 clear hb2
 refine hK.out _ _ ⟨L1.out.2.2,L2.out.2.2⟩ (fun hHeld=>?_)
 clear hK K
 try simp only [Act.put,p1,p2,p3]
 refine cl 3 rfl fun K hK=>?_
 go_simp
 refine (coreOf_anyD _ _ _ _ _ _).mono ?_
 rintro e w3 ⟨rfl,hb3⟩
 have M1:=Lib.hid (L1.out.kept hb3.toBelow (by omega))
 have M2:=Lib.hid (L2.out.kept hb3.toBelow (by omega))
 have B3:=Lib.hid (B2.out.trans (hb3.mono (by omega)))
 have hz3:=hb3.size
 clear hb3
 refine hK.out _ _ ⟨M1.out.2.2,M2.out.2.2⟩ (fun hHeld=>?_)
 clear hK K
 try simp only [Act.put,p1,p2,p3]
 refine cl 4 rfl fun K hK=>?_
 go_simp
 refine (HC.out _).mono ?_
 rintro e w4 ⟨rfl,hb4⟩
 have N1:=Lib.hid (M1.out.kept hb4.toBelow (by omega))
 have N2:=Lib.hid (M2.out.kept hb4.toBelow (by omega))
 have B4:=Lib.hid (B3.out.trans (hb4.mono (by omega)))
 have hz4:=hb4.size
 clear hb4
 refine hK.out _ _ ⟨N1.out.2.2,N2.out.2.2⟩ (fun hHeld=>?_)
 clear hK K
 try simp only [Act.put,p1,p2,p3]
 refine tk 5 rfl (.int .i64 c) ?_
 refine wpAnyH_done (by kernel_rfl) ?_ _
 clear hHeld
 by_cases hc:c=0
 ·have HF2:Hid (cmpPre u.pre v.pre=cmpV u v):=by have:=HF.out; rw [if_pos hc] at this; exact this.symm
  have KR:Hid (∀ W',W'=w4→Calls Tryz.prog 131 #[.slice A1 u.pre.length c1,.slice B1 v.pre.length d1] W' fun e w'=>e=.returned (.int .i64 (cmpV u v))∧BelowD w4.heap.size w4 w'):=by
   rintro W' rfl; rw [← HF2.out]; exact releases_anyD A1 c1 u.pre B1 d1 v.pre W' (R1.out.kept B4.out.toBelow) (Q1.out.kept B4.out.toBelow) F1.out G1.out
  subst hc
  obtain ⟨_,_,x0,x1,x2,x3,x4⟩:=N1.out
  obtain ⟨_,_,y0,y1,y2,y3,y4⟩:=N2.out
  clear HF HF2
  go_wp2_with fail
  refine (KR.out _ rfl).mono ?_
  rintro e w5 ⟨rfl,hb5⟩
  have B5:=Lib.hid (B4.out.trans (hb5.mono (by omega)))
  clear hb5
  go_wp2
  go_ret
  exact ⟨rfl,B5.out⟩
 ·have HF2:Hid (cmpV u v=c):=by have:=HF.out; rw [if_neg hc] at this; exact this
  have hn:(c == 0)=false:=by simp [hc]
  have hn2:(c != 0)=true:=by simp [hc]
  clear HF hc
  go_wp2
  go_ret
  exact ⟨by rw [HF2.out]; rfl,B4.out⟩
theorem compare_any (u v:Ver) (A1 A2 B1 B2:Option Addr) (c1 c2 d1 d2:Nat) (w:World) (r1:SRow w A1 u.pre.length u.pre) (q1:SRow w B1 v.pre.length v.pre) (f1:Fit u.pre) (g1:Fit v.pre) :
  Calls Tryz.prog 110 #[.agg #[u.a,u.b,u.c,.slice A1 u.pre.length c1,.slice A2 u.build.length c2],.agg #[v.a,v.b,v.c,.slice B1 v.pre.length d1,.slice B2 v.build.length d2]] w fun e w'=>e=.returned (.int .i64 (cmpV u v))∧Below w.heap.size w w':=dropD (compare_anyD u v A1 A2 B1 B2 c1 c2 d1 d2 w r1 q1 f1 g1)
end Go.Proofs.YtgfbflnhjpbceaaGreatDoor.Prec
