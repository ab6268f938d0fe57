/-
  What the theorem of the last text needs of these: MoCopyR, MoChk, MoSortS, MoRelease. Conditions: as each theorem states.
-/
import Derived.Test.YtgakcdcfblgagaaGreatDoorRoA1
import Derived.Test.YtgakcdcfblgagaaGreatDoorRoA13
import Derived.Test.YtgakcdcfblgagaaGreatDoorRoA29
import Derived.Shelf.Abstract
import Derived.Test.YtgakcdcfblgagaaGreatDoorShelfIns
set_option maxRecDepth 100000
set_option maxHeartbeats 25600000
namespace Go.Proofs.YtgakcdcfblgagaaGreatDoor.Copy
open Go.RowKit Num Ident Semver Fr
open Range (Rng noRng RV Lies RgRow CellsAt KeepS LtB InS FitV)
open KR (KRow AtV)
open Model (MDep MVer MRel MPack DepOk VerOk RelOk PackOk DRow RRow PRow FewD FewRel FewX SlOk)
def Is (W:World) (b:Nat) (E:TypeId):Prop:=∃ cur,W.heap[b]?=some (.cells cur E (0,0))
theorem Is.set {W:World} {b:Nat} {E:TypeId} (h:Is W b E) (g o:Nat) (v:Value):Is (W.setCell ⟨g,o,none⟩ v) b E:=by
 obtain ⟨cur,h⟩:=h
 by_cases e:g=b
 ·subst e
  exact ⟨_,heap_setCell_same W g o cur E v h⟩
 ·exact ⟨cur,(heap_setCell_other W ⟨g,o,none⟩ b v (fun q=>e q.symm)).trans h⟩
theorem Is.below {W W':World} {b:Nat} {E:TypeId} (h:Is W b E) (hb:Below W.heap.size W W'):Is W' b E:=by
 obtain ⟨cur,h⟩:=h
 exact ⟨cur,(hb.block b (Array.getElem?_eq_some_iff.1 h).1).trans h⟩
theorem Is.not {W:World} {b B:Nat} {E:TypeId} (h:Is W b E) (hE:E≠9) (hB:B≤b):Not W B b:=by
 obtain ⟨cur,h⟩:=h
 refine ⟨hB,fun cur' q=>?_⟩
 rw [h] at q
 injection q with q
 injection q with _ q
 exact hE q
theorem Is.lt {W:World} {b:Nat} {E:TypeId} (h:Is W b E):b<W.heap.size:=by
 obtain ⟨cur,h⟩:=h
 exact (Array.getElem?_eq_some_iff.1 h).1
def S0 (w:World) (B:Nat) (b:Nat):Prop:=Aside w B b∧b≠w.heap.size∧b≠w.heap.size+1
theorem S0.up {w W:World} {B b:Nat} {E:TypeId} (hb:Below w.heap.size w W) (hB:B≤w.heap.size) (hE:E≠9) (h1:Is W w.heap.size E) (h2:Is W (w.heap.size+1) E) (h:Aside W B b):S0 w B b :=
 ⟨h.up hb,h _ h1.lt (h1.not hE hB),h _ h2.lt (h2.not hE (by omega))⟩
theorem S0.new {w:World} {B b:Nat} (h:w.heap.size+2≤b):S0 w B b:=⟨Aside.new (by omega),by omega,by omega⟩
theorem S0.keep1 {w W W':World} {B:Nat} (h:But (fun k=>k=w.heap.size+1) W W'):KeepS (S0 w B) W W':=keep_but h fun _ hg e=>hg.2.2 e
theorem S0.keep0 {w W W':World} {B:Nat} (h:But (fun k=>k=w.heap.size) W W'):KeepS (S0 w B) W W':=keep_but h fun _ hg e=>hg.2.1 e
theorem own_ins {w:World} {base:Nat} {A:Option Addr} {n c:Nat} {xs:List Value} {S:Nat→Prop} (h:w.ownsRow base 9 1 (.slice A n c) n xs) (hS:∀ g,base≤g→S g):InS S A n:=fun h0=>by
 rcases h.2 with ⟨e,h1⟩ | ⟨g,cp,cur,e,hg,hh,_⟩
 ·omega
 ·injection e with e1 _ _
  exact ⟨g,0,e1,hS g hg⟩
theorem copy_drow {W W':World} {B:Nat} {l cs:List MDep} {v:Value} (h:Copied MDep.vals 8 67 MDep.p DepOk W B l l.length v cs W'):∃ A c,v=.slice A cs.length c∧DRow W' (Aside W B) A cs.length cs∧(cs.length≤c∧c≤maxLen)∧(A=none→c=0):=by
 have ho:=h.own
 rw [← h.len] at ho
 obtain ⟨A,c,e,h1,h2,h3⟩:=KRow.of_own Model.dep_len ho rfl (S:=Aside W B) fun g hg _=>Aside.new hg
 obtain ⟨A',c',e',h4,h5,h6⟩:=own_slice ho
 rw [e] at e'
 injection e' with _ _ e'
 subst e'
 exact ⟨A,c,e,⟨h3,fun d hd=>(h.all d hd).mono fun b hb _=>hb.1⟩,⟨h1,h5⟩,h2⟩
theorem dep_one_post (x:MDep) (B:Nat) (W:World) (hx:DepOk W (LtB B) x) (hf:x.name.length≤300∧(Nrm.Slim x.r→Nrm.tot x.r≤12)) (hB:B≤W.heap.size):Calls Tryz.prog 101 (#[x.agg] ++ #[]) W (OnePost MDep.agg MDep.p DepOk W B x):=by
 rw [Array.append_empty]
 refine (copiedDep_any (Ident.mk x.name) x.r x.x B W hx.lies hB (hf.2 hx.slim)).mono ?_
 rintro e w' ⟨y,rfl,hy,hb⟩
 exact ⟨⟨x.name,x.r,y⟩,rfl,rfl,⟨hx.short,hy,hx.len,hx.slim⟩,hb⟩
theorem copyDeps_any (A:Option Addr) (n c:Nat) (l:List MDep) (B:Nat) (w:World) (hl:DRow w (LtB B) A n l) (hf:FewD l) (hB:B≤w.heap.size) :
  Calls Tryz.prog 100 #[.slice A n c,.func (.func 101) #[] #[]] w (CopyPost MDep.vals 8 67 MDep.p DepOk w B l) :=
 copiedDep_list 101 #[] (enters_of Tryz.func101 (by kernel_rfl) rfl) A n c l (LtB B) B w hl.row (by have:=hf.1; have:=hl.row.1; omega) hB
  fun W x hx hb=>dep_one_post x B W ((hl.ok x hx).keep (KeepS.of_below hb)) (hf.2 x hx) (Nat.le_trans hB hb.size)
theorem copiedRelease_any (r:MRel) (B:Nat) (w:World) (hr:RelOk w (LtB B) r) (hf:FewRel r) (hB:B≤w.heap.size) :
  Calls Tryz.prog 47 #[r.agg] w (OnePost MRel.agg MRel.p RelOk w B r):=by
 obtain ⟨W0,hW,hv,hz,hb,hsz⟩:=two_new w [.int .u64 r.ver.v.a,.int .u64 r.ver.v.b,.int .u64 r.ver.v.c,.slice r.ver.A r.ver.v.pre.length r.ver.c,.slice r.ver.B r.ver.v.build.length r.ver.d,.bool r.yanked,.slice r.N r.needs.length r.nc,.slice r.B r.bans.length r.bc] [.int .u64 0,.int .u64 0,.int .u64 0,.slice none 0 0,.slice none 0 0,.bool false,.slice none 0 0,.slice none 0 0] 46 46
 have hi0:Is W0 w.heap.size 46:=by
  rw [hW]
  exact Is.below (W:=w.alloc (.cells _ 46)) ⟨_,heap_alloc_new _ _⟩ ((Below.refl _ _).alloc (Nat.le_refl _) _)
 have hi1:Is W0 (w.heap.size+1) 46:=by
  rw [hW]
  have h:=heap_alloc_new (w.alloc (.cells ([.int .u64 r.ver.v.a,.int .u64 r.ver.v.b,.int .u64 r.ver.v.c,.slice r.ver.A r.ver.v.pre.length r.ver.c,.slice r.ver.B r.ver.v.build.length r.ver.d,.bool r.yanked,.slice r.N r.needs.length r.nc,.slice r.B r.bans.length r.bc]:List Value).toArray 46)) (.cells ([.int .u64 0,.int .u64 0,.int .u64 0,.slice none 0 0,.slice none 0 0,.bool false,.slice none 0 0,.slice none 0 0]:List Value).toArray 46)
  rw [size_alloc] at h
  exact ⟨_,h⟩
 have HV:=Lib.hid hv
 have HZ:=Lib.hid hz
 have HB:=Lib.hid hb
 have HS:=Lib.hid hsz
 have HR:=Lib.hid hr
 have HF:=Lib.hid hf
 have HLB:=Lib.hid hB
 have HI:=Lib.hid (And.intro hi0 hi1)
 clear hv hz hb hsz hr hf hB hi0 hi1
 obtain ⟨rb,hrb⟩:∃ rb,w.heap.size=rb:=⟨_,rfl⟩
 unfold MRel.agg
 go_enter Tryz.func47,Tryz.ntmps47
 go_upto_region 1 with (fail)
 rw [← hW]
 rw [hrb] at HZ HV
 try rw [hrb]
 clear hW
 have q0:=HV.out.at_ 0 _ rfl
 have q1:=HV.out.at_ 1 _ rfl
 have q2:=HV.out.at_ 2 _ rfl
 have q3:=HV.out.at_ 3 _ rfl
 have q4:=HV.out.at_ 4 _ rfl
 have q5:=HV.out.at_ 5 _ rfl
 have q6:=HV.out.at_ 6 _ rfl
 have q7:=HV.out.at_ 7 _ rfl
 have hvl:rb<W0.heap.size:=HV.out.lt
 have hvf:=HV.out.fr
 go_wp2_with fail
 have hr0:=HR.out.keep (KeepS.of_below (S:=LtB B) HB.out)
 refine (copiedVersion_any r.ver.v r.ver.A r.ver.c r.ver.B r.ver.d _ hr0.ver.pre hr0.ver.build (by have:=HF.out.1; omega) (by have:=HF.out.2.1; omega)).mono ?_
 rintro e W1 ⟨A1,e1,B1,d1,rfl,oA,oB,hb⟩
 clear hr0
 have HX1:Hid (VerOk W1 (S0 w B) ⟨r.ver.v,A1,e1,B1,d1⟩):=⟨(own_srow oA).1,(own_srow oB).1,own_ins oA (fun g hg=>S0.new (by have:=HS.out; omega)),own_ins oB (fun g hg=>S0.new (by have:=HS.out; omega)),(own_srow oA).2,(own_srow oB).2,HR.out.ver.fit⟩
 have HV1:=Lib.hid (HV.out.kept hb HV.out.lt)
 have HZ1:=Lib.hid (HZ.out.kept hb HZ.out.lt)
 have HI1:Hid (Is W1 w.heap.size 46∧Is W1 (w.heap.size+1) 46):=⟨HI.out.1.below hb,HI.out.2.below hb⟩
 have HB1:=Lib.hid (HB.out.trans (hb.mono HB.out.size))
 clear hb oA oB q0 q1 q2 q3 q4 q5 q6 q7 hvl hvf HV HZ HI HB
 have q0:=HV1.out.at_ 0 _ rfl
 have q1:=HV1.out.at_ 1 _ rfl
 have q2:=HV1.out.at_ 2 _ rfl
 have q3:=HV1.out.at_ 3 _ rfl
 have q4:=HV1.out.at_ 4 _ rfl
 have q5:=HV1.out.at_ 5 _ rfl
 have q6:=HV1.out.at_ 6 _ rfl
 have q7:=HV1.out.at_ 7 _ rfl
 have hvl:rb<W1.heap.size:=HV1.out.lt
 have hvf:=HV1.out.fr
 go_upto_region 2 with (fail)
 have HV2:Hid (AtV (((((W1.setCell ⟨rb,0,none⟩ r.ver.v.a).setCell ⟨rb,1,none⟩ r.ver.v.b).setCell ⟨rb,2,none⟩ r.ver.v.c).setCell ⟨rb,3,none⟩ (.slice A1 r.ver.v.pre.length e1)).setCell ⟨rb,4,none⟩ (.slice B1 r.ver.v.build.length d1)) rb [.int .u64 r.ver.v.a,.int .u64 r.ver.v.b,.int .u64 r.ver.v.c,.slice A1 r.ver.v.pre.length e1,.slice B1 r.ver.v.build.length d1,.bool r.yanked,.slice r.N r.needs.length r.nc,.slice r.B r.bans.length r.bc]):=atv_set (atv_set (atv_set (atv_set (atv_set HV1.out 0 _ (by simp)) 1 _ (by simp)) 2 _ (by simp)) 3 _ (by simp)) 4 _ (by simp)
 have hs2:But (fun k=>k=rb) W1 (((((W1.setCell ⟨rb,0,none⟩ r.ver.v.a).setCell ⟨rb,1,none⟩ r.ver.v.b).setCell ⟨rb,2,none⟩ r.ver.v.c).setCell ⟨rb,3,none⟩ (.slice A1 r.ver.v.pre.length e1)).setCell ⟨rb,4,none⟩ (.slice B1 r.ver.v.build.length d1)):=but_fill W1 rb [.int .u64 r.ver.v.a,.int .u64 r.ver.v.b,.int .u64 r.ver.v.c,.slice A1 r.ver.v.pre.length e1,.slice B1 r.ver.v.build.length d1] 0
 have HI2:Hid (Is (((((W1.setCell ⟨rb,0,none⟩ r.ver.v.a).setCell ⟨rb,1,none⟩ r.ver.v.b).setCell ⟨rb,2,none⟩ r.ver.v.c).setCell ⟨rb,3,none⟩ (.slice A1 r.ver.v.pre.length e1)).setCell ⟨rb,4,none⟩ (.slice B1 r.ver.v.build.length d1)) w.heap.size 46∧Is (((((W1.setCell ⟨rb,0,none⟩ r.ver.v.a).setCell ⟨rb,1,none⟩ r.ver.v.b).setCell ⟨rb,2,none⟩ r.ver.v.c).setCell ⟨rb,3,none⟩ (.slice A1 r.ver.v.pre.length e1)).setCell ⟨rb,4,none⟩ (.slice B1 r.ver.v.build.length d1)) (w.heap.size+1) 46):=⟨((((HI1.out.1.set _ _ _).set _ _ _).set _ _ _).set _ _ _).set _ _ _,((((HI1.out.2.set _ _ _).set _ _ _).set _ _ _).set _ _ _).set _ _ _⟩
 have HZ2:=Lib.hid (atv_but HZ1.out hs2 (by omega))
 have HB2:Hid (Below w.heap.size w (((((W1.setCell ⟨rb,0,none⟩ r.ver.v.a).setCell ⟨rb,1,none⟩ r.ver.v.b).setCell ⟨rb,2,none⟩ r.ver.v.c).setCell ⟨rb,3,none⟩ (.slice A1 r.ver.v.pre.length e1)).setCell ⟨rb,4,none⟩ (.slice B1 r.ver.v.build.length d1))):=HB1.out.trans (hs2.below (B:=w.heap.size) (fun k e=>by omega) HB1.out.size)
 have HX2:Hid (VerOk (((((W1.setCell ⟨rb,0,none⟩ r.ver.v.a).setCell ⟨rb,1,none⟩ r.ver.v.b).setCell ⟨rb,2,none⟩ r.ver.v.c).setCell ⟨rb,3,none⟩ (.slice A1 r.ver.v.pre.length e1)).setCell ⟨rb,4,none⟩ (.slice B1 r.ver.v.build.length d1)) (S0 w B) ⟨r.ver.v,A1,e1,B1,d1⟩):=HX1.out.keep (S0.keep0 (by rw [hrb]; exact hs2))
 clear q0 q1 q2 q3 q4 q5 q6 q7 hvl hvf hs2 HV1 HZ1 HB1 HX1 HI1
 generalize (((((W1.setCell ⟨rb,0,none⟩ r.ver.v.a).setCell ⟨rb,1,none⟩ r.ver.v.b).setCell ⟨rb,2,none⟩ r.ver.v.c).setCell ⟨rb,3,none⟩ (.slice A1 r.ver.v.pre.length e1)).setCell ⟨rb,4,none⟩ (.slice B1 r.ver.v.build.length d1))=W2 at HV2 HZ2 HB2 HX2 HI2 ⊢
 have q0:=HV2.out.at_ 0 _ rfl
 have q1:=HV2.out.at_ 1 _ rfl
 have q2:=HV2.out.at_ 2 _ rfl
 have q3:=HV2.out.at_ 3 _ rfl
 have q4:=HV2.out.at_ 4 _ rfl
 have q5:=HV2.out.at_ 5 _ rfl
 have q6:=HV2.out.at_ 6 _ rfl
 have q7:=HV2.out.at_ 7 _ rfl
 have hvl:rb<W2.heap.size:=HV2.out.lt
 have hvf:=HV2.out.fr
 go_wp2_with fail
 refine (copyDeps_any r.N r.needs.length r.nc r.needs B W2 (HR.out.needs.keep (KeepS.of_below HB2.out)) HF.out.2.2.1 (Nat.le_trans HLB.out HB2.out.size)).mono ?_
 rintro e W3 ⟨v3,ns,rfl,hc⟩
 have hb:=hc.bel
 have HNP:Hid (ns.map MDep.p=r.needs.map MDep.p):=hc.map
 obtain ⟨A3,c3,rfl,hn3,hc3,hz3⟩:=copy_drow hc
 have HNC:Hid ((ns.length≤c3∧c3≤maxLen)∧(A3=none→c3=0)):=⟨hc3,hz3⟩
 have HN3:Hid (DRow W3 (S0 w B) A3 ns.length ns):=hn3.mono fun b hq _=>S0.up HB2.out HLB.out (by decide) HI2.out.1 HI2.out.2 hq
 have HV3:=Lib.hid (HV2.out.kept hb HV2.out.lt)
 have HZ3:=Lib.hid (HZ2.out.kept hb HZ2.out.lt)
 have HI3:Hid (Is W3 w.heap.size 46∧Is W3 (w.heap.size+1) 46):=⟨HI2.out.1.below hb,HI2.out.2.below hb⟩
 have HB3:=Lib.hid (HB2.out.trans (hb.mono HB2.out.size))
 have HX3:=Lib.hid (HX2.out.keep (KeepS.of_below hb))
 clear hb hc hn3 hc3 hz3 q0 q1 q2 q3 q4 q5 q6 q7 hvl hvf HV2 HZ2 HI2 HB2 HX2
 have q0:=HV3.out.at_ 0 _ rfl
 have q1:=HV3.out.at_ 1 _ rfl
 have q2:=HV3.out.at_ 2 _ rfl
 have q3:=HV3.out.at_ 3 _ rfl
 have q4:=HV3.out.at_ 4 _ rfl
 have q5:=HV3.out.at_ 5 _ rfl
 have q6:=HV3.out.at_ 6 _ rfl
 have q7:=HV3.out.at_ 7 _ rfl
 have hvl:rb<W3.heap.size:=HV3.out.lt
 have hvf:=HV3.out.fr
 go_upto_region 3 with (fail)
 have HV4:Hid (AtV (W3.setCell ⟨rb,6,none⟩ (.slice A3 ns.length c3)) rb [.int .u64 r.ver.v.a,.int .u64 r.ver.v.b,.int .u64 r.ver.v.c,.slice A1 r.ver.v.pre.length e1,.slice B1 r.ver.v.build.length d1,.bool r.yanked,.slice A3 ns.length c3,.slice r.B r.bans.length r.bc]):=atv_set HV3.out 6 _ (by simp)
 have hs4:But (fun k=>k=rb) W3 (W3.setCell ⟨rb,6,none⟩ (.slice A3 ns.length c3)):=But.one W3 rb 6 _
 have HI4:Hid (Is (W3.setCell ⟨rb,6,none⟩ (.slice A3 ns.length c3)) w.heap.size 46∧Is (W3.setCell ⟨rb,6,none⟩ (.slice A3 ns.length c3)) (w.heap.size+1) 46):=⟨HI3.out.1.set _ _ _,HI3.out.2.set _ _ _⟩
 have HZ4:=Lib.hid (atv_but HZ3.out hs4 (by omega))
 have HB4:Hid (Below w.heap.size w (W3.setCell ⟨rb,6,none⟩ (.slice A3 ns.length c3))):=HB3.out.trans (hs4.below (B:=w.heap.size) (fun k e=>by omega) HB3.out.size)
 have hks:KeepS (S0 w B) W3 (W3.setCell ⟨rb,6,none⟩ (.slice A3 ns.length c3)):=S0.keep0 (by rw [hrb]; exact hs4)
 have HX4:=Lib.hid (HX3.out.keep hks)
 have HN4:=Lib.hid (HN3.out.keep hks)
 clear q0 q1 q2 q3 q4 q5 q6 q7 hvl hvf hs4 hks HV3 HZ3 HB3 HX3 HI3 HN3
 generalize W3.setCell ⟨rb,6,none⟩ (.slice A3 ns.length c3)=W4 at HV4 HZ4 HB4 HX4 HI4 HN4 ⊢
 have q0:=HV4.out.at_ 0 _ rfl
 have q1:=HV4.out.at_ 1 _ rfl
 have q2:=HV4.out.at_ 2 _ rfl
 have q3:=HV4.out.at_ 3 _ rfl
 have q4:=HV4.out.at_ 4 _ rfl
 have q5:=HV4.out.at_ 5 _ rfl
 have q6:=HV4.out.at_ 6 _ rfl
 have q7:=HV4.out.at_ 7 _ rfl
 have hvl:rb<W4.heap.size:=HV4.out.lt
 have hvf:=HV4.out.fr
 go_wp2_with fail
 refine (copyDeps_any r.B r.bans.length r.bc r.bans B W4 (HR.out.bans.keep (KeepS.of_below HB4.out)) HF.out.2.2.2 (Nat.le_trans HLB.out HB4.out.size)).mono ?_
 rintro e W5 ⟨v5,bs,rfl,hc⟩
 have hb:=hc.bel
 have HBP:Hid (bs.map MDep.p=r.bans.map MDep.p):=hc.map
 obtain ⟨A5,c5,rfl,hn5,hc5,hz5⟩:=copy_drow hc
 have HBC:Hid ((bs.length≤c5∧c5≤maxLen)∧(A5=none→c5=0)):=⟨hc5,hz5⟩
 have HM5:Hid (DRow W5 (S0 w B) A5 bs.length bs):=hn5.mono fun b hq _=>S0.up HB4.out HLB.out (by decide) HI4.out.1 HI4.out.2 hq
 have HV5:=Lib.hid (HV4.out.kept hb HV4.out.lt)
 have HZ5:=Lib.hid (HZ4.out.kept hb HZ4.out.lt)
 have HB5:=Lib.hid (HB4.out.trans (hb.mono HB4.out.size))
 have HX5:=Lib.hid (HX4.out.keep (KeepS.of_below hb))
 have HN5:=Lib.hid (HN4.out.keep (KeepS.of_below hb))
 clear hb hc hn5 hc5 hz5 q0 q1 q2 q3 q4 q5 q6 q7 hvl hvf HV4 HZ4 HI4 HB4 HX4 HN4
 have q0:=HV5.out.at_ 0 _ rfl
 have q1:=HV5.out.at_ 1 _ rfl
 have q2:=HV5.out.at_ 2 _ rfl
 have q3:=HV5.out.at_ 3 _ rfl
 have q4:=HV5.out.at_ 4 _ rfl
 have q5:=HV5.out.at_ 5 _ rfl
 have q6:=HV5.out.at_ 6 _ rfl
 have q7:=HV5.out.at_ 7 _ rfl
 have hvl:rb<W5.heap.size:=HV5.out.lt
 have hvf:=HV5.out.fr
 go_upto_region 4 with (fail)
 have HV6:Hid (AtV (W5.setCell ⟨rb,7,none⟩ (.slice A5 bs.length c5)) rb [.int .u64 r.ver.v.a,.int .u64 r.ver.v.b,.int .u64 r.ver.v.c,.slice A1 r.ver.v.pre.length e1,.slice B1 r.ver.v.build.length d1,.bool r.yanked,.slice A3 ns.length c3,.slice A5 bs.length c5]):=atv_set HV5.out 7 _ (by simp)
 have hs6:But (fun k=>k=rb) W5 (W5.setCell ⟨rb,7,none⟩ (.slice A5 bs.length c5)):=But.one W5 rb 7 _
 have HZ6:=Lib.hid (atv_but HZ5.out hs6 (by omega))
 have HB6:Hid (Below w.heap.size w (W5.setCell ⟨rb,7,none⟩ (.slice A5 bs.length c5))):=HB5.out.trans (hs6.below (B:=w.heap.size) (fun k e=>by omega) HB5.out.size)
 have hks:KeepS (S0 w B) W5 (W5.setCell ⟨rb,7,none⟩ (.slice A5 bs.length c5)):=S0.keep0 (by rw [hrb]; exact hs6)
 have HX6:=Lib.hid (HX5.out.keep hks)
 have HN6:=Lib.hid (HN5.out.keep hks)
 have HM6:=Lib.hid (HM5.out.keep hks)
 clear q0 q1 q2 q3 q4 q5 q6 q7 hvl hvf hs6 hks HV5 HZ5 HB5 HX5 HN5 HM5
 generalize W5.setCell ⟨rb,7,none⟩ (.slice A5 bs.length c5)=W6 at HV6 HZ6 HB6 HX6 HN6 HM6 ⊢
 have q0:=HV6.out.at_ 0 _ rfl
 have q1:=HV6.out.at_ 1 _ rfl
 have q2:=HV6.out.at_ 2 _ rfl
 have q3:=HV6.out.at_ 3 _ rfl
 have q4:=HV6.out.at_ 4 _ rfl
 have q5:=HV6.out.at_ 5 _ rfl
 have q6:=HV6.out.at_ 6 _ rfl
 have q7:=HV6.out.at_ 7 _ rfl
 have hvl:rb<W6.heap.size:=HV6.out.lt
 have hvf:=HV6.out.fr
 have z0:=HZ6.out.at_ 0 _ rfl
 have z1:=HZ6.out.at_ 1 _ rfl
 have z2:=HZ6.out.at_ 2 _ rfl
 have z3:=HZ6.out.at_ 3 _ rfl
 have z4:=HZ6.out.at_ 4 _ rfl
 have z5:=HZ6.out.at_ 5 _ rfl
 have z6:=HZ6.out.at_ 6 _ rfl
 have z7:=HZ6.out.at_ 7 _ rfl
 have hzl:rb+1<W6.heap.size:=HZ6.out.lt
 have hzf:=HZ6.out.fr
 go_wp2
 have HA7:Hid (AtV ((((((((W6.setCell ⟨rb+1,0,none⟩ r.ver.v.a).setCell ⟨rb+1,1,none⟩ r.ver.v.b).setCell ⟨rb+1,2,none⟩ r.ver.v.c).setCell ⟨rb+1,3,none⟩ (.slice A1 r.ver.v.pre.length e1)).setCell ⟨rb+1,4,none⟩ (.slice B1 r.ver.v.build.length d1)).setCell ⟨rb+1,5,none⟩ (.bool r.yanked)).setCell ⟨rb+1,6,none⟩ (.slice A3 ns.length c3)).setCell ⟨rb+1,7,none⟩ (.slice A5 bs.length c5)) (rb+1) [.int .u64 r.ver.v.a,.int .u64 r.ver.v.b,.int .u64 r.ver.v.c,.slice A1 r.ver.v.pre.length e1,.slice B1 r.ver.v.build.length d1,.bool r.yanked,.slice A3 ns.length c3,.slice A5 bs.length c5]):=atv_fill HZ6.out [.int .u64 r.ver.v.a,.int .u64 r.ver.v.b,.int .u64 r.ver.v.c,.slice A1 r.ver.v.pre.length e1,.slice B1 r.ver.v.build.length d1,.bool r.yanked,.slice A3 ns.length c3,.slice A5 bs.length c5] 0 rfl
 have HB7:Hid (But (fun k=>k=rb+1) W6 ((((((((W6.setCell ⟨rb+1,0,none⟩ r.ver.v.a).setCell ⟨rb+1,1,none⟩ r.ver.v.b).setCell ⟨rb+1,2,none⟩ r.ver.v.c).setCell ⟨rb+1,3,none⟩ (.slice A1 r.ver.v.pre.length e1)).setCell ⟨rb+1,4,none⟩ (.slice B1 r.ver.v.build.length d1)).setCell ⟨rb+1,5,none⟩ (.bool r.yanked)).setCell ⟨rb+1,6,none⟩ (.slice A3 ns.length c3)).setCell ⟨rb+1,7,none⟩ (.slice A5 bs.length c5))):=but_fill W6 (rb+1) [.int .u64 r.ver.v.a,.int .u64 r.ver.v.b,.int .u64 r.ver.v.c,.slice A1 r.ver.v.pre.length e1,.slice B1 r.ver.v.build.length d1,.bool r.yanked,.slice A3 ns.length c3,.slice A5 bs.length c5] 0
 clear q0 q1 q2 q3 q4 q5 q6 q7 z0 z1 z2 z3 z4 z5 z6 z7 hvl hvf hzl hzf
 generalize ((((((((W6.setCell ⟨rb+1,0,none⟩ r.ver.v.a).setCell ⟨rb+1,1,none⟩ r.ver.v.b).setCell ⟨rb+1,2,none⟩ r.ver.v.c).setCell ⟨rb+1,3,none⟩ (.slice A1 r.ver.v.pre.length e1)).setCell ⟨rb+1,4,none⟩ (.slice B1 r.ver.v.build.length d1)).setCell ⟨rb+1,5,none⟩ (.bool r.yanked)).setCell ⟨rb+1,6,none⟩ (.slice A3 ns.length c3)).setCell ⟨rb+1,7,none⟩ (.slice A5 bs.length c5))=W7 at HA7 HB7 ⊢
 have y0:=HA7.out.at_ 0 _ rfl
 have y1:=HA7.out.at_ 1 _ rfl
 have y2:=HA7.out.at_ 2 _ rfl
 have y3:=HA7.out.at_ 3 _ rfl
 have y4:=HA7.out.at_ 4 _ rfl
 have y5:=HA7.out.at_ 5 _ rfl
 have y6:=HA7.out.at_ 6 _ rfl
 have y7:=HA7.out.at_ 7 _ rfl
 have hks:KeepS (S0 w B) W6 W7:=S0.keep1 (by rw [hrb]; exact HB7.out)
 have hbw:Below w.heap.size w W7:=HB6.out.trans (HB7.out.below (B:=w.heap.size) (fun k e=>by omega) HB6.out.size)
 refine bodyPost_ret (v:=.agg #[r.ver.v.a,r.ver.v.b,r.ver.v.c,.slice A1 r.ver.v.pre.length e1,.slice B1 r.ver.v.build.length d1,.bool r.yanked,.slice A3 ns.length c3,.slice A5 bs.length c5]) (by simp [results,Tryz.results47,go_sem,y0,y1,y2,y3,y4,y5,y6,y7]) rfl ⟨⟨⟨r.ver.v,A1,e1,B1,d1⟩,r.yanked,A3,c3,ns,A5,c5,bs⟩,rfl,?_,?_,hbw⟩
 ·show (⟨r.ver.v,r.yanked,ns.map MDep.p,bs.map MDep.p⟩:Model.PRel)=⟨r.ver.v,r.yanked,r.needs.map MDep.p,r.bans.map MDep.p⟩
  rw [HNP.out,HBP.out]
 ·exact (⟨HX6.out.keep hks,HN6.out.keep hks,HM6.out.keep hks,HNC.out.1,HBC.out.1,HNC.out.2,HBC.out.2⟩:RelOk W7 (S0 w B) ⟨⟨r.ver.v,A1,e1,B1,d1⟩,r.yanked,A3,c3,ns,A5,c5,bs⟩).mono fun b hb _=>hb.1
theorem rel_one_post (x:MRel) (B:Nat) (W:World) (hx:RelOk W (LtB B) x) (hf:FewRel x) (hB:B≤W.heap.size):Calls Tryz.prog 47 (#[x.agg] ++ #[]) W (OnePost MRel.agg MRel.p RelOk W B x):=by
 rw [Array.append_empty]
 exact copiedRelease_any x B W hx hf hB
theorem copyRels_any (A:Option Addr) (n c:Nat) (l:List MRel) (B:Nat) (w:World) (hl:RRow w (LtB B) A n l) (hn:n≤6) (hf:∀ r ∈ l,FewRel r) (hB:B≤w.heap.size) :
  Calls Tryz.prog 46 #[.slice A n c,.func (.func 47) #[] #[]] w (CopyPost MRel.vals 8 46 MRel.p RelOk w B l) :=
 copiedRelease_list 47 #[] (enters_of Tryz.func47 (by kernel_rfl) rfl) A n c l (LtB B) B w hl.row (by omega) hB
  fun W x hx hb=>rel_one_post x B W ((hl.ok x hx).keep (KeepS.of_below hb)) (hf x hx) (Nat.le_trans hB hb.size)
end Go.Proofs.YtgakcdcfblgagaaGreatDoor.Copy
namespace Go.Proofs.YtgakcdcfblgagaaGreatDoor.Model
open Go.RowKit Num Ident Semver Fr
open Range (Rng noRng RV KeepS LtB LenOk goodR wt)
open KR (KRow AtV)
open Name (isName)
open Nrm (hasR inV)
def packK (x:List (List UInt8)) (p:PPack):Int × Int × Int:=if isName p.name=false then (-1,-1,12) else if p.name ∈ x then (-1,-1,6) else out3 (firstG (relF p.name p.rels) 0 p.rels)
theorem packK_name {x:List (List UInt8)} {p:PPack} (h:isName p.name=false):packK x p=(-1,-1,12):=by unfold packK; rw [if_pos h]
theorem packK_there {x:List (List UInt8)} {p:PPack} (h:isName p.name=true) (g:p.name ∈ x):packK x p=(-1,-1,6):=by unfold packK; rw [if_neg (by rw [h]; decide),if_pos g]
theorem packK_rels {x:List (List UInt8)} {p:PPack} (h:isName p.name=true) (g:p.name ∉ x):packK x p=out3 (firstG (relF p.name p.rels) 0 p.rels):=by unfold packK; rw [if_neg (by rw [h]; decide),if_neg g]
theorem relF_ne {pn:List UInt8} {l:List PRel} {k:Nat} {r:PRel} {q:Int × Int} (h:relF pn l k r=some q):q.2≠0:=by
 unfold relF at h
 split at h
 ·injection h with h; subst h; decide
 ·split at h
  ·injection h with h; subst h; decide
  ·obtain ⟨p,hp,rfl⟩:=Option.map_eq_some_iff.1 h
   exact (firstE_some (g:=fun j d=>banE pn r.v r.needs.length j d) hp).1
theorem firstG_at {α β:Type} (f:Nat→α→Option β):∀ (l:List α) (m:Nat) (q:Nat × β),firstG f m l=some q→∃ k x,f k x=some q.2
 | [],_,_,h=>by cases h
 | x :: l,m,q,h=>by
  rw [firstG] at h
  cases hx:f m x with
  | some b=>rw [hx] at h; injection h with h; subst h; exact ⟨m,x,hx⟩
  | none=>rw [hx] at h; exact firstG_at f l (m+1) q h
theorem packK_zero {x:List (List UInt8)} {p:PPack} (h:(packK x p).2.2=0):packK x p=(-1,-1,0)∧firstG (relF p.name p.rels) 0 p.rels=none:=by
 unfold packK at h ⊢
 by_cases h1:isName p.name=false
 ·rw [if_pos h1] at h; cases h
 ·rw [if_neg h1] at h ⊢
  by_cases h2:p.name ∈ x
  ·rw [if_pos h2] at h; cases h
  ·rw [if_neg h2] at h ⊢
   cases hd:firstG (relF p.name p.rels) 0 p.rels with
   | none=>exact ⟨rfl,rfl⟩
   | some q =>
    rw [hd] at h
    obtain ⟨k,r,hr⟩:=firstG_at _ _ _ _ hd
    exact absurd h (relF_ne hr)
theorem packK_some {x:List (List UInt8)} {l:List PPack} {k:Nat} {p:PPack} (hv:p.name ∈ x↔nameB PPack.name l k=true):packF l k p=if (packK x p).2.2=0 then none else some (packK x p):=by
 unfold packF
 by_cases h1:isName p.name=false
 ·rw [if_pos h1,packK_name h1]; rfl
 ·have hg:isName p.name=true:=by rwa [Bool.not_eq_false] at h1
  rw [if_neg h1]
  by_cases h2:nameB PPack.name l k=true
  ·rw [if_pos h2,packK_there hg (hv.2 h2)]; rfl
  ·rw [if_neg h2,packK_rels hg (fun g=>h2 (hv.1 g))]
   cases hd:firstG (relF p.name p.rels) 0 p.rels with
   | none=>rfl
   | some q =>
    obtain ⟨k,r,hr⟩:=firstG_at _ _ _ _ hd
    have:=relF_ne hr
    show some ((q.1:Int),q.2.1,q.2.2)=if q.2.2=0 then none else some ((q.1:Int),q.2.1,q.2.2)
    rw [if_neg this]
structure PackPost1 (x:List (List UInt8)) (s:List UInt8) (mb wb:Nat) (q:Int × Int × Int) (w:World) (e:Ending) (w':World):Prop where
 out:e=.returned (.int .i64 q.2.2)
 dep:AtV w' wb [.int .i64 (-1),.int .i64 q.1,.int .i64 q.2.1]
 seen:q.2.2=0→SeenAt w' mb (x ++ [s])
 but:But (fun b=>b=mb∨b=wb) w w'
theorem pack1_any (p:MPack) (sb wb mb:Nat) (x:List (List UInt8)) (B:Nat) (w:World) (hp:PackOk w (LtB B) p) (hf:∀ r ∈ p.rels,FewRel r) (hn:p.rels.length≤6) (hs:AtV w sb [.map (some mb)]) (hd:AtV w wb [.int .i64 (-1),.int .i64 (-1),.int .i64 (-1)]) (hx:SeenAt w mb x) (hxl:x.length≤1000)
  (hne:sb≠mb∧sb≠wb∧wb≠mb) (hml:B≤mb∧B≤wb) (hB:B≤w.heap.size) (w0:World) (ht:Tab w0) (hw0:Below w0.heap.size w0 w) (hmw:w0.heap.size≤mb∧w0.heap.size≤wb) :
  Calls Tryz.prog 105 #[p.agg,.pointer (some ⟨sb,0,none⟩),.pointer (some ⟨wb,0,none⟩)] w (PackPost1 x p.name mb wb (packK x p.p) w):=by
 have HF:=Lib.hid hf
 have HNE:=Lib.hid hne
 have HML:=Lib.hid hml
 have HE1:=Lib.hid (fun h=>packK_name (x:=x) (p:=p.p) h)
 have HE2:=Lib.hid (fun h g=>packK_there (x:=x) (p:=p.p) h g)
 have HE3:=Lib.hid (fun h g=>packK_rels (x:=x) (p:=p.p) h g)
 obtain ⟨W0,hW,hav,hb0⟩:∃ W,W=w.alloc (.cells #[.string (Ident.mk p.name),.slice p.R p.rels.length p.rc] 48)∧AtV W w.heap.size [.string (Ident.mk p.name),.slice p.R p.rels.length p.rc]∧Below w.heap.size w W:=⟨_,rfl,AtV.new w _ _,(Below.refl _ _).alloc (Nat.le_refl _) _⟩
 have HAV:=Lib.hid hav
 have HB0:Hid (But (fun b=>b=mb∨b=wb) w W0):=But.of_same hb0 _
 have HP0:=Lib.hid (hp.keep (KeepS.of_below (S:=LtB B) hb0))
 have HS0:=Lib.hid (hs.kept hb0 hs.lt)
 have HD0:=Lib.hid (hd.kept hb0 hd.lt)
 have HX0:=Lib.hid (hx.kept hb0 hx.lt)
 have HT:Hid (∀ W',But (fun b=>b=mb∨b=wb) w W'→Tab W'):=fun W' h=>ht.kept (hw0.trans (h.below (B:=w0.heap.size) (fun k e=>by omega) hw0.size))
 have HL0:Hid (B≤W0.heap.size):=Nat.le_trans hB hb0.size
 have HQ0:Hid (¬ (w.heap.size=mb∨w.heap.size=wb)):=fun h=>by have a:=hx.lt; have b:=hd.lt; omega
 clear hav hb0 hp hs hd hx hf hne hml ht hw0 hmw
 obtain ⟨bd,hbd⟩:∃ bd,w.heap.size=bd:=⟨_,rfl⟩
 unfold MPack.agg
 go_enter Tryz.func105,Tryz.ntmps105
 go_upto_region 1 with (fail)
 rw [← hW]
 clear hW
 rw [hbd] at HAV HQ0
 clear hbd hB
 have c0:=HAV.out.at_ 0 _ rfl
 go_wp2_with fail
 refine (Name.good_any (Ident.mk p.name) _ (by rw [mk_size]; exact HP0.out.short)).mono ?_
 rw [mk_list]
 rintro e W1 ⟨rfl,hb⟩
 have HAV1:=Lib.hid (HAV.out.kept hb HAV.out.lt)
 have HB1:=Lib.hid (HB0.out.then_same hb)
 have HP1:=Lib.hid (HP0.out.keep (KeepS.of_below (S:=LtB B) hb))
 have HS1:=Lib.hid (HS0.out.kept hb HS0.out.lt)
 have HD1:=Lib.hid (HD0.out.kept hb HD0.out.lt)
 have HX1:=Lib.hid (HX0.out.kept hb HX0.out.lt)
 have HL1:Hid (B≤W1.heap.size):=Nat.le_trans HL0.out hb.size
 clear hb c0
 cases hnm:isName p.name
 ·have HZ:=Lib.hid (HE1.out hnm)
  clear hnm
  go_wp2
  go_ret
  exact ⟨by rw [HZ.out]; rfl,by rw [HZ.out]; exact HD1.out,(fun h=>by rw [HZ.out] at h; cases h),HB1.out⟩
 ·have HNM:=Lib.hid hnm
  clear hnm
  have c0:=HAV1.out.at_ 0 _ rfl
  have s0:=HS1.out.at_ 0 _ rfl
  go_wp2_with fail
  refine (again_any mb x (Ident.mk p.name) _ HX1.out (by rw [mk_size]; exact HP1.out.short) (by omega)).mono ?_
  rw [mk_list]
  rintro e W3 ⟨rfl,hx3,hb⟩
  have HX3:=Lib.hid hx3
  have HH3:Hid (But (fun b=>b=mb∨b=wb) W1 W3):=hb.mono fun k e=>.inl e
  have HB3:=Lib.hid (HB1.out.then_ HH3.out)
  have HP3:=Lib.hid (HP1.out.keep (keepS_but HH3.out fun g hg e=>by have:=HML.out; have hg:g<B:=hg; omega))
  have HAV3:=Lib.hid (HAV1.out.but HH3.out HQ0.out)
  have HD3:=Lib.hid (HD1.out.but hb (fun e=>by have:=HNE.out; omega))
  have HT3:Hid (Tab W3):=HT.out W3 HB3.out
  have HL3:Hid (B≤W3.heap.size):=Nat.le_trans HL1.out HH3.out.size
  clear hb hx3 c0 s0
  obtain ⟨b,hb⟩:∃ b,decide (p.name ∈ x)=b:=⟨_,rfl⟩
  have HIN:=Lib.hid hb
  rw [hb]
  clear hb
  cases b
  ·have HZ:=Lib.hid (HE3.out HNM.out (of_decide_eq_false HIN.out))
   have c0:=HAV3.out.at_ 0 _ rfl
   have c1:=HAV3.out.at_ 1 _ rfl
   have d0:=HD3.out.at_ 0 _ rfl
   have d1:=HD3.out.at_ 1 _ rfl
   have d2:=HD3.out.at_ 2 _ rfl
   go_wp2_with fail
   refine (releasesFault_any p B _ HP3.out HF.out hn HT3.out HL3.out).mono ?_
   rintro e W4 ⟨rfl,hb⟩
   have HB4:=Lib.hid (HB3.out.then_same hb)
   have HD4:=Lib.hid (HD3.out.kept hb HD3.out.lt)
   have HX4:=Lib.hid (HX3.out.kept hb HX3.out.lt)
   clear hb c0 c1 d0 d1 d2
   have hpn:p.p.name=p.name:=rfl
   rw [hpn] at HZ
   obtain ⟨q,hq⟩:∃ q,out3 (firstG (relF p.name p.p.rels) 0 p.p.rels)=q:=⟨_,rfl⟩
   have HQ:=Lib.hid (HZ.out.trans hq)
   rw [hq]
   unfold relsV
   clear hq HZ hpn
   have d0:=HD4.out.at_ 0 _ rfl
   have d1:=HD4.out.at_ 1 _ rfl
   have d2:=HD4.out.at_ 2 _ rfl
   have hdl:wb<W4.heap.size:=HD4.out.lt
   have hdf:=HD4.out.fr
   go_wp2
   go_ret
   have hs2:But (fun b=>b=mb∨b=wb) W4 ((W4.setCell ⟨wb,1,none⟩ (.int .i64 q.1)).setCell ⟨wb,2,none⟩ (.int .i64 q.2.1)):=((But.refl _ _).set _ _ _ (.inl (.inr rfl))).set _ _ _ (.inl (.inr rfl))
   refine ⟨by rw [HQ.out]; rfl,by rw [HQ.out]; exact (HD4.out.set 1 (.int .i64 q.1) (by simp)).set 2 (.int .i64 q.2.1) (by simp),fun _=>HX4.out.but (T:=fun b=>b=wb) (((But.refl (fun b=>b=wb) _).set _ _ _ (.inl rfl)).set _ _ _ (.inl rfl)) (fun e=>by have:=HNE.out; omega),HB4.out.then_ hs2⟩
  ·have HZ:=Lib.hid (HE2.out HNM.out (of_decide_eq_true HIN.out))
   go_wp2
   go_ret
   exact ⟨by rw [HZ.out]; rfl,by rw [HZ.out]; exact HD3.out,(fun h=>by rw [HZ.out] at h; cases h),HB3.out⟩
end Go.Proofs.YtgakcdcfblgagaaGreatDoor.Model
namespace Go.Proofs.YtgakcdcfblgagaaGreatDoor.Copy
open Go.RowKit Num Ident Semver Fr
open Range (Rng noRng RV Lies RgRow CellsAt KeepS LtB InS FitV)
open KR (KRow AtV)
open Model (MDep MVer MRel MPack DepOk VerOk RelOk PackOk DRow RRow PRow FewD FewRel FewX SlOk)
open Go.Sort (flatK HoldsK size_flatK)
section
variable {α:Type} [Inhabited α] {enc:α→List Value} {k:Nat} {w:World} {base g cap:Nat} {E:TypeId} {l:List α}
theorem own_holds (hk:∀ x,(enc x).length=k) (h0:0<k) (ho:w.ownsRow base E k (.slice (some ⟨g,0,none⟩) l.length cap) l.length (l.flatMap enc)):HoldsK enc k w g 0 l.toArray∧g<w.heap.size∧base≤g:=by
 have hown0:=ho
 rcases ho.2 with ⟨e,_⟩ | ⟨g',cap',cur,e,hg0,hg,hnc,hcm,hcs,htk⟩
 ·cases e
 ·injection e with e _ _
  injection e with e
  injection e with e
  subst e
  have hF:(flatK enc k l.toArray).toList=l.flatMap enc:=Span.flatK_list _ k hk h0 _
  refine ⟨?_,(Array.getElem?_eq_some_iff.1 hg).1,hg0⟩
  intro j hj
  have hj2:j<(flatK enc k l.toArray).size:=hj
  refine ⟨?_,by simp [World.frozen?,hg]⟩
  have e1:=hown0.cells (g:=g) rfl j _ (by rw [← hF,Array.getElem?_toList]; exact Array.getElem?_eq_getElem hj2)
  rw [add_none] at e1
  rw [e1,getElem!_pos _ j hj2]; rfl
theorem own_sorted (hk:∀ x,(enc x).length=k) (h0:0<k) (ho:w.ownsRow base E k (.slice (some ⟨g,0,none⟩) l.length cap) l.length (l.flatMap enc)) (m:Nat) (d:Array α) (os:Array Obj) (hd:d.size=l.length) :
  (sortWorldK enc k w g 0 m d os).ownsRow base E k (.slice (some ⟨g,0,none⟩) l.length cap) l.length (d.toList.flatMap enc):=by
 rcases ho.2 with ⟨e,_⟩ | ⟨g',cap',cur,e,hg0,hg,hnc,hcm,hcs,htk⟩
 ·cases e
 ·injection e with e _ e2
  injection e with e
  injection e with e
  subst e
  subst e2
  have hgl:g<w.heap.size:=(Array.getElem?_eq_some_iff.1 hg).1
  have hsz':(flatK enc k d).size=l.length * k:=by rw [size_flatK,hd]
  have hF':(flatK enc k d).toList=d.toList.flatMap enc:=Span.flatK_list _ k hk h0 _
  rw [← hF']
  refine ⟨by rw [Array.length_toList]; exact hsz',.inr ⟨g,cap,Go.Sort.putCells id 0 (flatK enc k d) cur,rfl,hg0,?_,hnc,hcm,by unfold Go.Sort.putCells; rw [Array.size_mapIdx]; exact hcs,?_⟩⟩
  ·unfold sortWorldK Go.Sort.putRowK Go.Sort.putRow Go.Sort.mapBlock Go.Sort.grow Go.Sort.ahead
   show ((w.heap.modify g _) ++ os)[g]?=_
   rw [Array.getElem?_append_left (by simpa using hgl),Array.getElem?_modify,if_pos rfl,hg]; rfl
  ·apply List.ext_getElem?
   intro t
   have hcs':l.length * k≤cur.size:=by rw [hcs]; exact Nat.mul_le_mul_right k hnc
   by_cases ht:t<l.length * k
   ·rw [List.getElem?_take_of_lt ht,Array.getElem?_toList,Array.getElem?_toList]
    unfold Go.Sort.putCells
    rw [Array.getElem?_mapIdx,Array.getElem?_eq_getElem (show t<cur.size by omega),Array.getElem?_eq_getElem (show t<(flatK enc k d).size by omega)]
    simp only [Option.map_some]
    rw [if_pos ⟨Nat.zero_le _,by omega⟩,Nat.sub_zero,getElem!_pos _ t (by omega)]; rfl
   ·rw [List.getElem?_eq_none (by rw [List.length_take]; omega),List.getElem?_eq_none (by rw [Array.length_toList,hsz']; omega)]
end
section
variable {α:Type} [Inhabited α] (lt:α→α→Bool)
theorem insInner_same (a:Nat) (d:Array α) (h:∀ i,i+1<d.size→(lt d[i+1]! d[i]!)=false):∀ j,j<d.size→Go.Sort.insInner lt a j d=d
 | 0,_=>rfl
 | j+1,hj=>by
  unfold Go.Sort.insInner
  rw [h j hj,Bool.and_false]; rfl
theorem insOuter_same (a b:Nat) (d:Array α) (hb:b≤d.size) (h:∀ i,i+1<d.size→(lt d[i+1]! d[i]!)=false):∀ (m i:Nat),b - i≤m→Go.Sort.insOuter lt a b i d=d
 | 0,i,hm=>by rw [Go.Sort.insOuter,if_neg (by omega)]
 | m+1,i,hm=>by
  rw [Go.Sort.insOuter]
  by_cases hi:i<b
  ·rw [if_pos hi,insInner_same lt a d h i (by omega)]
   exact insOuter_same a b d hb h m (i+1) (by omega)
  ·rw [if_neg hi]
theorem ins_list (le:α→α→Prop) (hS:Go.Sort.SWO lt) (hle:∀ x y,lt y x=false↔le x y) (l:List α):Model.SortOf le l (Go.Sort.insertionSort lt l.toArray 0 l.length).toList∧(Go.Sort.insertionSort lt l.toArray 0 l.length).size=l.length:=by
 obtain ⟨hp,hs⟩:=Go.Sort.insertionSort_holds hS l.toArray 0 l.length (Nat.zero_le _) (by simp)
 have hz:(Go.Sort.insertionSort lt l.toArray 0 l.length).size=l.length:=by have:=hp.1; simpa using this
 refine ⟨⟨?_,?_,fun h=>?_⟩,hz⟩
 ·have h1:=hp.2.2
  have e1:l.toArray.extract 0 l.length=l.toArray:=by simp
  have e2:(Go.Sort.insertionSort lt l.toArray 0 l.length).extract 0 l.length=Go.Sort.insertionSort lt l.toArray 0 l.length:=(fun (q:Array α) (h:q.size=l.length)=>(by rw [← h,Array.extract_size]:q.extract 0 l.length=q)) _ hz
  rw [e1,e2] at h1
  exact h1
 ·rw [List.pairwise_iff_getElem]
  intro i j hi hj hij
  have hi':i<(Go.Sort.insertionSort lt l.toArray 0 l.length).size:=by simpa using hi
  have hj':j<(Go.Sort.insertionSort lt l.toArray 0 l.length).size:=by simpa using hj
  have h1:=hs i j (Nat.zero_le _) hij (by rw [← hz]; exact hj')
  rw [getElem!_pos _ i hi',getElem!_pos _ j hj'] at h1
  exact (hle _ _).1 (by simpa using h1)
 ·unfold Go.Sort.insertionSort
  rw [insOuter_same lt 0 l.length l.toArray (by simp) (fun i hi=>?_) l.length _ (by omega)]
  have hi1:i+1<l.length:=by simpa using hi
  rw [getElem!_pos l.toArray (i+1) hi,getElem!_pos l.toArray i (by simp; omega)]
  have:=List.pairwise_iff_getElem.1 h i (i+1) (by omega) hi1 (by omega)
  exact (hle _ _).2 (by simpa using this)
end
end Go.Proofs.YtgakcdcfblgagaaGreatDoor.Copy
namespace Go.Proofs.YtgakcdcfblgagaaGreatDoor.Copy
open Go.RowKit Num Ident Semver Fr
open Range (Rng noRng RV Lies RgRow CellsAt KeepS LtB InS FitV)
open KR (KRow AtV)
open Model (MDep MVer MRel MPack MPin PRel DepOk VerOk RelOk PackOk PinOk DRow RRow PRow FewD FewRel FewX SlOk findRel findRel_p findRel_in find_any relV releaseO)
theorem three_new (w:World) (L M K:List Value) (t u s:TypeId):∃ W,W=((w.alloc (.cells L.toArray t)).alloc (.cells M.toArray u)).alloc (.cells K.toArray s)∧AtV W w.heap.size L∧AtV W (w.heap.size+1) M∧AtV W (w.heap.size+1+1) K∧Below w.heap.size w W∧W.heap.size=w.heap.size+1+1+1∧Is W (w.heap.size+1+1) s:=by
 obtain ⟨V,hV,h1,h2,hb,hs⟩:=two_new w L M t u
 refine ⟨_,by rw [← hV],?_⟩
 have k:Below V.heap.size V (V.alloc (.cells K.toArray s)):=(Below.refl _ _).alloc (Nat.le_refl _) _
 have h3:=AtV.new V s K
 rw [hs] at h3
 exact ⟨h1.kept k h1.lt,h2.kept k h2.lt,h3,hb.trans (k.mono hb.size),by rw [size_alloc,hs],⟨_,by rw [← hs]; exact heap_alloc_new V _⟩⟩
theorem rel_default (w:World):RelOk w (LtB w.heap.size) (default:MRel) :=
 ⟨⟨⟨rfl,fun h=>absurd h (Nat.lt_irrefl _)⟩,⟨rfl,fun h=>absurd h (Nat.lt_irrefl _)⟩,(fun h=>absurd h (Nat.lt_irrefl _)),(fun h=>absurd h (Nat.lt_irrefl _)),Nat.le_refl _,Nat.le_refl _,Range.FitV.none⟩,Model.DRow.none_ _ _,Model.DRow.none_ _ _,⟨Nat.le_refl _,by unfold maxLen; exact Nat.zero_le _⟩,⟨Nat.le_refl _,by unfold maxLen; exact Nat.zero_le _⟩,fun _=>rfl,fun _=>rfl⟩
end Go.Proofs.YtgakcdcfblgagaaGreatDoor.Copy
