/-
  What the theorem of the last text needs of these: MoCopyR, MoSolvesWalk, MoCheckAny. Conditions: as each theorem states.
-/
import Derived.Test.YtnpjklaaokiikaaGreatDoorSvA1
import Derived.Test.YtnpjklaaokiikaaGreatDoorSvA31
import Derived.Test.YtnpjklaaokiikaaGreatDoorSvA32
import Derived.Test.YtnpjklaaokiikaaGreatDoorSvA33
import Derived.Shelf.Abstract
set_option maxRecDepth 100000
set_option maxHeartbeats 25600000
namespace Go.Proofs.YtnpjklaaokiikaaGreatDoor.Copy
open Go.RowKit Num Ident Semver Fr
open Range (Rng noRng RV Lies RgRow CellsAt KeepS LtB InS FitV)
open KR (KRow AtV)
open Model (MDep MVer MRel MPack DepOk VerOk RelOk PackOk DRow RRow PRow FewD FewRel FewX SlOk)
def Is (W:World) (b:Nat) (E:TypeId):Prop:=∃ cur,W.heap[b]?=some (.cells cur E (0,0))
theorem Is.set {W:World} {b:Nat} {E:TypeId} (h:Is W b E) (g o:Nat) (v:Value):Is (W.setCell ⟨g,o,none⟩ v) b E:=by
 obtain ⟨cur,h⟩:=h
 by_cases e:g=b
 ·subst e
  exact ⟨_,heap_setCell_same W g o cur E v h⟩
 ·exact ⟨cur,(heap_setCell_other W ⟨g,o,none⟩ b v (fun q=>e q.symm)).trans h⟩
theorem Is.below {W W':World} {b:Nat} {E:TypeId} (h:Is W b E) (hb:Below W.heap.size W W'):Is W' b E:=by
 obtain ⟨cur,h⟩:=h
 exact ⟨cur,(hb.block b (Array.getElem?_eq_some_iff.1 h).1).trans h⟩
theorem Is.not {W:World} {b B:Nat} {E:TypeId} (h:Is W b E) (hE:E≠9) (hB:B≤b):Not W B b:=by
 obtain ⟨cur,h⟩:=h
 refine ⟨hB,fun cur' q=>?_⟩
 rw [h] at q
 injection q with q
 injection q with _ q
 exact hE q
theorem Is.lt {W:World} {b:Nat} {E:TypeId} (h:Is W b E):b<W.heap.size:=by
 obtain ⟨cur,h⟩:=h
 exact (Array.getElem?_eq_some_iff.1 h).1
def S0 (w:World) (B:Nat) (b:Nat):Prop:=Aside w B b∧b≠w.heap.size∧b≠w.heap.size+1
theorem S0.up {w W:World} {B b:Nat} {E:TypeId} (hb:Below w.heap.size w W) (hB:B≤w.heap.size) (hE:E≠9) (h1:Is W w.heap.size E) (h2:Is W (w.heap.size+1) E) (h:Aside W B b):S0 w B b :=
 ⟨h.up hb,h _ h1.lt (h1.not hE hB),h _ h2.lt (h2.not hE (by omega))⟩
theorem S0.new {w:World} {B b:Nat} (h:w.heap.size+2≤b):S0 w B b:=⟨Aside.new (by omega),by omega,by omega⟩
theorem S0.keep1 {w W W':World} {B:Nat} (h:But (fun k=>k=w.heap.size+1) W W'):KeepS (S0 w B) W W':=keep_but h fun _ hg e=>hg.2.2 e
theorem S0.keep0 {w W W':World} {B:Nat} (h:But (fun k=>k=w.heap.size) W W'):KeepS (S0 w B) W W':=keep_but h fun _ hg e=>hg.2.1 e
theorem own_ins {w:World} {base:Nat} {A:Option Addr} {n c:Nat} {xs:List Value} {S:Nat→Prop} (h:w.ownsRow base 9 1 (.slice A n c) n xs) (hS:∀ g,base≤g→S g):InS S A n:=fun h0=>by
 rcases h.2 with ⟨e,h1⟩ | ⟨g,cp,cur,e,hg,hh,_⟩
 ·omega
 ·injection e with e1 _ _
  exact ⟨g,0,e1,hS g hg⟩
theorem copy_drow {W W':World} {B:Nat} {l cs:List MDep} {v:Value} (h:Copied MDep.vals 8 57 MDep.p DepOk W B l l.length v cs W'):∃ A c,v=.slice A cs.length c∧DRow W' (Aside W B) A cs.length cs∧(cs.length≤c∧c≤maxLen)∧(A=none→c=0):=by
 have ho:=h.own
 rw [← h.len] at ho
 obtain ⟨A,c,e,h1,h2,h3⟩:=KRow.of_own Model.dep_len ho rfl (S:=Aside W B) fun g hg _=>Aside.new hg
 obtain ⟨A',c',e',h4,h5,h6⟩:=own_slice ho
 rw [e] at e'
 injection e' with _ _ e'
 subst e'
 exact ⟨A,c,e,⟨h3,fun d hd=>(h.all d hd).mono fun b hb _=>hb.1⟩,⟨h1,h5⟩,h2⟩
theorem dep_one_post (x:MDep) (B:Nat) (W:World) (hx:DepOk W (LtB B) x) (hf:x.name.length≤300∧(Nrm.Slim x.r→Nrm.tot x.r≤12)) (hB:B≤W.heap.size):Calls Tryz.prog 85 (#[x.agg] ++ #[]) W (OnePost MDep.agg MDep.p DepOk W B x):=by
 rw [Array.append_empty]
 refine (copiedDep_any (Ident.mk x.name) x.r x.x B W hx.lies hB (hf.2 hx.slim)).mono ?_
 rintro e w' ⟨y,rfl,hy,hb⟩
 exact ⟨⟨x.name,x.r,y⟩,rfl,rfl,⟨hx.short,hy,hx.len,hx.slim⟩,hb⟩
theorem copyDeps_any (A:Option Addr) (n c:Nat) (l:List MDep) (B:Nat) (w:World) (hl:DRow w (LtB B) A n l) (hf:FewD l) (hB:B≤w.heap.size) :
  Calls Tryz.prog 84 #[.slice A n c,.func (.func 85) #[] #[]] w (CopyPost MDep.vals 8 57 MDep.p DepOk w B l) :=
 copiedDep_list 85 #[] (enters_of Tryz.func85 (by kernel_rfl) rfl) A n c l (LtB B) B w hl.row (by have:=hf.1; have:=hl.row.1; omega) hB
  fun W x hx hb=>dep_one_post x B W ((hl.ok x hx).keep (KeepS.of_below hb)) (hf.2 x hx) (Nat.le_trans hB hb.size)
theorem copiedRelease_any (r:MRel) (B:Nat) (w:World) (hr:RelOk w (LtB B) r) (hf:FewRel r) (hB:B≤w.heap.size) :
  Calls Tryz.prog 39 #[r.agg] w (OnePost MRel.agg MRel.p RelOk w B r):=by
 obtain ⟨W0,hW,hv,hz,hb,hsz⟩:=two_new w [.int .u64 r.ver.v.a,.int .u64 r.ver.v.b,.int .u64 r.ver.v.c,.slice r.ver.A r.ver.v.pre.length r.ver.c,.slice r.ver.B r.ver.v.build.length r.ver.d,.bool r.yanked,.slice r.N r.needs.length r.nc,.slice r.B r.bans.length r.bc] [.int .u64 0,.int .u64 0,.int .u64 0,.slice none 0 0,.slice none 0 0,.bool false,.slice none 0 0,.slice none 0 0] 36 36
 have hi0:Is W0 w.heap.size 36:=by
  rw [hW]
  exact Is.below (W:=w.alloc (.cells _ 36)) ⟨_,heap_alloc_new _ _⟩ ((Below.refl _ _).alloc (Nat.le_refl _) _)
 have hi1:Is W0 (w.heap.size+1) 36:=by
  rw [hW]
  have h:=heap_alloc_new (w.alloc (.cells ([.int .u64 r.ver.v.a,.int .u64 r.ver.v.b,.int .u64 r.ver.v.c,.slice r.ver.A r.ver.v.pre.length r.ver.c,.slice r.ver.B r.ver.v.build.length r.ver.d,.bool r.yanked,.slice r.N r.needs.length r.nc,.slice r.B r.bans.length r.bc]:List Value).toArray 36)) (.cells ([.int .u64 0,.int .u64 0,.int .u64 0,.slice none 0 0,.slice none 0 0,.bool false,.slice none 0 0,.slice none 0 0]:List Value).toArray 36)
  rw [size_alloc] at h
  exact ⟨_,h⟩
 have HV:=Lib.hid hv
 have HZ:=Lib.hid hz
 have HB:=Lib.hid hb
 have HS:=Lib.hid hsz
 have HR:=Lib.hid hr
 have HF:=Lib.hid hf
 have HLB:=Lib.hid hB
 have HI:=Lib.hid (And.intro hi0 hi1)
 clear hv hz hb hsz hr hf hB hi0 hi1
 obtain ⟨rb,hrb⟩:∃ rb,w.heap.size=rb:=⟨_,rfl⟩
 unfold MRel.agg
 go_enter Tryz.func39,Tryz.ntmps39
 go_upto_region 1 with (fail)
 rw [← hW]
 rw [hrb] at HZ HV
 try rw [hrb]
 clear hW
 have q0:=HV.out.at_ 0 _ rfl
 have q1:=HV.out.at_ 1 _ rfl
 have q2:=HV.out.at_ 2 _ rfl
 have q3:=HV.out.at_ 3 _ rfl
 have q4:=HV.out.at_ 4 _ rfl
 have q5:=HV.out.at_ 5 _ rfl
 have q6:=HV.out.at_ 6 _ rfl
 have q7:=HV.out.at_ 7 _ rfl
 have hvl:rb<W0.heap.size:=HV.out.lt
 have hvf:=HV.out.fr
 go_wp2_with fail
 have hr0:=HR.out.keep (KeepS.of_below (S:=LtB B) HB.out)
 refine (copiedVersion_any r.ver.v r.ver.A r.ver.c r.ver.B r.ver.d _ hr0.ver.pre hr0.ver.build (by have:=HF.out.1; omega) (by have:=HF.out.2.1; omega)).mono ?_
 rintro e W1 ⟨A1,e1,B1,d1,rfl,oA,oB,hb⟩
 clear hr0
 have HX1:Hid (VerOk W1 (S0 w B) ⟨r.ver.v,A1,e1,B1,d1⟩):=⟨(own_srow oA).1,(own_srow oB).1,own_ins oA (fun g hg=>S0.new (by have:=HS.out; omega)),own_ins oB (fun g hg=>S0.new (by have:=HS.out; omega)),(own_srow oA).2,(own_srow oB).2,HR.out.ver.fit⟩
 have HV1:=Lib.hid (HV.out.kept hb HV.out.lt)
 have HZ1:=Lib.hid (HZ.out.kept hb HZ.out.lt)
 have HI1:Hid (Is W1 w.heap.size 36∧Is W1 (w.heap.size+1) 36):=⟨HI.out.1.below hb,HI.out.2.below hb⟩
 have HB1:=Lib.hid (HB.out.trans (hb.mono HB.out.size))
 clear hb oA oB q0 q1 q2 q3 q4 q5 q6 q7 hvl hvf HV HZ HI HB
 have q0:=HV1.out.at_ 0 _ rfl
 have q1:=HV1.out.at_ 1 _ rfl
 have q2:=HV1.out.at_ 2 _ rfl
 have q3:=HV1.out.at_ 3 _ rfl
 have q4:=HV1.out.at_ 4 _ rfl
 have q5:=HV1.out.at_ 5 _ rfl
 have q6:=HV1.out.at_ 6 _ rfl
 have q7:=HV1.out.at_ 7 _ rfl
 have hvl:rb<W1.heap.size:=HV1.out.lt
 have hvf:=HV1.out.fr
 go_upto_region 2 with (fail)
 have HV2:Hid (AtV (((((W1.setCell ⟨rb,0,none⟩ r.ver.v.a).setCell ⟨rb,1,none⟩ r.ver.v.b).setCell ⟨rb,2,none⟩ r.ver.v.c).setCell ⟨rb,3,none⟩ (.slice A1 r.ver.v.pre.length e1)).setCell ⟨rb,4,none⟩ (.slice B1 r.ver.v.build.length d1)) rb [.int .u64 r.ver.v.a,.int .u64 r.ver.v.b,.int .u64 r.ver.v.c,.slice A1 r.ver.v.pre.length e1,.slice B1 r.ver.v.build.length d1,.bool r.yanked,.slice r.N r.needs.length r.nc,.slice r.B r.bans.length r.bc]):=atv_set (atv_set (atv_set (atv_set (atv_set HV1.out 0 _ (by simp)) 1 _ (by simp)) 2 _ (by simp)) 3 _ (by simp)) 4 _ (by simp)
 have hs2:But (fun k=>k=rb) W1 (((((W1.setCell ⟨rb,0,none⟩ r.ver.v.a).setCell ⟨rb,1,none⟩ r.ver.v.b).setCell ⟨rb,2,none⟩ r.ver.v.c).setCell ⟨rb,3,none⟩ (.slice A1 r.ver.v.pre.length e1)).setCell ⟨rb,4,none⟩ (.slice B1 r.ver.v.build.length d1)):=but_fill W1 rb [.int .u64 r.ver.v.a,.int .u64 r.ver.v.b,.int .u64 r.ver.v.c,.slice A1 r.ver.v.pre.length e1,.slice B1 r.ver.v.build.length d1] 0
 have HI2:Hid (Is (((((W1.setCell ⟨rb,0,none⟩ r.ver.v.a).setCell ⟨rb,1,none⟩ r.ver.v.b).setCell ⟨rb,2,none⟩ r.ver.v.c).setCell ⟨rb,3,none⟩ (.slice A1 r.ver.v.pre.length e1)).setCell ⟨rb,4,none⟩ (.slice B1 r.ver.v.build.length d1)) w.heap.size 36∧Is (((((W1.setCell ⟨rb,0,none⟩ r.ver.v.a).setCell ⟨rb,1,none⟩ r.ver.v.b).setCell ⟨rb,2,none⟩ r.ver.v.c).setCell ⟨rb,3,none⟩ (.slice A1 r.ver.v.pre.length e1)).setCell ⟨rb,4,none⟩ (.slice B1 r.ver.v.build.length d1)) (w.heap.size+1) 36):=⟨((((HI1.out.1.set _ _ _).set _ _ _).set _ _ _).set _ _ _).set _ _ _,((((HI1.out.2.set _ _ _).set _ _ _).set _ _ _).set _ _ _).set _ _ _⟩
 have HZ2:=Lib.hid (atv_but HZ1.out hs2 (by omega))
 have HB2:Hid (Below w.heap.size w (((((W1.setCell ⟨rb,0,none⟩ r.ver.v.a).setCell ⟨rb,1,none⟩ r.ver.v.b).setCell ⟨rb,2,none⟩ r.ver.v.c).setCell ⟨rb,3,none⟩ (.slice A1 r.ver.v.pre.length e1)).setCell ⟨rb,4,none⟩ (.slice B1 r.ver.v.build.length d1))):=HB1.out.trans (hs2.below (B:=w.heap.size) (fun k e=>by omega) HB1.out.size)
 have HX2:Hid (VerOk (((((W1.setCell ⟨rb,0,none⟩ r.ver.v.a).setCell ⟨rb,1,none⟩ r.ver.v.b).setCell ⟨rb,2,none⟩ r.ver.v.c).setCell ⟨rb,3,none⟩ (.slice A1 r.ver.v.pre.length e1)).setCell ⟨rb,4,none⟩ (.slice B1 r.ver.v.build.length d1)) (S0 w B) ⟨r.ver.v,A1,e1,B1,d1⟩):=HX1.out.keep (S0.keep0 (by rw [hrb]; exact hs2))
 clear q0 q1 q2 q3 q4 q5 q6 q7 hvl hvf hs2 HV1 HZ1 HB1 HX1 HI1
 generalize (((((W1.setCell ⟨rb,0,none⟩ r.ver.v.a).setCell ⟨rb,1,none⟩ r.ver.v.b).setCell ⟨rb,2,none⟩ r.ver.v.c).setCell ⟨rb,3,none⟩ (.slice A1 r.ver.v.pre.length e1)).setCell ⟨rb,4,none⟩ (.slice B1 r.ver.v.build.length d1))=W2 at HV2 HZ2 HB2 HX2 HI2 ⊢
 have q0:=HV2.out.at_ 0 _ rfl
 have q1:=HV2.out.at_ 1 _ rfl
 have q2:=HV2.out.at_ 2 _ rfl
 have q3:=HV2.out.at_ 3 _ rfl
 have q4:=HV2.out.at_ 4 _ rfl
 have q5:=HV2.out.at_ 5 _ rfl
 have q6:=HV2.out.at_ 6 _ rfl
 have q7:=HV2.out.at_ 7 _ rfl
 have hvl:rb<W2.heap.size:=HV2.out.lt
 have hvf:=HV2.out.fr
 go_wp2_with fail
 refine (copyDeps_any r.N r.needs.length r.nc r.needs B W2 (HR.out.needs.keep (KeepS.of_below HB2.out)) HF.out.2.2.1 (Nat.le_trans HLB.out HB2.out.size)).mono ?_
 rintro e W3 ⟨v3,ns,rfl,hc⟩
 have hb:=hc.bel
 have HNP:Hid (ns.map MDep.p=r.needs.map MDep.p):=hc.map
 obtain ⟨A3,c3,rfl,hn3,hc3,hz3⟩:=copy_drow hc
 have HNC:Hid ((ns.length≤c3∧c3≤maxLen)∧(A3=none→c3=0)):=⟨hc3,hz3⟩
 have HN3:Hid (DRow W3 (S0 w B) A3 ns.length ns):=hn3.mono fun b hq _=>S0.up HB2.out HLB.out (by decide) HI2.out.1 HI2.out.2 hq
 have HV3:=Lib.hid (HV2.out.kept hb HV2.out.lt)
 have HZ3:=Lib.hid (HZ2.out.kept hb HZ2.out.lt)
 have HI3:Hid (Is W3 w.heap.size 36∧Is W3 (w.heap.size+1) 36):=⟨HI2.out.1.below hb,HI2.out.2.below hb⟩
 have HB3:=Lib.hid (HB2.out.trans (hb.mono HB2.out.size))
 have HX3:=Lib.hid (HX2.out.keep (KeepS.of_below hb))
 clear hb hc hn3 hc3 hz3 q0 q1 q2 q3 q4 q5 q6 q7 hvl hvf HV2 HZ2 HI2 HB2 HX2
 have q0:=HV3.out.at_ 0 _ rfl
 have q1:=HV3.out.at_ 1 _ rfl
 have q2:=HV3.out.at_ 2 _ rfl
 have q3:=HV3.out.at_ 3 _ rfl
 have q4:=HV3.out.at_ 4 _ rfl
 have q5:=HV3.out.at_ 5 _ rfl
 have q6:=HV3.out.at_ 6 _ rfl
 have q7:=HV3.out.at_ 7 _ rfl
 have hvl:rb<W3.heap.size:=HV3.out.lt
 have hvf:=HV3.out.fr
 go_upto_region 3 with (fail)
 have HV4:Hid (AtV (W3.setCell ⟨rb,6,none⟩ (.slice A3 ns.length c3)) rb [.int .u64 r.ver.v.a,.int .u64 r.ver.v.b,.int .u64 r.ver.v.c,.slice A1 r.ver.v.pre.length e1,.slice B1 r.ver.v.build.length d1,.bool r.yanked,.slice A3 ns.length c3,.slice r.B r.bans.length r.bc]):=atv_set HV3.out 6 _ (by simp)
 have hs4:But (fun k=>k=rb) W3 (W3.setCell ⟨rb,6,none⟩ (.slice A3 ns.length c3)):=But.one W3 rb 6 _
 have HI4:Hid (Is (W3.setCell ⟨rb,6,none⟩ (.slice A3 ns.length c3)) w.heap.size 36∧Is (W3.setCell ⟨rb,6,none⟩ (.slice A3 ns.length c3)) (w.heap.size+1) 36):=⟨HI3.out.1.set _ _ _,HI3.out.2.set _ _ _⟩
 have HZ4:=Lib.hid (atv_but HZ3.out hs4 (by omega))
 have HB4:Hid (Below w.heap.size w (W3.setCell ⟨rb,6,none⟩ (.slice A3 ns.length c3))):=HB3.out.trans (hs4.below (B:=w.heap.size) (fun k e=>by omega) HB3.out.size)
 have hks:KeepS (S0 w B) W3 (W3.setCell ⟨rb,6,none⟩ (.slice A3 ns.length c3)):=S0.keep0 (by rw [hrb]; exact hs4)
 have HX4:=Lib.hid (HX3.out.keep hks)
 have HN4:=Lib.hid (HN3.out.keep hks)
 clear q0 q1 q2 q3 q4 q5 q6 q7 hvl hvf hs4 hks HV3 HZ3 HB3 HX3 HI3 HN3
 generalize W3.setCell ⟨rb,6,none⟩ (.slice A3 ns.length c3)=W4 at HV4 HZ4 HB4 HX4 HI4 HN4 ⊢
 have q0:=HV4.out.at_ 0 _ rfl
 have q1:=HV4.out.at_ 1 _ rfl
 have q2:=HV4.out.at_ 2 _ rfl
 have q3:=HV4.out.at_ 3 _ rfl
 have q4:=HV4.out.at_ 4 _ rfl
 have q5:=HV4.out.at_ 5 _ rfl
 have q6:=HV4.out.at_ 6 _ rfl
 have q7:=HV4.out.at_ 7 _ rfl
 have hvl:rb<W4.heap.size:=HV4.out.lt
 have hvf:=HV4.out.fr
 go_wp2_with fail
 refine (copyDeps_any r.B r.bans.length r.bc r.bans B W4 (HR.out.bans.keep (KeepS.of_below HB4.out)) HF.out.2.2.2 (Nat.le_trans HLB.out HB4.out.size)).mono ?_
 rintro e W5 ⟨v5,bs,rfl,hc⟩
 have hb:=hc.bel
 have HBP:Hid (bs.map MDep.p=r.bans.map MDep.p):=hc.map
 obtain ⟨A5,c5,rfl,hn5,hc5,hz5⟩:=copy_drow hc
 have HBC:Hid ((bs.length≤c5∧c5≤maxLen)∧(A5=none→c5=0)):=⟨hc5,hz5⟩
 have HM5:Hid (DRow W5 (S0 w B) A5 bs.length bs):=hn5.mono fun b hq _=>S0.up HB4.out HLB.out (by decide) HI4.out.1 HI4.out.2 hq
 have HV5:=Lib.hid (HV4.out.kept hb HV4.out.lt)
 have HZ5:=Lib.hid (HZ4.out.kept hb HZ4.out.lt)
 have HB5:=Lib.hid (HB4.out.trans (hb.mono HB4.out.size))
 have HX5:=Lib.hid (HX4.out.keep (KeepS.of_below hb))
 have HN5:=Lib.hid (HN4.out.keep (KeepS.of_below hb))
 clear hb hc hn5 hc5 hz5 q0 q1 q2 q3 q4 q5 q6 q7 hvl hvf HV4 HZ4 HI4 HB4 HX4 HN4
 have q0:=HV5.out.at_ 0 _ rfl
 have q1:=HV5.out.at_ 1 _ rfl
 have q2:=HV5.out.at_ 2 _ rfl
 have q3:=HV5.out.at_ 3 _ rfl
 have q4:=HV5.out.at_ 4 _ rfl
 have q5:=HV5.out.at_ 5 _ rfl
 have q6:=HV5.out.at_ 6 _ rfl
 have q7:=HV5.out.at_ 7 _ rfl
 have hvl:rb<W5.heap.size:=HV5.out.lt
 have hvf:=HV5.out.fr
 go_upto_region 4 with (fail)
 have HV6:Hid (AtV (W5.setCell ⟨rb,7,none⟩ (.slice A5 bs.length c5)) rb [.int .u64 r.ver.v.a,.int .u64 r.ver.v.b,.int .u64 r.ver.v.c,.slice A1 r.ver.v.pre.length e1,.slice B1 r.ver.v.build.length d1,.bool r.yanked,.slice A3 ns.length c3,.slice A5 bs.length c5]):=atv_set HV5.out 7 _ (by simp)
 have hs6:But (fun k=>k=rb) W5 (W5.setCell ⟨rb,7,none⟩ (.slice A5 bs.length c5)):=But.one W5 rb 7 _
 have HZ6:=Lib.hid (atv_but HZ5.out hs6 (by omega))
 have HB6:Hid (Below w.heap.size w (W5.setCell ⟨rb,7,none⟩ (.slice A5 bs.length c5))):=HB5.out.trans (hs6.below (B:=w.heap.size) (fun k e=>by omega) HB5.out.size)
 have hks:KeepS (S0 w B) W5 (W5.setCell ⟨rb,7,none⟩ (.slice A5 bs.length c5)):=S0.keep0 (by rw [hrb]; exact hs6)
 have HX6:=Lib.hid (HX5.out.keep hks)
 have HN6:=Lib.hid (HN5.out.keep hks)
 have HM6:=Lib.hid (HM5.out.keep hks)
 clear q0 q1 q2 q3 q4 q5 q6 q7 hvl hvf hs6 hks HV5 HZ5 HB5 HX5 HN5 HM5
 generalize W5.setCell ⟨rb,7,none⟩ (.slice A5 bs.length c5)=W6 at HV6 HZ6 HB6 HX6 HN6 HM6 ⊢
 have q0:=HV6.out.at_ 0 _ rfl
 have q1:=HV6.out.at_ 1 _ rfl
 have q2:=HV6.out.at_ 2 _ rfl
 have q3:=HV6.out.at_ 3 _ rfl
 have q4:=HV6.out.at_ 4 _ rfl
 have q5:=HV6.out.at_ 5 _ rfl
 have q6:=HV6.out.at_ 6 _ rfl
 have q7:=HV6.out.at_ 7 _ rfl
 have hvl:rb<W6.heap.size:=HV6.out.lt
 have hvf:=HV6.out.fr
 have z0:=HZ6.out.at_ 0 _ rfl
 have z1:=HZ6.out.at_ 1 _ rfl
 have z2:=HZ6.out.at_ 2 _ rfl
 have z3:=HZ6.out.at_ 3 _ rfl
 have z4:=HZ6.out.at_ 4 _ rfl
 have z5:=HZ6.out.at_ 5 _ rfl
 have z6:=HZ6.out.at_ 6 _ rfl
 have z7:=HZ6.out.at_ 7 _ rfl
 have hzl:rb+1<W6.heap.size:=HZ6.out.lt
 have hzf:=HZ6.out.fr
 go_wp2
 have HA7:Hid (AtV ((((((((W6.setCell ⟨rb+1,0,none⟩ r.ver.v.a).setCell ⟨rb+1,1,none⟩ r.ver.v.b).setCell ⟨rb+1,2,none⟩ r.ver.v.c).setCell ⟨rb+1,3,none⟩ (.slice A1 r.ver.v.pre.length e1)).setCell ⟨rb+1,4,none⟩ (.slice B1 r.ver.v.build.length d1)).setCell ⟨rb+1,5,none⟩ (.bool r.yanked)).setCell ⟨rb+1,6,none⟩ (.slice A3 ns.length c3)).setCell ⟨rb+1,7,none⟩ (.slice A5 bs.length c5)) (rb+1) [.int .u64 r.ver.v.a,.int .u64 r.ver.v.b,.int .u64 r.ver.v.c,.slice A1 r.ver.v.pre.length e1,.slice B1 r.ver.v.build.length d1,.bool r.yanked,.slice A3 ns.length c3,.slice A5 bs.length c5]):=atv_fill HZ6.out [.int .u64 r.ver.v.a,.int .u64 r.ver.v.b,.int .u64 r.ver.v.c,.slice A1 r.ver.v.pre.length e1,.slice B1 r.ver.v.build.length d1,.bool r.yanked,.slice A3 ns.length c3,.slice A5 bs.length c5] 0 rfl
 have HB7:Hid (But (fun k=>k=rb+1) W6 ((((((((W6.setCell ⟨rb+1,0,none⟩ r.ver.v.a).setCell ⟨rb+1,1,none⟩ r.ver.v.b).setCell ⟨rb+1,2,none⟩ r.ver.v.c).setCell ⟨rb+1,3,none⟩ (.slice A1 r.ver.v.pre.length e1)).setCell ⟨rb+1,4,none⟩ (.slice B1 r.ver.v.build.length d1)).setCell ⟨rb+1,5,none⟩ (.bool r.yanked)).setCell ⟨rb+1,6,none⟩ (.slice A3 ns.length c3)).setCell ⟨rb+1,7,none⟩ (.slice A5 bs.length c5))):=but_fill W6 (rb+1) [.int .u64 r.ver.v.a,.int .u64 r.ver.v.b,.int .u64 r.ver.v.c,.slice A1 r.ver.v.pre.length e1,.slice B1 r.ver.v.build.length d1,.bool r.yanked,.slice A3 ns.length c3,.slice A5 bs.length c5] 0
 clear q0 q1 q2 q3 q4 q5 q6 q7 z0 z1 z2 z3 z4 z5 z6 z7 hvl hvf hzl hzf
 generalize ((((((((W6.setCell ⟨rb+1,0,none⟩ r.ver.v.a).setCell ⟨rb+1,1,none⟩ r.ver.v.b).setCell ⟨rb+1,2,none⟩ r.ver.v.c).setCell ⟨rb+1,3,none⟩ (.slice A1 r.ver.v.pre.length e1)).setCell ⟨rb+1,4,none⟩ (.slice B1 r.ver.v.build.length d1)).setCell ⟨rb+1,5,none⟩ (.bool r.yanked)).setCell ⟨rb+1,6,none⟩ (.slice A3 ns.length c3)).setCell ⟨rb+1,7,none⟩ (.slice A5 bs.length c5))=W7 at HA7 HB7 ⊢
 have y0:=HA7.out.at_ 0 _ rfl
 have y1:=HA7.out.at_ 1 _ rfl
 have y2:=HA7.out.at_ 2 _ rfl
 have y3:=HA7.out.at_ 3 _ rfl
 have y4:=HA7.out.at_ 4 _ rfl
 have y5:=HA7.out.at_ 5 _ rfl
 have y6:=HA7.out.at_ 6 _ rfl
 have y7:=HA7.out.at_ 7 _ rfl
 have hks:KeepS (S0 w B) W6 W7:=S0.keep1 (by rw [hrb]; exact HB7.out)
 have hbw:Below w.heap.size w W7:=HB6.out.trans (HB7.out.below (B:=w.heap.size) (fun k e=>by omega) HB6.out.size)
 refine bodyPost_ret (v:=.agg #[r.ver.v.a,r.ver.v.b,r.ver.v.c,.slice A1 r.ver.v.pre.length e1,.slice B1 r.ver.v.build.length d1,.bool r.yanked,.slice A3 ns.length c3,.slice A5 bs.length c5]) (by simp [results,Tryz.results39,go_sem,y0,y1,y2,y3,y4,y5,y6,y7]) rfl ⟨⟨⟨r.ver.v,A1,e1,B1,d1⟩,r.yanked,A3,c3,ns,A5,c5,bs⟩,rfl,?_,?_,hbw⟩
 ·show (⟨r.ver.v,r.yanked,ns.map MDep.p,bs.map MDep.p⟩:Model.PRel)=⟨r.ver.v,r.yanked,r.needs.map MDep.p,r.bans.map MDep.p⟩
  rw [HNP.out,HBP.out]
 ·exact (⟨HX6.out.keep hks,HN6.out.keep hks,HM6.out.keep hks,HNC.out.1,HBC.out.1,HNC.out.2,HBC.out.2⟩:RelOk W7 (S0 w B) ⟨⟨r.ver.v,A1,e1,B1,d1⟩,r.yanked,A3,c3,ns,A5,c5,bs⟩).mono fun b hb _=>hb.1
theorem rel_one_post (x:MRel) (B:Nat) (W:World) (hx:RelOk W (LtB B) x) (hf:FewRel x) (hB:B≤W.heap.size):Calls Tryz.prog 39 (#[x.agg] ++ #[]) W (OnePost MRel.agg MRel.p RelOk W B x):=by
 rw [Array.append_empty]
 exact copiedRelease_any x B W hx hf hB
theorem copyRels_any (A:Option Addr) (n c:Nat) (l:List MRel) (B:Nat) (w:World) (hl:RRow w (LtB B) A n l) (hn:n≤6) (hf:∀ r ∈ l,FewRel r) (hB:B≤w.heap.size) :
  Calls Tryz.prog 38 #[.slice A n c,.func (.func 39) #[] #[]] w (CopyPost MRel.vals 8 36 MRel.p RelOk w B l) :=
 copiedRelease_list 39 #[] (enters_of Tryz.func39 (by kernel_rfl) rfl) A n c l (LtB B) B w hl.row (by omega) hB
  fun W x hx hb=>rel_one_post x B W ((hl.ok x hx).keep (KeepS.of_below hb)) (hf x hx) (Nat.le_trans hB hb.size)
end Go.Proofs.YtnpjklaaokiikaaGreatDoor.Copy
namespace Go.Proofs.YtnpjklaaokiikaaGreatDoor.Model
open Go.RowKit Num Ident Semver
open Range (Rng noRng RV KeepS LtB LenOk goodR wt)
open KR (KRow AtV)

theorem PinOk.mono {w:World} {S S':Nat→Prop} {p:MPin} (h:PinOk w S p) (hS:∀ b,S b→b<w.heap.size→S' b):PinOk w S' p:=⟨h.short,h.ver.mono hS⟩
theorem SPRow.mono {w:World} {S S':Nat→Prop} {A:Option Addr} {n:Nat} {l:List MPin} (h:SPRow w S A n l) (hS:∀ b,S b→b<w.heap.size→S' b):SPRow w S' A n l:=⟨h.row.mono hS,fun d hd=>(h.ok d hd).mono hS⟩
theorem modelSolves_of (S:Says) (A:Option Addr) (n c:Nat) (x:List MPack) (RA:Option Addr) (rn rc:Nat) (roots:List MDep) (SA:Option Addr) (m sc:Nat) (s:List MPin) (w:World) (hx:PRow w (LtB w.heap.size) A n x) (hr:DRow w (LtB w.heap.size) RA rn roots) (hs:SPRow w (LtB w.heap.size) SA m s) (oa:SlOk A n c) (ob:SlOk RA rn rc) (oc:SlOk SA m sc) (ht:Tab w) :
  Calls Tryz.prog 3 #[.agg #[.slice A n c],.slice RA rn rc,.slice SA m sc] w fun e w'=>e=.returned (.bool true)∧Below w.heap.size w w':=by
 have HS:=Lib.hid S
 have HT:=Lib.hid ht
 clear ht
 have HX:=Lib.hid hx
 have HR:=Lib.hid hr
 have HP:=Lib.hid hs
 have OA:=Lib.hid oa
 have OB:=Lib.hid ob
 have OC:=Lib.hid oc
 clear S hx hr hs oa ob oc
 obtain ⟨W0,hW,hav,hb0⟩:∃ W,W=w.alloc (.cells #[.slice A n c] 24)∧AtV W w.heap.size [.slice A n c]∧Below w.heap.size w W:=⟨_,rfl,AtV.new w _ _,(Below.refl _ _).alloc (Nat.le_refl _) _⟩
 have HS0:Hid (SolAt w w.heap.size A n c W0):=⟨hav,hb0⟩
 clear hav hb0
 go_enter Tryz.func3,Tryz.ntmps3
 go_upto_region 1 with (fail)
 rw [← hW]
 clear hW
 obtain ⟨ib,hib⟩:∃ ib,w.heap.size=ib:=⟨_,rfl⟩
 rw [hib] at HS0 ⊢
 have HIB:=Lib.hid hib
 clear hib
 go_wp2_with fail
 refine (awake_of HS.out.toSaysA _ (HT.out.kept HS0.out.bel)).mono ?_
 rintro e W1 ⟨rfl,hb⟩
 have HS1:=Lib.hid (HS0.out.kept hb)
 clear hb HS0
 have i0:=HS1.out.ix.at_ 0 _ rfl
 go_wp2_with fail
 refine (lawFew_any A n c x RA rn rc roots SA m sc s w.heap.size W1 (HX.out.keep (KeepS.of_below HS1.out.bel)) (HR.out.keep (KeepS.of_below HS1.out.bel)) (HP.out.keep (KeepS.of_below HS1.out.bel)) HS1.out.bel.size OA.out.len OB.out.len OC.out.len).mono ?_
 rintro e W2 ⟨z,rfl,hf,hb⟩
 have HS2:=Lib.hid (HS1.out.kept hb)
 clear hb HS1 i0
 by_cases hz:z=0
 ·have HF:=Lib.hid (hf hz)
  have hzb:(z != 0)=false:=by rw [hz]; rfl
  clear hz hf
  have i0:=HS2.out.ix.at_ 0 _ rfl
  go_wp2_with fail
  refine (HS.out.solves A n c x RA rn rc roots SA m sc s w.heap.size W2 (HX.out.keep (KeepS.of_below HS2.out.bel)) (HR.out.keep (KeepS.of_below HS2.out.bel)) (HP.out.keep (KeepS.of_below HS2.out.bel)) HS2.out.bel.size OA.out OB.out OC.out HF.out.1 HF.out.2.1 HF.out.2.2 (HT.out.kept HS2.out.bel)).mono ?_
  obtain ⟨b,hbq⟩:∃ b,solvesB (x.map MPack.p) (roots.map MDep.p) (s.map MPin.p)=b:=⟨_,rfl⟩
  have HQ:=Lib.hid hbq
  rw [hbq]
  clear hbq
  rintro e W3 ⟨rfl,hb⟩
  have HS3:=Lib.hid (HS2.out.kept hb)
  clear hb HS2 i0
  have i0:=HS3.out.ix.at_ 0 _ rfl
  go_wp2_with fail
  refine (refSolves_any A n c x RA rn rc roots SA m sc s w.heap.size W3 (HX.out.keep (KeepS.of_below HS3.out.bel)) (HR.out.keep (KeepS.of_below HS3.out.bel)) (HP.out.keep (KeepS.of_below HS3.out.bel)) HS3.out.bel.size OA.out.len OB.out.len OC.out.len (few_modest HF.out.1) (fewD_short HF.out.2.1) (fewS_short HF.out.2.2)).mono ?_
  rw [HQ.out]
  rintro e W4 ⟨rfl,hb⟩
  have HS4:=Lib.hid (HS3.out.kept hb)
  clear hb HS3 i0
  cases b with
  | false =>
   go_wp2
   go_ret
   exact ⟨rfl,HS4.out.bel⟩
  | true =>
   have i0:=HS4.out.ix.at_ 0 _ rfl
   go_wp2_with fail
   refine (HS.out.plain A n c x w.heap.size W4 (HX.out.keep (KeepS.of_below HS4.out.bel)) HS4.out.bel.size OA.out HF.out.1).mono ?_
   rintro e W5 ⟨A5,c5,y,rfl,hy,oy,hpl,hb⟩
   have HY:=Lib.hid hy
   have OY:=Lib.hid oy
   have HFY:=Lib.hid (plain_few hpl HF.out.1)
   have HQY:=Lib.hid (plain_solves hpl HQ.out)
   have HS5:=Lib.hid (HS4.out.kept hb)
   clear hb HS4 i0 hy oy hpl
   go_wp2_with fail
   refine (HS.out.solves A5 y.length c5 y RA rn rc roots SA m sc s W5.heap.size W5 HY.out ((HR.out.keep (KeepS.of_below HS5.out.bel)).mono fun b g _=>Nat.lt_of_lt_of_le g HS5.out.bel.size) ((HP.out.keep (KeepS.of_below HS5.out.bel)).mono fun b g _=>Nat.lt_of_lt_of_le g HS5.out.bel.size) (Nat.le_refl _) OY.out OB.out OC.out HFY.out HF.out.2.1 HF.out.2.2 (HT.out.kept HS5.out.bel)).mono ?_
   rw [HQY.out]
   rintro e W6 ⟨rfl,hb⟩
   have HS6:=Lib.hid (HS5.out.kept hb)
   clear hb HS5
   go_wp2
   go_ret
   exact ⟨rfl,HS6.out.bel⟩
 ·have hzb:(z != 0)=true:=by simpa using hz
  clear hz hf
  go_wp2
  go_ret
  exact ⟨rfl,HS2.out.bel⟩
end Go.Proofs.YtnpjklaaokiikaaGreatDoor.Model
namespace Go.Proofs.YtnpjklaaokiikaaGreatDoor.Model
open Go.RowKit Num Ident Semver Fr
open Range (Rng noRng RV KeepS LtB LenOk goodR wt)
open KR (KRow AtV)
open Name (isName)

theorem chk_made (w:World) (A:Option Addr) (n c:Nat):∃ W,W=(((w.alloc (.cells #[.slice A n c] 24)).alloc (.cells #[.int .i64 (-1),.int .i64 (-1),.int .i64 (-1)] 42)).alloc (.map #[] 0)).alloc (.cells #[.map (some (w.heap.size+1+1))] 94)∧AtV W w.heap.size [.slice A n c]∧AtV W (w.heap.size+1) [.int .i64 (-1),.int .i64 (-1),.int .i64 (-1)]∧SeenAt W (w.heap.size+1+1) []∧AtV W (w.heap.size+1+1+1) [.map (some (w.heap.size+1+1))]∧Below w.heap.size w W:=by
 obtain ⟨V1,hV1⟩:∃ V,V=w.alloc (.cells #[.slice A n c] 24):=⟨_,rfl⟩
 have a1:AtV V1 w.heap.size [.slice A n c]:=by rw [hV1]; exact AtV.new w _ _
 have z1:V1.heap.size=w.heap.size+1:=by rw [hV1]; simp
 have b1:Below w.heap.size w V1:=by rw [hV1]; exact (Below.refl _ _).alloc (Nat.le_refl _) _
 obtain ⟨V2,hV2⟩:∃ V,V=V1.alloc (.cells #[.int .i64 (-1),.int .i64 (-1),.int .i64 (-1)] 42):=⟨_,rfl⟩
 have k2:Below V1.heap.size V1 V2:=by rw [hV2]; exact (Below.refl _ _).alloc (Nat.le_refl _) _
 have a2:AtV V2 (w.heap.size+1) [.int .i64 (-1),.int .i64 (-1),.int .i64 (-1)]:=by rw [hV2,← z1]; exact AtV.new V1 _ _
 have z2:V2.heap.size=w.heap.size+1+1:=by rw [hV2]; simp [z1]
 obtain ⟨V3,hV3⟩:∃ V,V=V2.alloc (.map #[] 0):=⟨_,rfl⟩
 have k3:Below V2.heap.size V2 V3:=by rw [hV3]; exact (Below.refl _ _).alloc (Nat.le_refl _) _
 have a3:SeenAt V3 (w.heap.size+1+1) []:=by rw [hV3,← z2]; exact SeenAt.made V2
 have z3:V3.heap.size=w.heap.size+1+1+1:=by rw [hV3]; simp [z2]
 obtain ⟨V4,hV4⟩:∃ V,V=V3.alloc (.cells #[.map (some (w.heap.size+1+1))] 94):=⟨_,rfl⟩
 have k4:Below V3.heap.size V3 V4:=by rw [hV4]; exact (Below.refl _ _).alloc (Nat.le_refl _) _
 have a4:AtV V4 (w.heap.size+1+1+1) [.map (some (w.heap.size+1+1))]:=by rw [hV4,← z3]; exact AtV.new V3 _ _
 refine ⟨V4,by rw [hV4,hV3,hV2,hV1],((a1.kept k2 (by omega)).kept k3 (by omega)).kept k4 (by omega),(a2.kept k3 (by omega)).kept k4 (by omega),a3.kept k4 (by omega),a4,b1.trans ((k2.trans ((k3.trans (k4.mono (by omega))).mono (by omega))).mono (by omega))⟩
def nms (l:List MPack) (k:Nat):List (List UInt8):=(l.take k).map MPack.name
theorem nms_snoc {l:List MPack} {k:Nat} (h:k<l.length):nms l (k+1)=nms l k ++ [(l.getD k default).name]:=take_map_snoc MPack.name l h
theorem nameB_nms {l:List MPack} {k:Nat} (hk:k<l.length):(l.getD k default).p.name ∈ nms l k↔nameB PPack.name (l.map MPack.p) k=true:=by
 rw [nameB_iff,map_at MPack.p l hk]
 unfold nms
 rw [← List.map_take,List.map_map]
 exact Iff.rfl
theorem chk_first (x:List MPack) (A:Option Addr) (n c:Nat) (B zb:Nat) (w W:World) (hx:PRow w (LtB B) A n x) (hf:FewX x) (ht:Tab w) (hB:B≤zb) (hzb:zb=w.heap.size) (hb:Below w.heap.size w W) (h2:AtV W (zb+1) [.int .i64 (-1),.int .i64 (-1),.int .i64 (-1)]) (h3:SeenAt W (zb+1+1) []) (h4:AtV W (zb+1+1+1) [.map (some (zb+1+1))]) :
  Calls Tryz.prog 49 #[.slice A n c,.func (.func 50) #[] #[.pointer (some ⟨zb+1+1+1,0,none⟩),.pointer (some ⟨zb+1,0,none⟩)]] W fun e w'=>∃ a q1 q2 f:Int,e=.returned (.tuple #[.int .i64 a,.int .i64 f])∧AtV w' (zb+1) [.int .i64 (-1),.int .i64 q1,.int .i64 q2]∧Below w.heap.size w w'∧out4 (checkF (x.map MPack.p))=(a,q1,q2,f):=by
 have hlx:=hx.row.1
 have hfl:=hf.len
 have hrow:∀ W',But (fun b=>b=zb+1+1∨b=zb+1) W W'→PRow W' (LtB B) A n x:=fun W' hw=>(hx.keep (KeepS.of_below hb)).keep (keepS_but hw fun g hg e=>by have hg:g<B:=hg; omega)
 refine (firstPack_any 50 #[.pointer (some ⟨zb+1+1+1,0,none⟩),.pointer (some ⟨zb+1,0,none⟩)] (enters_of Tryz.func50 (by kernel_rfl) rfl) A n c x
  (fun k=>(packK (nms x k) (x.getD k default).p).2.2)
  (fun k W'=>SeenAt W' (zb+1+1) (nms x k)∧AtV W' (zb+1) [.int .i64 (-1),.int .i64 (-1),.int .i64 (-1)]∧But (fun b=>b=zb+1+1∨b=zb+1) W W')
  (fun k W'=>AtV W' (zb+1) [.int .i64 (-1),.int .i64 (packK (nms x k) (x.getD k default).p).1,.int .i64 (packK (nms x k) (x.getD k default).p).2.1]∧But (fun b=>b=zb+1+1∨b=zb+1) W W') (LtB B) W (by unfold maxLen; omega)
  (fun k W' _ hI=>hrow W' hI.2.2) (fun k W' hk hI=>?_) ⟨h3,h2,But.refl _ _⟩).mono ?_
 ·have hkl:k<x.length:=by omega
  have hm:=hx.row.mem hk
  refine (pack1_any (x.getD k default) (zb+1+1+1) (zb+1) (zb+1+1) (nms x k) B W' ((hrow W' hI.2.2).ok _ hm) (fun r hr=>hf.rel _ hm r hr) (hf.pack _ hm).2 (h4.but hI.2.2 (by omega)) hI.2.1 hI.1 (by unfold nms; simp; omega) ⟨by omega,by omega,by omega⟩ ⟨by omega,by omega⟩ (by have:=hb.size; have:=hI.2.2.size; omega) w ht (hb.trans (hI.2.2.below (B:=w.heap.size) (fun k e=>by omega) hb.size)) ⟨by omega,by omega⟩).mono ?_
  rintro e w' ⟨ho,hd,hs,hbt⟩
  refine ⟨ho,fun h0=>⟨?_,?_,hI.2.2.then_ hbt⟩,fun _=>⟨hd,hI.2.2.then_ hbt⟩⟩
  ·rw [nms_snoc hkl]; exact hs h0
  ·have:=(packK_zero h0).1
   rw [this] at hd; exact hd
 ·intro e w' hp2
  have rel:∀ k,k<n→packF (x.map MPack.p) k ((x.map MPack.p).getD k default)=if (packK (nms x k) (x.getD k default).p).2.2=0 then none else some (packK (nms x k) (x.getD k default).p):=fun k hk=>by
   rw [map_at MPack.p x (by omega)]
   exact packK_some (nameB_nms (by omega))
  have len:(x.map MPack.p).length=n:=by rw [List.length_map]; exact hlx
  have hfull:checkF (x.map MPack.p)=(firstG (packF (x.map MPack.p)) 0 (x.map MPack.p)).map fun q=>((q.1:Int),q.2.1,q.2.2.1,q.2.2.2):=by unfold checkF; rw [if_neg (by omega)]
  rw [hfull]
  rcases hp2 with ⟨k,hk,ha,hne,he,hd,hbt⟩ | ⟨ha,he,_,hd,hbt⟩
  ·refine ⟨_,_,_,_,he,hd,hb.trans (hbt.below (B:=w.heap.size) (fun k e=>by omega) hb.size),?_⟩
   have e1:=firstG_stop (packF (x.map MPack.p)) (x.map MPack.p) 0 k _ (by omega) (fun j hj=>by
    rw [Nat.zero_add,rel j (by omega),if_pos (ha j hj)]) (by
    rw [Nat.zero_add,rel k hk,if_neg hne])
   rw [e1,Nat.zero_add]; rfl
  ·refine ⟨_,_,_,_,he,hd,hb.trans (hbt.below (B:=w.heap.size) (fun k e=>by omega) hb.size),?_⟩
   have e1:=firstG_none (packF (x.map MPack.p)) (x.map MPack.p) 0 (fun j hj=>by
    rw [Nat.zero_add,rel j (by omega),if_pos (ha j (by omega))])
   rw [e1]; rfl
theorem check_any (A:Option Addr) (n c:Nat) (x:List MPack) (B:Nat) (w:World) (hx:PRow w (LtB B) A n x) (hB:B≤w.heap.size) (hf:FewX x) (ht:Tab w) :
  Calls Tryz.prog 16 #[.agg #[.slice A n c]] w fun e w'=>e=.returned (checkV (checkF (x.map MPack.p)))∧Below w.heap.size w w':=by
 obtain ⟨W,hW,h1,h2,h3,h4,hb⟩:=chk_made w A n c
 obtain ⟨zb,hzb⟩:∃ zb,w.heap.size=zb:=⟨_,rfl⟩
 rw [hzb] at hW h1 h2 h3 h4
 have hfst:=chk_first x A n c B zb w W hx hf ht (by omega) hzb.symm hb h2 h3 h4
 have H1:=Lib.hid h1
 have HPB:=Lib.hid hzb
 have hn6:n≤6:=by have:=hx.row.1; have:=hf.len; omega
 clear h1 h2 h3 h4 hb hx hf ht
 have hmm:=@run_makeMap Tryz.prog
 go_enter Tryz.func16,Tryz.ntmps16
 go_upto_region 5 with (fail)
 rw [← hW]
 clear hW hzb hmm hB
 have c0:=H1.out.at_ 0 _ rfl
 go_wp2_with fail
 refine hfst.mono ?_
 rintro e W2 ⟨a,q1,q2,f,rfl,hd,hb,hq⟩
 clear hfst c0
 have HQ:=Lib.hid hq
 have HB2:=Lib.hid hb
 have HD2:=Lib.hid hd
 clear hq hb hd
 have d0:=HD2.out.at_ 0 _ rfl
 have d1:=HD2.out.at_ 1 _ rfl
 have d2:=HD2.out.at_ 2 _ rfl
 have hdl:zb+1<W2.heap.size:=HD2.out.lt
 have hdf:=HD2.out.fr
 go_upto_region 6 with (fail)
 have HD3:Hid (AtV (W2.setCell ⟨zb+1,0,none⟩ (.int .i64 a)) (zb+1) [.int .i64 a,.int .i64 q1,.int .i64 q2]):=HD2.out.set 0 (.int .i64 a) (by simp)
 have HB3:Hid (Below w.heap.size w (W2.setCell ⟨zb+1,0,none⟩ (.int .i64 a))):=HB2.out.setCell (p:=⟨zb+1,0,none⟩) (by have:=HPB.out; show w.heap.size≤zb+1; omega) _
 clear d0 d1 d2 hdl hdf
 generalize W2.setCell ⟨zb+1,0,none⟩ (.int .i64 a)=W3 at HD3 HB3 ⊢
 have d0:=HD3.out.at_ 0 _ rfl
 have d1:=HD3.out.at_ 1 _ rfl
 have d2:=HD3.out.at_ 2 _ rfl
 have hdl:zb+1<W3.heap.size:=HD3.out.lt
 have hdf:=HD3.out.fr
 go_wp2
 have hle:w.heap.size≤zb+1:=by have:=HPB.out; omega
 refine bodyPost_ret (v:=.tuple #[.agg #[.int .i64 a,.int .i64 q1,.int .i64 q2],.int .i64 f]) (by simp [results,Tryz.results16,go_sem,d0,d1,d2]) rfl ⟨by unfold checkV; rw [HQ.out],((HB3.out.setCell (p:=⟨zb+1,0,none⟩) hle _).setCell (p:=⟨zb+1,1,none⟩) hle _).setCell (p:=⟨zb+1,2,none⟩) hle _⟩
end Go.Proofs.YtnpjklaaokiikaaGreatDoor.Model
