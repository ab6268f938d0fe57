/-
  What the theorem of the last text needs of these: MoCopyR. Conditions: as each theorem states.
-/
import Derived.Test.YtnpjklaaokiikaaGreatDoorPlA1
import Derived.Test.YtnpjklaaokiikaaGreatDoorPlA28
import Derived.Shelf.Abstract
set_option maxRecDepth 100000
set_option maxHeartbeats 25600000
namespace Go.Proofs.YtnpjklaaokiikaaGreatDoor.Copy
open Go.RowKit Num Ident Semver Fr
open Range (Rng noRng RV Lies RgRow CellsAt KeepS LtB InS FitV)
open KR (KRow AtV)
open Model (MDep MVer MRel MPack DepOk VerOk RelOk PackOk DRow RRow PRow FewD FewRel FewX SlOk)
def Is (W:World) (b:Nat) (E:TypeId):Prop:=∃ cur,W.heap[b]?=some (.cells cur E (0,0))
theorem Is.set {W:World} {b:Nat} {E:TypeId} (h:Is W b E) (g o:Nat) (v:Value):Is (W.setCell ⟨g,o,none⟩ v) b E:=by
 obtain ⟨cur,h⟩:=h
 by_cases e:g=b
 ·subst e
  exact ⟨_,heap_setCell_same W g o cur E v h⟩
 ·exact ⟨cur,(heap_setCell_other W ⟨g,o,none⟩ b v (fun q=>e q.symm)).trans h⟩
theorem Is.below {W W':World} {b:Nat} {E:TypeId} (h:Is W b E) (hb:Below W.heap.size W W'):Is W' b E:=by
 obtain ⟨cur,h⟩:=h
 exact ⟨cur,(hb.block b (Array.getElem?_eq_some_iff.1 h).1).trans h⟩
theorem Is.not {W:World} {b B:Nat} {E:TypeId} (h:Is W b E) (hE:E≠9) (hB:B≤b):Not W B b:=by
 obtain ⟨cur,h⟩:=h
 refine ⟨hB,fun cur' q=>?_⟩
 rw [h] at q
 injection q with q
 injection q with _ q
 exact hE q
theorem Is.lt {W:World} {b:Nat} {E:TypeId} (h:Is W b E):b<W.heap.size:=by
 obtain ⟨cur,h⟩:=h
 exact (Array.getElem?_eq_some_iff.1 h).1
def S0 (w:World) (B:Nat) (b:Nat):Prop:=Aside w B b∧b≠w.heap.size∧b≠w.heap.size+1
theorem S0.up {w W:World} {B b:Nat} {E:TypeId} (hb:Below w.heap.size w W) (hB:B≤w.heap.size) (hE:E≠9) (h1:Is W w.heap.size E) (h2:Is W (w.heap.size+1) E) (h:Aside W B b):S0 w B b :=
 ⟨h.up hb,h _ h1.lt (h1.not hE hB),h _ h2.lt (h2.not hE (by omega))⟩
theorem S0.new {w:World} {B b:Nat} (h:w.heap.size+2≤b):S0 w B b:=⟨Aside.new (by omega),by omega,by omega⟩
theorem S0.keep1 {w W W':World} {B:Nat} (h:But (fun k=>k=w.heap.size+1) W W'):KeepS (S0 w B) W W':=keep_but h fun _ hg e=>hg.2.2 e
theorem S0.keep0 {w W W':World} {B:Nat} (h:But (fun k=>k=w.heap.size) W W'):KeepS (S0 w B) W W':=keep_but h fun _ hg e=>hg.2.1 e
theorem own_ins {w:World} {base:Nat} {A:Option Addr} {n c:Nat} {xs:List Value} {S:Nat→Prop} (h:w.ownsRow base 9 1 (.slice A n c) n xs) (hS:∀ g,base≤g→S g):InS S A n:=fun h0=>by
 rcases h.2 with ⟨e,h1⟩ | ⟨g,cp,cur,e,hg,hh,_⟩
 ·omega
 ·injection e with e1 _ _
  exact ⟨g,0,e1,hS g hg⟩
theorem copy_drow {W W':World} {B:Nat} {l cs:List MDep} {v:Value} (h:Copied MDep.vals 8 57 MDep.p DepOk W B l l.length v cs W'):∃ A c,v=.slice A cs.length c∧DRow W' (Aside W B) A cs.length cs∧(cs.length≤c∧c≤maxLen)∧(A=none→c=0):=by
 have ho:=h.own
 rw [← h.len] at ho
 obtain ⟨A,c,e,h1,h2,h3⟩:=KRow.of_own Model.dep_len ho rfl (S:=Aside W B) fun g hg _=>Aside.new hg
 obtain ⟨A',c',e',h4,h5,h6⟩:=own_slice ho
 rw [e] at e'
 injection e' with _ _ e'
 subst e'
 exact ⟨A,c,e,⟨h3,fun d hd=>(h.all d hd).mono fun b hb _=>hb.1⟩,⟨h1,h5⟩,h2⟩
theorem dep_one_post (x:MDep) (B:Nat) (W:World) (hx:DepOk W (LtB B) x) (hf:x.name.length≤300∧(Nrm.Slim x.r→Nrm.tot x.r≤12)) (hB:B≤W.heap.size):Calls Tryz.prog 85 (#[x.agg] ++ #[]) W (OnePost MDep.agg MDep.p DepOk W B x):=by
 rw [Array.append_empty]
 refine (copiedDep_any (Ident.mk x.name) x.r x.x B W hx.lies hB (hf.2 hx.slim)).mono ?_
 rintro e w' ⟨y,rfl,hy,hb⟩
 exact ⟨⟨x.name,x.r,y⟩,rfl,rfl,⟨hx.short,hy,hx.len,hx.slim⟩,hb⟩
theorem copyDeps_any (A:Option Addr) (n c:Nat) (l:List MDep) (B:Nat) (w:World) (hl:DRow w (LtB B) A n l) (hf:FewD l) (hB:B≤w.heap.size) :
  Calls Tryz.prog 84 #[.slice A n c,.func (.func 85) #[] #[]] w (CopyPost MDep.vals 8 57 MDep.p DepOk w B l) :=
 copiedDep_list 85 #[] (enters_of Tryz.func85 (by kernel_rfl) rfl) A n c l (LtB B) B w hl.row (by have:=hf.1; have:=hl.row.1; omega) hB
  fun W x hx hb=>dep_one_post x B W ((hl.ok x hx).keep (KeepS.of_below hb)) (hf.2 x hx) (Nat.le_trans hB hb.size)
theorem copiedRelease_any (r:MRel) (B:Nat) (w:World) (hr:RelOk w (LtB B) r) (hf:FewRel r) (hB:B≤w.heap.size) :
  Calls Tryz.prog 39 #[r.agg] w (OnePost MRel.agg MRel.p RelOk w B r):=by
 obtain ⟨W0,hW,hv,hz,hb,hsz⟩:=two_new w [.int .u64 r.ver.v.a,.int .u64 r.ver.v.b,.int .u64 r.ver.v.c,.slice r.ver.A r.ver.v.pre.length r.ver.c,.slice r.ver.B r.ver.v.build.length r.ver.d,.bool r.yanked,.slice r.N r.needs.length r.nc,.slice r.B r.bans.length r.bc] [.int .u64 0,.int .u64 0,.int .u64 0,.slice none 0 0,.slice none 0 0,.bool false,.slice none 0 0,.slice none 0 0] 36 36
 have hi0:Is W0 w.heap.size 36:=by
  rw [hW]
  exact Is.below (W:=w.alloc (.cells _ 36)) ⟨_,heap_alloc_new _ _⟩ ((Below.refl _ _).alloc (Nat.le_refl _) _)
 have hi1:Is W0 (w.heap.size+1) 36:=by
  rw [hW]
  have h:=heap_alloc_new (w.alloc (.cells ([.int .u64 r.ver.v.a,.int .u64 r.ver.v.b,.int .u64 r.ver.v.c,.slice r.ver.A r.ver.v.pre.length r.ver.c,.slice r.ver.B r.ver.v.build.length r.ver.d,.bool r.yanked,.slice r.N r.needs.length r.nc,.slice r.B r.bans.length r.bc]:List Value).toArray 36)) (.cells ([.int .u64 0,.int .u64 0,.int .u64 0,.slice none 0 0,.slice none 0 0,.bool false,.slice none 0 0,.slice none 0 0]:List Value).toArray 36)
  rw [size_alloc] at h
  exact ⟨_,h⟩
 have HV:=Lib.hid hv
 have HZ:=Lib.hid hz
 have HB:=Lib.hid hb
 have HS:=Lib.hid hsz
 have HR:=Lib.hid hr
 have HF:=Lib.hid hf
 have HLB:=Lib.hid hB
 have HI:=Lib.hid (And.intro hi0 hi1)
 clear hv hz hb hsz hr hf hB hi0 hi1
 obtain ⟨rb,hrb⟩:∃ rb,w.heap.size=rb:=⟨_,rfl⟩
 unfold MRel.agg
 go_enter Tryz.func39,Tryz.ntmps39
 go_upto_region 1 with (fail)
 rw [← hW]
 rw [hrb] at HZ HV
 try rw [hrb]
 clear hW
 have q0:=HV.out.at_ 0 _ rfl
 have q1:=HV.out.at_ 1 _ rfl
 have q2:=HV.out.at_ 2 _ rfl
 have q3:=HV.out.at_ 3 _ rfl
 have q4:=HV.out.at_ 4 _ rfl
 have q5:=HV.out.at_ 5 _ rfl
 have q6:=HV.out.at_ 6 _ rfl
 have q7:=HV.out.at_ 7 _ rfl
 have hvl:rb<W0.heap.size:=HV.out.lt
 have hvf:=HV.out.fr
 go_wp2_with fail
 have hr0:=HR.out.keep (KeepS.of_below (S:=LtB B) HB.out)
 refine (copiedVersion_any r.ver.v r.ver.A r.ver.c r.ver.B r.ver.d _ hr0.ver.pre hr0.ver.build (by have:=HF.out.1; omega) (by have:=HF.out.2.1; omega)).mono ?_
 rintro e W1 ⟨A1,e1,B1,d1,rfl,oA,oB,hb⟩
 clear hr0
 have HX1:Hid (VerOk W1 (S0 w B) ⟨r.ver.v,A1,e1,B1,d1⟩):=⟨(own_srow oA).1,(own_srow oB).1,own_ins oA (fun g hg=>S0.new (by have:=HS.out; omega)),own_ins oB (fun g hg=>S0.new (by have:=HS.out; omega)),(own_srow oA).2,(own_srow oB).2,HR.out.ver.fit⟩
 have HV1:=Lib.hid (HV.out.kept hb HV.out.lt)
 have HZ1:=Lib.hid (HZ.out.kept hb HZ.out.lt)
 have HI1:Hid (Is W1 w.heap.size 36∧Is W1 (w.heap.size+1) 36):=⟨HI.out.1.below hb,HI.out.2.below hb⟩
 have HB1:=Lib.hid (HB.out.trans (hb.mono HB.out.size))
 clear hb oA oB q0 q1 q2 q3 q4 q5 q6 q7 hvl hvf HV HZ HI HB
 have q0:=HV1.out.at_ 0 _ rfl
 have q1:=HV1.out.at_ 1 _ rfl
 have q2:=HV1.out.at_ 2 _ rfl
 have q3:=HV1.out.at_ 3 _ rfl
 have q4:=HV1.out.at_ 4 _ rfl
 have q5:=HV1.out.at_ 5 _ rfl
 have q6:=HV1.out.at_ 6 _ rfl
 have q7:=HV1.out.at_ 7 _ rfl
 have hvl:rb<W1.heap.size:=HV1.out.lt
 have hvf:=HV1.out.fr
 go_upto_region 2 with (fail)
 have HV2:Hid (AtV (((((W1.setCell ⟨rb,0,none⟩ r.ver.v.a).setCell ⟨rb,1,none⟩ r.ver.v.b).setCell ⟨rb,2,none⟩ r.ver.v.c).setCell ⟨rb,3,none⟩ (.slice A1 r.ver.v.pre.length e1)).setCell ⟨rb,4,none⟩ (.slice B1 r.ver.v.build.length d1)) rb [.int .u64 r.ver.v.a,.int .u64 r.ver.v.b,.int .u64 r.ver.v.c,.slice A1 r.ver.v.pre.length e1,.slice B1 r.ver.v.build.length d1,.bool r.yanked,.slice r.N r.needs.length r.nc,.slice r.B r.bans.length r.bc]):=atv_set (atv_set (atv_set (atv_set (atv_set HV1.out 0 _ (by simp)) 1 _ (by simp)) 2 _ (by simp)) 3 _ (by simp)) 4 _ (by simp)
 have hs2:But (fun k=>k=rb) W1 (((((W1.setCell ⟨rb,0,none⟩ r.ver.v.a).setCell ⟨rb,1,none⟩ r.ver.v.b).setCell ⟨rb,2,none⟩ r.ver.v.c).setCell ⟨rb,3,none⟩ (.slice A1 r.ver.v.pre.length e1)).setCell ⟨rb,4,none⟩ (.slice B1 r.ver.v.build.length d1)):=but_fill W1 rb [.int .u64 r.ver.v.a,.int .u64 r.ver.v.b,.int .u64 r.ver.v.c,.slice A1 r.ver.v.pre.length e1,.slice B1 r.ver.v.build.length d1] 0
 have HI2:Hid (Is (((((W1.setCell ⟨rb,0,none⟩ r.ver.v.a).setCell ⟨rb,1,none⟩ r.ver.v.b).setCell ⟨rb,2,none⟩ r.ver.v.c).setCell ⟨rb,3,none⟩ (.slice A1 r.ver.v.pre.length e1)).setCell ⟨rb,4,none⟩ (.slice B1 r.ver.v.build.length d1)) w.heap.size 36∧Is (((((W1.setCell ⟨rb,0,none⟩ r.ver.v.a).setCell ⟨rb,1,none⟩ r.ver.v.b).setCell ⟨rb,2,none⟩ r.ver.v.c).setCell ⟨rb,3,none⟩ (.slice A1 r.ver.v.pre.length e1)).setCell ⟨rb,4,none⟩ (.slice B1 r.ver.v.build.length d1)) (w.heap.size+1) 36):=⟨((((HI1.out.1.set _ _ _).set _ _ _).set _ _ _).set _ _ _).set _ _ _,((((HI1.out.2.set _ _ _).set _ _ _).set _ _ _).set _ _ _).set _ _ _⟩
 have HZ2:=Lib.hid (atv_but HZ1.out hs2 (by omega))
 have HB2:Hid (Below w.heap.size w (((((W1.setCell ⟨rb,0,none⟩ r.ver.v.a).setCell ⟨rb,1,none⟩ r.ver.v.b).setCell ⟨rb,2,none⟩ r.ver.v.c).setCell ⟨rb,3,none⟩ (.slice A1 r.ver.v.pre.length e1)).setCell ⟨rb,4,none⟩ (.slice B1 r.ver.v.build.length d1))):=HB1.out.trans (hs2.below (B:=w.heap.size) (fun k e=>by omega) HB1.out.size)
 have HX2:Hid (VerOk (((((W1.setCell ⟨rb,0,none⟩ r.ver.v.a).setCell ⟨rb,1,none⟩ r.ver.v.b).setCell ⟨rb,2,none⟩ r.ver.v.c).setCell ⟨rb,3,none⟩ (.slice A1 r.ver.v.pre.length e1)).setCell ⟨rb,4,none⟩ (.slice B1 r.ver.v.build.length d1)) (S0 w B) ⟨r.ver.v,A1,e1,B1,d1⟩):=HX1.out.keep (S0.keep0 (by rw [hrb]; exact hs2))
 clear q0 q1 q2 q3 q4 q5 q6 q7 hvl hvf hs2 HV1 HZ1 HB1 HX1 HI1
 generalize (((((W1.setCell ⟨rb,0,none⟩ r.ver.v.a).setCell ⟨rb,1,none⟩ r.ver.v.b).setCell ⟨rb,2,none⟩ r.ver.v.c).setCell ⟨rb,3,none⟩ (.slice A1 r.ver.v.pre.length e1)).setCell ⟨rb,4,none⟩ (.slice B1 r.ver.v.build.length d1))=W2 at HV2 HZ2 HB2 HX2 HI2 ⊢
 have q0:=HV2.out.at_ 0 _ rfl
 have q1:=HV2.out.at_ 1 _ rfl
 have q2:=HV2.out.at_ 2 _ rfl
 have q3:=HV2.out.at_ 3 _ rfl
 have q4:=HV2.out.at_ 4 _ rfl
 have q5:=HV2.out.at_ 5 _ rfl
 have q6:=HV2.out.at_ 6 _ rfl
 have q7:=HV2.out.at_ 7 _ rfl
 have hvl:rb<W2.heap.size:=HV2.out.lt
 have hvf:=HV2.out.fr
 go_wp2_with fail
 refine (copyDeps_any r.N r.needs.length r.nc r.needs B W2 (HR.out.needs.keep (KeepS.of_below HB2.out)) HF.out.2.2.1 (Nat.le_trans HLB.out HB2.out.size)).mono ?_
 rintro e W3 ⟨v3,ns,rfl,hc⟩
 have hb:=hc.bel
 have HNP:Hid (ns.map MDep.p=r.needs.map MDep.p):=hc.map
 obtain ⟨A3,c3,rfl,hn3,hc3,hz3⟩:=copy_drow hc
 have HNC:Hid ((ns.length≤c3∧c3≤maxLen)∧(A3=none→c3=0)):=⟨hc3,hz3⟩
 have HN3:Hid (DRow W3 (S0 w B) A3 ns.length ns):=hn3.mono fun b hq _=>S0.up HB2.out HLB.out (by decide) HI2.out.1 HI2.out.2 hq
 have HV3:=Lib.hid (HV2.out.kept hb HV2.out.lt)
 have HZ3:=Lib.hid (HZ2.out.kept hb HZ2.out.lt)
 have HI3:Hid (Is W3 w.heap.size 36∧Is W3 (w.heap.size+1) 36):=⟨HI2.out.1.below hb,HI2.out.2.below hb⟩
 have HB3:=Lib.hid (HB2.out.trans (hb.mono HB2.out.size))
 have HX3:=Lib.hid (HX2.out.keep (KeepS.of_below hb))
 clear hb hc hn3 hc3 hz3 q0 q1 q2 q3 q4 q5 q6 q7 hvl hvf HV2 HZ2 HI2 HB2 HX2
 have q0:=HV3.out.at_ 0 _ rfl
 have q1:=HV3.out.at_ 1 _ rfl
 have q2:=HV3.out.at_ 2 _ rfl
 have q3:=HV3.out.at_ 3 _ rfl
 have q4:=HV3.out.at_ 4 _ rfl
 have q5:=HV3.out.at_ 5 _ rfl
 have q6:=HV3.out.at_ 6 _ rfl
 have q7:=HV3.out.at_ 7 _ rfl
 have hvl:rb<W3.heap.size:=HV3.out.lt
 have hvf:=HV3.out.fr
 go_upto_region 3 with (fail)
 have HV4:Hid (AtV (W3.setCell ⟨rb,6,none⟩ (.slice A3 ns.length c3)) rb [.int .u64 r.ver.v.a,.int .u64 r.ver.v.b,.int .u64 r.ver.v.c,.slice A1 r.ver.v.pre.length e1,.slice B1 r.ver.v.build.length d1,.bool r.yanked,.slice A3 ns.length c3,.slice r.B r.bans.length r.bc]):=atv_set HV3.out 6 _ (by simp)
 have hs4:But (fun k=>k=rb) W3 (W3.setCell ⟨rb,6,none⟩ (.slice A3 ns.length c3)):=But.one W3 rb 6 _
 have HI4:Hid (Is (W3.setCell ⟨rb,6,none⟩ (.slice A3 ns.length c3)) w.heap.size 36∧Is (W3.setCell ⟨rb,6,none⟩ (.slice A3 ns.length c3)) (w.heap.size+1) 36):=⟨HI3.out.1.set _ _ _,HI3.out.2.set _ _ _⟩
 have HZ4:=Lib.hid (atv_but HZ3.out hs4 (by omega))
 have HB4:Hid (Below w.heap.size w (W3.setCell ⟨rb,6,none⟩ (.slice A3 ns.length c3))):=HB3.out.trans (hs4.below (B:=w.heap.size) (fun k e=>by omega) HB3.out.size)
 have hks:KeepS (S0 w B) W3 (W3.setCell ⟨rb,6,none⟩ (.slice A3 ns.length c3)):=S0.keep0 (by rw [hrb]; exact hs4)
 have HX4:=Lib.hid (HX3.out.keep hks)
 have HN4:=Lib.hid (HN3.out.keep hks)
 clear q0 q1 q2 q3 q4 q5 q6 q7 hvl hvf hs4 hks HV3 HZ3 HB3 HX3 HI3 HN3
 generalize W3.setCell ⟨rb,6,none⟩ (.slice A3 ns.length c3)=W4 at HV4 HZ4 HB4 HX4 HI4 HN4 ⊢
 have q0:=HV4.out.at_ 0 _ rfl
 have q1:=HV4.out.at_ 1 _ rfl
 have q2:=HV4.out.at_ 2 _ rfl
 have q3:=HV4.out.at_ 3 _ rfl
 have q4:=HV4.out.at_ 4 _ rfl
 have q5:=HV4.out.at_ 5 _ rfl
 have q6:=HV4.out.at_ 6 _ rfl
 have q7:=HV4.out.at_ 7 _ rfl
 have hvl:rb<W4.heap.size:=HV4.out.lt
 have hvf:=HV4.out.fr
 go_wp2_with fail
 refine (copyDeps_any r.B r.bans.length r.bc r.bans B W4 (HR.out.bans.keep (KeepS.of_below HB4.out)) HF.out.2.2.2 (Nat.le_trans HLB.out HB4.out.size)).mono ?_
 rintro e W5 ⟨v5,bs,rfl,hc⟩
 have hb:=hc.bel
 have HBP:Hid (bs.map MDep.p=r.bans.map MDep.p):=hc.map
 obtain ⟨A5,c5,rfl,hn5,hc5,hz5⟩:=copy_drow hc
 have HBC:Hid ((bs.length≤c5∧c5≤maxLen)∧(A5=none→c5=0)):=⟨hc5,hz5⟩
 have HM5:Hid (DRow W5 (S0 w B) A5 bs.length bs):=hn5.mono fun b hq _=>S0.up HB4.out HLB.out (by decide) HI4.out.1 HI4.out.2 hq
 have HV5:=Lib.hid (HV4.out.kept hb HV4.out.lt)
 have HZ5:=Lib.hid (HZ4.out.kept hb HZ4.out.lt)
 have HB5:=Lib.hid (HB4.out.trans (hb.mono HB4.out.size))
 have HX5:=Lib.hid (HX4.out.keep (KeepS.of_below hb))
 have HN5:=Lib.hid (HN4.out.keep (KeepS.of_below hb))
 clear hb hc hn5 hc5 hz5 q0 q1 q2 q3 q4 q5 q6 q7 hvl hvf HV4 HZ4 HI4 HB4 HX4 HN4
 have q0:=HV5.out.at_ 0 _ rfl
 have q1:=HV5.out.at_ 1 _ rfl
 have q2:=HV5.out.at_ 2 _ rfl
 have q3:=HV5.out.at_ 3 _ rfl
 have q4:=HV5.out.at_ 4 _ rfl
 have q5:=HV5.out.at_ 5 _ rfl
 have q6:=HV5.out.at_ 6 _ rfl
 have q7:=HV5.out.at_ 7 _ rfl
 have hvl:rb<W5.heap.size:=HV5.out.lt
 have hvf:=HV5.out.fr
 go_upto_region 4 with (fail)
 have HV6:Hid (AtV (W5.setCell ⟨rb,7,none⟩ (.slice A5 bs.length c5)) rb [.int .u64 r.ver.v.a,.int .u64 r.ver.v.b,.int .u64 r.ver.v.c,.slice A1 r.ver.v.pre.length e1,.slice B1 r.ver.v.build.length d1,.bool r.yanked,.slice A3 ns.length c3,.slice A5 bs.length c5]):=atv_set HV5.out 7 _ (by simp)
 have hs6:But (fun k=>k=rb) W5 (W5.setCell ⟨rb,7,none⟩ (.slice A5 bs.length c5)):=But.one W5 rb 7 _
 have HZ6:=Lib.hid (atv_but HZ5.out hs6 (by omega))
 have HB6:Hid (Below w.heap.size w (W5.setCell ⟨rb,7,none⟩ (.slice A5 bs.length c5))):=HB5.out.trans (hs6.below (B:=w.heap.size) (fun k e=>by omega) HB5.out.size)
 have hks:KeepS (S0 w B) W5 (W5.setCell ⟨rb,7,none⟩ (.slice A5 bs.length c5)):=S0.keep0 (by rw [hrb]; exact hs6)
 have HX6:=Lib.hid (HX5.out.keep hks)
 have HN6:=Lib.hid (HN5.out.keep hks)
 have HM6:=Lib.hid (HM5.out.keep hks)
 clear q0 q1 q2 q3 q4 q5 q6 q7 hvl hvf hs6 hks HV5 HZ5 HB5 HX5 HN5 HM5
 generalize W5.setCell ⟨rb,7,none⟩ (.slice A5 bs.length c5)=W6 at HV6 HZ6 HB6 HX6 HN6 HM6 ⊢
 have q0:=HV6.out.at_ 0 _ rfl
 have q1:=HV6.out.at_ 1 _ rfl
 have q2:=HV6.out.at_ 2 _ rfl
 have q3:=HV6.out.at_ 3 _ rfl
 have q4:=HV6.out.at_ 4 _ rfl
 have q5:=HV6.out.at_ 5 _ rfl
 have q6:=HV6.out.at_ 6 _ rfl
 have q7:=HV6.out.at_ 7 _ rfl
 have hvl:rb<W6.heap.size:=HV6.out.lt
 have hvf:=HV6.out.fr
 have z0:=HZ6.out.at_ 0 _ rfl
 have z1:=HZ6.out.at_ 1 _ rfl
 have z2:=HZ6.out.at_ 2 _ rfl
 have z3:=HZ6.out.at_ 3 _ rfl
 have z4:=HZ6.out.at_ 4 _ rfl
 have z5:=HZ6.out.at_ 5 _ rfl
 have z6:=HZ6.out.at_ 6 _ rfl
 have z7:=HZ6.out.at_ 7 _ rfl
 have hzl:rb+1<W6.heap.size:=HZ6.out.lt
 have hzf:=HZ6.out.fr
 go_wp2
 have HA7:Hid (AtV ((((((((W6.setCell ⟨rb+1,0,none⟩ r.ver.v.a).setCell ⟨rb+1,1,none⟩ r.ver.v.b).setCell ⟨rb+1,2,none⟩ r.ver.v.c).setCell ⟨rb+1,3,none⟩ (.slice A1 r.ver.v.pre.length e1)).setCell ⟨rb+1,4,none⟩ (.slice B1 r.ver.v.build.length d1)).setCell ⟨rb+1,5,none⟩ (.bool r.yanked)).setCell ⟨rb+1,6,none⟩ (.slice A3 ns.length c3)).setCell ⟨rb+1,7,none⟩ (.slice A5 bs.length c5)) (rb+1) [.int .u64 r.ver.v.a,.int .u64 r.ver.v.b,.int .u64 r.ver.v.c,.slice A1 r.ver.v.pre.length e1,.slice B1 r.ver.v.build.length d1,.bool r.yanked,.slice A3 ns.length c3,.slice A5 bs.length c5]):=atv_fill HZ6.out [.int .u64 r.ver.v.a,.int .u64 r.ver.v.b,.int .u64 r.ver.v.c,.slice A1 r.ver.v.pre.length e1,.slice B1 r.ver.v.build.length d1,.bool r.yanked,.slice A3 ns.length c3,.slice A5 bs.length c5] 0 rfl
 have HB7:Hid (But (fun k=>k=rb+1) W6 ((((((((W6.setCell ⟨rb+1,0,none⟩ r.ver.v.a).setCell ⟨rb+1,1,none⟩ r.ver.v.b).setCell ⟨rb+1,2,none⟩ r.ver.v.c).setCell ⟨rb+1,3,none⟩ (.slice A1 r.ver.v.pre.length e1)).setCell ⟨rb+1,4,none⟩ (.slice B1 r.ver.v.build.length d1)).setCell ⟨rb+1,5,none⟩ (.bool r.yanked)).setCell ⟨rb+1,6,none⟩ (.slice A3 ns.length c3)).setCell ⟨rb+1,7,none⟩ (.slice A5 bs.length c5))):=but_fill W6 (rb+1) [.int .u64 r.ver.v.a,.int .u64 r.ver.v.b,.int .u64 r.ver.v.c,.slice A1 r.ver.v.pre.length e1,.slice B1 r.ver.v.build.length d1,.bool r.yanked,.slice A3 ns.length c3,.slice A5 bs.length c5] 0
 clear q0 q1 q2 q3 q4 q5 q6 q7 z0 z1 z2 z3 z4 z5 z6 z7 hvl hvf hzl hzf
 generalize ((((((((W6.setCell ⟨rb+1,0,none⟩ r.ver.v.a).setCell ⟨rb+1,1,none⟩ r.ver.v.b).setCell ⟨rb+1,2,none⟩ r.ver.v.c).setCell ⟨rb+1,3,none⟩ (.slice A1 r.ver.v.pre.length e1)).setCell ⟨rb+1,4,none⟩ (.slice B1 r.ver.v.build.length d1)).setCell ⟨rb+1,5,none⟩ (.bool r.yanked)).setCell ⟨rb+1,6,none⟩ (.slice A3 ns.length c3)).setCell ⟨rb+1,7,none⟩ (.slice A5 bs.length c5))=W7 at HA7 HB7 ⊢
 have y0:=HA7.out.at_ 0 _ rfl
 have y1:=HA7.out.at_ 1 _ rfl
 have y2:=HA7.out.at_ 2 _ rfl
 have y3:=HA7.out.at_ 3 _ rfl
 have y4:=HA7.out.at_ 4 _ rfl
 have y5:=HA7.out.at_ 5 _ rfl
 have y6:=HA7.out.at_ 6 _ rfl
 have y7:=HA7.out.at_ 7 _ rfl
 have hks:KeepS (S0 w B) W6 W7:=S0.keep1 (by rw [hrb]; exact HB7.out)
 have hbw:Below w.heap.size w W7:=HB6.out.trans (HB7.out.below (B:=w.heap.size) (fun k e=>by omega) HB6.out.size)
 refine bodyPost_ret (v:=.agg #[r.ver.v.a,r.ver.v.b,r.ver.v.c,.slice A1 r.ver.v.pre.length e1,.slice B1 r.ver.v.build.length d1,.bool r.yanked,.slice A3 ns.length c3,.slice A5 bs.length c5]) (by simp [results,Tryz.results39,go_sem,y0,y1,y2,y3,y4,y5,y6,y7]) rfl ⟨⟨⟨r.ver.v,A1,e1,B1,d1⟩,r.yanked,A3,c3,ns,A5,c5,bs⟩,rfl,?_,?_,hbw⟩
 ·show (⟨r.ver.v,r.yanked,ns.map MDep.p,bs.map MDep.p⟩:Model.PRel)=⟨r.ver.v,r.yanked,r.needs.map MDep.p,r.bans.map MDep.p⟩
  rw [HNP.out,HBP.out]
 ·exact (⟨HX6.out.keep hks,HN6.out.keep hks,HM6.out.keep hks,HNC.out.1,HBC.out.1,HNC.out.2,HBC.out.2⟩:RelOk W7 (S0 w B) ⟨⟨r.ver.v,A1,e1,B1,d1⟩,r.yanked,A3,c3,ns,A5,c5,bs⟩).mono fun b hb _=>hb.1
theorem rel_one_post (x:MRel) (B:Nat) (W:World) (hx:RelOk W (LtB B) x) (hf:FewRel x) (hB:B≤W.heap.size):Calls Tryz.prog 39 (#[x.agg] ++ #[]) W (OnePost MRel.agg MRel.p RelOk W B x):=by
 rw [Array.append_empty]
 exact copiedRelease_any x B W hx hf hB
theorem copyRels_any (A:Option Addr) (n c:Nat) (l:List MRel) (B:Nat) (w:World) (hl:RRow w (LtB B) A n l) (hn:n≤6) (hf:∀ r ∈ l,FewRel r) (hB:B≤w.heap.size) :
  Calls Tryz.prog 38 #[.slice A n c,.func (.func 39) #[] #[]] w (CopyPost MRel.vals 8 36 MRel.p RelOk w B l) :=
 copiedRelease_list 39 #[] (enters_of Tryz.func39 (by kernel_rfl) rfl) A n c l (LtB B) B w hl.row (by omega) hB
  fun W x hx hb=>rel_one_post x B W ((hl.ok x hx).keep (KeepS.of_below hb)) (hf x hx) (Nat.le_trans hB hb.size)
end Go.Proofs.YtnpjklaaokiikaaGreatDoor.Copy
