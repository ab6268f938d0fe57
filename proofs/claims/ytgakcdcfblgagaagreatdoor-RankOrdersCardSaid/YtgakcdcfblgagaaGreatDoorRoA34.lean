/-
  What the theorem of the last text needs of these: RkRel, RkBin. Conditions: as each theorem states.
-/
import Derived.Test.YtgakcdcfblgagaaGreatDoorRoA1
import Derived.Test.YtgakcdcfblgagaaGreatDoorRoA11
import Derived.Test.YtgakcdcfblgagaaGreatDoorRoA19
import Derived.Test.YtgakcdcfblgagaaGreatDoorRoA31
import Derived.Test.YtgakcdcfblgagaaGreatDoorRoA32
import Derived.Test.YtgakcdcfblgagaaGreatDoorRoA33
set_option maxRecDepth 100000
set_option maxHeartbeats 25600000
namespace Go.Proofs.YtgakcdcfblgagaaGreatDoor.Rank
open Go.RowKit Num Ident Semver Fr
open Range (Rng noRng RV KeepS LtB LenOk goodR wt)
open KR (KRow AtV)
open Model (PDep PRel PPack MDep MVer MRel MPack DepOk VerOk RelOk PackOk DRow RRow PRow SlOk FewX FewRel strKeyed strKey PlainPost PlainOf releaseO)
open Copy (atv_fill but_fill)

theorem krow_one {α:Type} [Inhabited α] {vals:α→List Value} {k:Nat} (w:World) (t:TypeId) (x:α) {B:Nat} (hB:w.heap.size<B):KRow vals k (w.alloc (.cells (vals x).toArray t)) (LtB B) (some ⟨w.heap.size,0,none⟩) 1 [x]:=by
 refine ⟨rfl,fun _=>⟨w.heap.size,0,rfl,hB,by simp,fun j hj i u hu=>?_⟩⟩
 obtain rfl:j=0:=by omega
 have:=(AtV.new w t (vals x)).at_ i u hu
 rw [show (0:Nat)+0 * k+i=i by omega]; exact this
def aloneP (R:Addr) (r:MRel):MPack:=⟨[],some R,1,[r]⟩
theorem alone_few {r:MRel} (R:Addr) (h:FewRel r):FewX [aloneP R r] :=
 ⟨by simp,(fun p hp=>by obtain rfl:=List.mem_singleton.1 hp; exact ⟨by show 0≤300; omega,by show 1≤6; omega⟩),fun p hp r' hr=>by
  obtain rfl:=List.mem_singleton.1 hp
  obtain rfl:r'=r:=List.mem_singleton.1 hr
  exact h⟩
theorem alone_rel (r:PRel):releaseO [⟨[],[r]⟩] [] r.v=some r:=by
 unfold releaseO
 simp [sameV_self]
theorem alone_made (w:World) (r:MRel) (h:RelOk w (LtB w.heap.size) r):∃ W,W=((w.alloc (.cells #[r.ver.v.a,r.ver.v.b,r.ver.v.c,.slice r.ver.A r.ver.v.pre.length r.ver.c,.slice r.ver.B r.ver.v.build.length r.ver.d,.bool r.yanked,.slice r.N r.needs.length r.nc,.slice r.B r.bans.length r.bc] 46)).alloc (.cells #[.string { data:=#[] },.slice (some ⟨w.heap.size,0,none⟩) 1 1] 48)).alloc (.cells #[.slice (some ⟨w.heap.size+1,0,none⟩) 1 1] 26)∧PRow W (LtB W.heap.size) (some ⟨w.heap.size+1,0,none⟩) 1 [aloneP ⟨w.heap.size,0,none⟩ r]∧AtV W (w.heap.size+1+1) [.slice (some ⟨w.heap.size+1,0,none⟩) 1 1]∧Below w.heap.size w W:=by
 obtain ⟨B,hB⟩:∃ B,B=w.heap.size+3:=⟨_,rfl⟩
 obtain ⟨V2,hV2⟩:∃ V,V=w.alloc (.cells r.vals.toArray 46):=⟨_,rfl⟩
 have z2:V2.heap.size=w.heap.size+1:=by rw [hV2]; simp
 have b2:Below w.heap.size w V2:=by rw [hV2]; exact (Below.refl _ _).alloc (Nat.le_refl _) _
 have k2:KRow MRel.vals 8 V2 (LtB B) (some ⟨w.heap.size,0,none⟩) 1 [r]:=by rw [hV2]; exact krow_one w _ _ (by omega)
 have ro:RelOk V2 (LtB B) r:=(h.keep (KeepS.of_below b2)).mono fun b g _=>by have:b<w.heap.size:=g; show b<B; omega
 have ok2:RRow V2 (LtB B) (some ⟨w.heap.size,0,none⟩) 1 [r]:=⟨k2,fun d hd=>by obtain rfl:=List.mem_singleton.1 hd; exact ro⟩
 obtain ⟨p,hp⟩:∃ p,p=aloneP ⟨w.heap.size,0,none⟩ r:=⟨_,rfl⟩
 obtain ⟨V3,hV3⟩:∃ V,V=V2.alloc (.cells p.vals.toArray 48):=⟨_,rfl⟩
 have z3:V3.heap.size=w.heap.size+1+1:=by rw [hV3]; simp [z2]
 have k3:KRow MPack.vals 2 V3 (LtB B) (some ⟨w.heap.size+1,0,none⟩) 1 [p]:=by rw [hV3,← z2]; exact krow_one V2 _ _ (by omega)
 have po:PackOk V3 (LtB B) p:=by
  have:=ok2.keep (KeepS.alloc (S:=LtB B) V2 (.cells p.vals.toArray 48))
  rw [← hV3] at this
  rw [hp]
  exact ⟨Nat.zero_le _,this,⟨Nat.le_refl _,by show 1≤maxLen; unfold maxLen; omega⟩,fun e=>by cases e⟩
 have ok3:PRow V3 (LtB B) (some ⟨w.heap.size+1,0,none⟩) 1 [p]:=⟨k3,fun d hd=>by obtain rfl:=List.mem_singleton.1 hd; exact po⟩
 have a4:AtV (V3.alloc (.cells #[.slice (some ⟨w.heap.size+1,0,none⟩) 1 1] 26)) (w.heap.size+1+1) [.slice (some ⟨w.heap.size+1,0,none⟩) 1 1]:=by rw [← z3]; exact AtV.new V3 _ _
 have hB5:(V3.alloc (.cells #[.slice (some ⟨w.heap.size+1,0,none⟩) 1 1] 26)).heap.size=B:=by simp [z3]; omega
 refine ⟨V3.alloc (.cells #[.slice (some ⟨w.heap.size+1,0,none⟩) 1 1] 26),by rw [hV3,hp,hV2]; rfl,?_,a4,?_⟩
 ·rw [hB5,← hp]
  exact ok3.keep (KeepS.alloc (S:=LtB B) V3 _)
 ·rw [hV3]
  exact (b2.alloc b2.size _).alloc (by rw [size_alloc]; have:=b2.size; omega) _
def RelKPost (l:List MRel) (k:Int) (w:World) (e:Ending) (w':World):Prop:=∃ r:MRel,e=.returned (.tuple #[r.agg,.bool (relB l k)])∧r.p=(relM l k).p∧RelOk w' (LtB w'.heap.size) r∧Below w.heap.size w w'
theorem relM_mem {l:List MRel} {k:Int} (h:relB l k=true):relM l k ∈ l:=by
 unfold relB at h
 unfold relM
 have h:=of_decide_eq_true h
 rw [if_pos h,List.getD_eq_getElem?_getD,List.getElem?_eq_getElem (show k.toNat<l.length by omega)]
 exact List.getElem_mem _
theorem release_any (tb mb:Nat) (A:Option Addr) (n c:Nat) (y:List MPack) (p k:Int) (w:World) (h:Tbl w tb mb A n c y) :
  Calls Tryz.prog 18 #[.pointer (some ⟨tb,0,none⟩),.int .i64 p,.int .i64 k] w (RelKPost (packM y p).rels k w):=by
 obtain ⟨W0,hW,h1,hb⟩:∃ W,W=w.alloc (.cells #[.int .u64 0,.int .u64 0,.int .u64 0,.slice none 0 0,.slice none 0 0,.bool false,.slice none 0 0,.slice none 0 0] 46)∧AtV W w.heap.size [.int .u64 0,.int .u64 0,.int .u64 0,.slice none 0 0,.slice none 0 0,.bool false,.slice none 0 0,.slice none 0 0]∧Below w.heap.size w W:=⟨_,rfl,AtV.new w _ _,(Below.refl _ _).alloc (Nat.le_refl _) _⟩
 have his:Copy.Is W0 w.heap.size 46:=by rw [hW]; exact ⟨_,heap_alloc_new w _⟩
 have H:=Lib.hid (h.kept hb)
 have HZ:=Lib.hid h1
 have HB:=Lib.hid hb
 have HIS:=Lib.hid his
 have HMEM:Hid (relB (packM y p).rels k=true→RelOk W0 (LtB w.heap.size) (relM (packM y p).rels k)∧FewRel (relM (packM y p).rels k)):=fun hr=>by
  have hm:=relM_mem hr
  have hp:=h.pack p
  exact ⟨(hp.1.rels.ok _ hm).keep (KeepS.of_below hb),hp.2.2.2.1 _ hm⟩
 have HDF:Hid (relB (packM y p).rels k=false→relM (packM y p).rels k=default):=fun h=>by
  unfold relB at h
  unfold relM
  rw [if_neg (of_decide_eq_false h)]
 have HC:=Lib.hid (rel_any tb mb A n c y p k W0 H.out)
 clear h h1 hb his H
 unfold RelKPost
 generalize relM (packM y p).rels k=r at HMEM HDF HC ⊢
 generalize relB (packM y p).rels k=ok at HMEM HDF HC ⊢
 obtain ⟨zb,hzb⟩:∃ zb,w.heap.size=zb:=⟨_,rfl⟩
 have HZB:=Lib.hid hzb
 go_enter Tryz.func18,Tryz.ntmps18
 go_upto_region 1 with (fail)
 rw [← hW]
 rw [hzb] at HZ HIS HMEM
 try rw [hzb]
 clear hW hzb
 have hzw:=HZB.out
 go_wp2_with fail
 refine HC.out.mono ?_
 rintro e W1 ⟨rfl,hb1⟩
 have HB1:=Lib.hid (HB.out.trans (hb1.mono HB.out.size))
 have HZ1:=Lib.hid (HZ.out.kept hb1 HZ.out.lt)
 have HIS1:=Lib.hid (HIS.out.below hb1)
 have HM1:Hid (ok=true→RelOk W1 (LtB zb) r∧FewRel r):=fun hr=>⟨(HMEM.out hr).1.keep (KeepS.of_below hb1),(HMEM.out hr).2⟩
 have hz1:zb<W1.heap.size:=HZ1.out.lt
 clear hb1 HB HZ HIS HMEM HC
 unfold MRel.agg
 go_upto_region 2 with (fail)
 have HR:Hid (AtV (W1.alloc (.cells #[r.ver.v.a,r.ver.v.b,r.ver.v.c,.slice r.ver.A r.ver.v.pre.length r.ver.c,.slice r.ver.B r.ver.v.build.length r.ver.d,.bool r.yanked,.slice r.N r.needs.length r.nc,.slice r.B r.bans.length r.bc] 46)) W1.heap.size [.int .u64 r.ver.v.a,.int .u64 r.ver.v.b,.int .u64 r.ver.v.c,.slice r.ver.A r.ver.v.pre.length r.ver.c,.slice r.ver.B r.ver.v.build.length r.ver.d,.bool r.yanked,.slice r.N r.needs.length r.nc,.slice r.B r.bans.length r.bc]):=AtV.new W1 _ _
 have hb2:Below W1.heap.size W1 (W1.alloc (.cells #[r.ver.v.a,r.ver.v.b,r.ver.v.c,.slice r.ver.A r.ver.v.pre.length r.ver.c,.slice r.ver.B r.ver.v.build.length r.ver.d,.bool r.yanked,.slice r.N r.needs.length r.nc,.slice r.B r.bans.length r.bc] 46)):=(Below.refl _ _).alloc (Nat.le_refl _) _
 have HB2:=Lib.hid (HB1.out.trans (hb2.mono HB1.out.size))
 have HZ2:=Lib.hid (HZ1.out.kept hb2 HZ1.out.lt)
 have HIS2:=Lib.hid (HIS1.out.below hb2)
 have HM2:Hid (ok=true→RelOk (W1.alloc (.cells #[r.ver.v.a,r.ver.v.b,r.ver.v.c,.slice r.ver.A r.ver.v.pre.length r.ver.c,.slice r.ver.B r.ver.v.build.length r.ver.d,.bool r.yanked,.slice r.N r.needs.length r.nc,.slice r.B r.bans.length r.bc] 46)) (LtB zb) r∧FewRel r):=fun hr=>⟨(HM1.out hr).1.keep (KeepS.of_below hb2),(HM1.out hr).2⟩
 have HSZ:Hid ((W1.alloc (.cells #[r.ver.v.a,r.ver.v.b,r.ver.v.c,.slice r.ver.A r.ver.v.pre.length r.ver.c,.slice r.ver.B r.ver.v.build.length r.ver.d,.bool r.yanked,.slice r.N r.needs.length r.nc,.slice r.B r.bans.length r.bc] 46)).heap.size=W1.heap.size+1):=size_alloc _ _
 generalize W1.alloc (.cells #[r.ver.v.a,r.ver.v.b,r.ver.v.c,.slice r.ver.A r.ver.v.pre.length r.ver.c,.slice r.ver.B r.ver.v.build.length r.ver.d,.bool r.yanked,.slice r.N r.needs.length r.nc,.slice r.B r.bans.length r.bc] 46)=W2 at HR HB2 HZ2 HIS2 HM2 HSZ ⊢
 clear hb2 HB1 HZ1 HIS1 HM1
 obtain ⟨rb,hrb⟩:∃ rb,W1.heap.size=rb:=⟨_,rfl⟩
 rw [hrb] at HR HSZ hz1
 try rw [hrb]
 clear hrb
 cases ok with
 | false =>
  have HDR:=Lib.hid (HDF.out rfl)
  have HB:=HB2
  have HZ:=HZ2
  have z0:=HZ.out.at_ 0 _ rfl
  have z1:=HZ.out.at_ 1 _ rfl
  have z2:=HZ.out.at_ 2 _ rfl
  have z3:=HZ.out.at_ 3 _ rfl
  have z4:=HZ.out.at_ 4 _ rfl
  have z5:=HZ.out.at_ 5 _ rfl
  have z6:=HZ.out.at_ 6 _ rfl
  have z7:=HZ.out.at_ 7 _ rfl
  have hzl:zb<W2.heap.size:=HZ.out.lt
  have hzf:=HZ.out.fr
  go_wp2
  have HA3:Hid (AtV ((((((((W2.setCell ⟨zb,0,none⟩ (.int .u64 0)).setCell ⟨zb,1,none⟩ (.int .u64 0)).setCell ⟨zb,2,none⟩ (.int .u64 0)).setCell ⟨zb,3,none⟩ (.slice none 0 0)).setCell ⟨zb,4,none⟩ (.slice none 0 0)).setCell ⟨zb,5,none⟩ (.bool false)).setCell ⟨zb,6,none⟩ (.slice none 0 0)).setCell ⟨zb,7,none⟩ (.slice none 0 0)) (zb) [.int .u64 0,.int .u64 0,.int .u64 0,.slice none 0 0,.slice none 0 0,.bool false,.slice none 0 0,.slice none 0 0]):=atv_fill HZ.out [.int .u64 0,.int .u64 0,.int .u64 0,.slice none 0 0,.slice none 0 0,.bool false,.slice none 0 0,.slice none 0 0] 0 rfl
  have HB3:Hid (But (fun k=>k=zb) W2 ((((((((W2.setCell ⟨zb,0,none⟩ (.int .u64 0)).setCell ⟨zb,1,none⟩ (.int .u64 0)).setCell ⟨zb,2,none⟩ (.int .u64 0)).setCell ⟨zb,3,none⟩ (.slice none 0 0)).setCell ⟨zb,4,none⟩ (.slice none 0 0)).setCell ⟨zb,5,none⟩ (.bool false)).setCell ⟨zb,6,none⟩ (.slice none 0 0)).setCell ⟨zb,7,none⟩ (.slice none 0 0))):=but_fill W2 (zb) [.int .u64 0,.int .u64 0,.int .u64 0,.slice none 0 0,.slice none 0 0,.bool false,.slice none 0 0,.slice none 0 0] 0
  clear z0 z1 z2 z3 z4 z5 z6 z7 hzl hzf
  try simp only [Exit.jump]
  generalize ((((((((W2.setCell ⟨zb,0,none⟩ (.int .u64 0)).setCell ⟨zb,1,none⟩ (.int .u64 0)).setCell ⟨zb,2,none⟩ (.int .u64 0)).setCell ⟨zb,3,none⟩ (.slice none 0 0)).setCell ⟨zb,4,none⟩ (.slice none 0 0)).setCell ⟨zb,5,none⟩ (.bool false)).setCell ⟨zb,6,none⟩ (.slice none 0 0)).setCell ⟨zb,7,none⟩ (.slice none 0 0))=W9 at HA3 HB3 ⊢
  have y0:=HA3.out.at_ 0 _ rfl
  have y1:=HA3.out.at_ 1 _ rfl
  have y2:=HA3.out.at_ 2 _ rfl
  have y3:=HA3.out.at_ 3 _ rfl
  have y4:=HA3.out.at_ 4 _ rfl
  have y5:=HA3.out.at_ 5 _ rfl
  have y6:=HA3.out.at_ 6 _ rfl
  have y7:=HA3.out.at_ 7 _ rfl
  have hbw:Below w.heap.size w W9:=HB.out.trans (HB3.out.below (B:=w.heap.size) (fun k e=>by omega) HB.out.size)
  refine bodyPost_ret (v:=.tuple #[.agg #[.int .u64 0,.int .u64 0,.int .u64 0,.slice none 0 0,.slice none 0 0,.bool false,.slice none 0 0,.slice none 0 0],.bool false]) (by simp [results,Tryz.results18,go_sem,y0,y1,y2,y3,y4,y5,y6,y7]) rfl ⟨default,rfl,by rw [HDR.out],Copy.rel_default W9,(by first | exact hbw | exact HZB.out ▸ hbw)⟩
 | true =>
  obtain ⟨hro,hfew⟩:=HM2.out rfl
  have HRO:=Lib.hid hro
  have HFW:=Lib.hid hfew
  obtain ⟨W3,hW3,hpr,hix,hb3⟩:=alone_made W2 r (hro.mono fun b g _=>Nat.lt_trans (show b<zb from g) HZ2.out.lt)
  have HPR:=Lib.hid hpr
  have HIX:=Lib.hid hix
  have HB3:=Lib.hid (HB2.out.trans (hb3.mono HB2.out.size))
  have HZ3:=Lib.hid (HZ2.out.kept hb3 HZ2.out.lt)
  have HIS3:=Lib.hid (HIS2.out.below hb3)
  have HR3:=Lib.hid (HR.out.kept hb3 HR.out.lt)
  have HRA:Hid (RelOk W3 (LtB zb) r):=hro.keep (KeepS.of_below hb3)
  have HRO3:Hid (VerOk W3 (LtB W3.heap.size) r.ver):=((hro.keep (KeepS.of_below hb3)).mono fun b g _=>Nat.lt_of_lt_of_le (Nat.lt_trans (show b<zb from g) HZ2.out.lt) hb3.size).ver
  clear hro hfew hpr hix hb3 HM2 HDF
  have r0:=HR.out.at_ 0 _ rfl
  have r1:=HR.out.at_ 1 _ rfl
  have r2:=HR.out.at_ 2 _ rfl
  have r3:=HR.out.at_ 3 _ rfl
  have r4:=HR.out.at_ 4 _ rfl
  have r5:=HR.out.at_ 5 _ rfl
  have r6:=HR.out.at_ 6 _ rfl
  have r7:=HR.out.at_ 7 _ rfl
  go_upto_region 5 with (fail)
  rw [← hW3]
  clear hW3 r0 r1 r2 r3 r4 r5 r6 r7
  have r0:=HR3.out.at_ 0 _ rfl
  have r1:=HR3.out.at_ 1 _ rfl
  have r2:=HR3.out.at_ 2 _ rfl
  have r3:=HR3.out.at_ 3 _ rfl
  have r4:=HR3.out.at_ 4 _ rfl
  have i0:=HIX.out.at_ 0 _ rfl
  go_wp2_with fail
  refine (Copy.releaseB_any (some ⟨W2.heap.size+1,0,none⟩) 1 1 [aloneP ⟨W2.heap.size,0,none⟩ r] [] r.ver W3.heap.size W3 HPR.out HRO3.out (Nat.le_refl _) ⟨Nat.le_refl _,by unfold maxLen; omega,fun e=>by cases e⟩ (alone_few _ HFW.out) (Nat.zero_le _) zb (fun p hp r' hr=>by obtain rfl:=List.mem_singleton.1 hp; obtain rfl:r'=r:=List.mem_singleton.1 hr; exact HRA.out) (Nat.le_of_lt HZ3.out.lt)).mono ?_
  rintro e W4 ⟨q,rfl,hqp,hqo,hb4⟩
  have he:releaseO ([aloneP ⟨W2.heap.size,0,none⟩ r].map MPack.p) [] r.ver.v=some r.p:=alone_rel r.p
  rw [he] at hqp ⊢
  have HQP:Hid (q.p=r.p):=hqp
  have HQO:Hid (RelOk W4 (fun b=>b≠zb) q):=hqo.mono fun b hq _=>hq zb HZ3.out.lt (HIS3.out.not (by decide) (Nat.le_refl _))
  have HB:=Lib.hid (HB3.out.trans (hb4.mono HB3.out.size))
  have HZ:=Lib.hid (HZ3.out.kept hb4 HZ3.out.lt)
  clear hqp hqo hb4 i0 r0 r1 r2 r3 r4 he
  have z0:=HZ.out.at_ 0 _ rfl
  have z1:=HZ.out.at_ 1 _ rfl
  have z2:=HZ.out.at_ 2 _ rfl
  have z3:=HZ.out.at_ 3 _ rfl
  have z4:=HZ.out.at_ 4 _ rfl
  have z5:=HZ.out.at_ 5 _ rfl
  have z6:=HZ.out.at_ 6 _ rfl
  have z7:=HZ.out.at_ 7 _ rfl
  have hzl:zb<W4.heap.size:=HZ.out.lt
  have hzf:=HZ.out.fr
  unfold MRel.agg
  go_wp2
  have HA3:Hid (AtV ((((((((W4.setCell ⟨zb,0,none⟩ q.ver.v.a).setCell ⟨zb,1,none⟩ q.ver.v.b).setCell ⟨zb,2,none⟩ q.ver.v.c).setCell ⟨zb,3,none⟩ (.slice q.ver.A q.ver.v.pre.length q.ver.c)).setCell ⟨zb,4,none⟩ (.slice q.ver.B q.ver.v.build.length q.ver.d)).setCell ⟨zb,5,none⟩ (.bool q.yanked)).setCell ⟨zb,6,none⟩ (.slice q.N q.needs.length q.nc)).setCell ⟨zb,7,none⟩ (.slice q.B q.bans.length q.bc)) (zb) [.int .u64 q.ver.v.a,.int .u64 q.ver.v.b,.int .u64 q.ver.v.c,.slice q.ver.A q.ver.v.pre.length q.ver.c,.slice q.ver.B q.ver.v.build.length q.ver.d,.bool q.yanked,.slice q.N q.needs.length q.nc,.slice q.B q.bans.length q.bc]):=atv_fill HZ.out [.int .u64 q.ver.v.a,.int .u64 q.ver.v.b,.int .u64 q.ver.v.c,.slice q.ver.A q.ver.v.pre.length q.ver.c,.slice q.ver.B q.ver.v.build.length q.ver.d,.bool q.yanked,.slice q.N q.needs.length q.nc,.slice q.B q.bans.length q.bc] 0 rfl
  have HBF:Hid (But (fun k=>k=zb) W4 ((((((((W4.setCell ⟨zb,0,none⟩ q.ver.v.a).setCell ⟨zb,1,none⟩ q.ver.v.b).setCell ⟨zb,2,none⟩ q.ver.v.c).setCell ⟨zb,3,none⟩ (.slice q.ver.A q.ver.v.pre.length q.ver.c)).setCell ⟨zb,4,none⟩ (.slice q.ver.B q.ver.v.build.length q.ver.d)).setCell ⟨zb,5,none⟩ (.bool q.yanked)).setCell ⟨zb,6,none⟩ (.slice q.N q.needs.length q.nc)).setCell ⟨zb,7,none⟩ (.slice q.B q.bans.length q.bc))):=but_fill W4 (zb) [.int .u64 q.ver.v.a,.int .u64 q.ver.v.b,.int .u64 q.ver.v.c,.slice q.ver.A q.ver.v.pre.length q.ver.c,.slice q.ver.B q.ver.v.build.length q.ver.d,.bool q.yanked,.slice q.N q.needs.length q.nc,.slice q.B q.bans.length q.bc] 0
  clear z0 z1 z2 z3 z4 z5 z6 z7 hzl hzf
  try simp only [Exit.jump]
  generalize ((((((((W4.setCell ⟨zb,0,none⟩ q.ver.v.a).setCell ⟨zb,1,none⟩ q.ver.v.b).setCell ⟨zb,2,none⟩ q.ver.v.c).setCell ⟨zb,3,none⟩ (.slice q.ver.A q.ver.v.pre.length q.ver.c)).setCell ⟨zb,4,none⟩ (.slice q.ver.B q.ver.v.build.length q.ver.d)).setCell ⟨zb,5,none⟩ (.bool q.yanked)).setCell ⟨zb,6,none⟩ (.slice q.N q.needs.length q.nc)).setCell ⟨zb,7,none⟩ (.slice q.B q.bans.length q.bc))=W9 at HA3 HBF ⊢
  have y0:=HA3.out.at_ 0 _ rfl
  have y1:=HA3.out.at_ 1 _ rfl
  have y2:=HA3.out.at_ 2 _ rfl
  have y3:=HA3.out.at_ 3 _ rfl
  have y4:=HA3.out.at_ 4 _ rfl
  have y5:=HA3.out.at_ 5 _ rfl
  have y6:=HA3.out.at_ 6 _ rfl
  have y7:=HA3.out.at_ 7 _ rfl
  have hbw:Below w.heap.size w W9:=HB.out.trans (HBF.out.below (B:=w.heap.size) (fun k e=>by omega) HB.out.size)
  have hks:KeepS (fun b=>b≠zb) W4 W9:=Copy.keep_but HBF.out fun g hg e=>hg e
  refine bodyPost_ret (v:=.tuple #[.agg #[q.ver.v.a,q.ver.v.b,q.ver.v.c,.slice q.ver.A q.ver.v.pre.length q.ver.c,.slice q.ver.B q.ver.v.build.length q.ver.d,.bool q.yanked,.slice q.N q.needs.length q.nc,.slice q.B q.bans.length q.bc],.bool true]) (by simp [results,Tryz.results18,go_sem,y0,y1,y2,y3,y4,y5,y6,y7]) rfl ⟨q,rfl,HQP.out,(HQO.out.keep hks).mono fun b _ hl=>hl,(by first | exact hbw | exact HZB.out ▸ hbw)⟩
end Go.Proofs.YtgakcdcfblgagaaGreatDoor.Rank
namespace Go.Proofs.YtgakcdcfblgagaaGreatDoor.Rank
open Go.RowKit Num Ident Semver Fr
open Range (Rng noRng RV KeepS LtB LenOk goodR wt)
open KR (KRow AtV)
open Model (PDep PRel PPack MDep MVer MRel MPack DepOk VerOk RelOk PackOk DRow RRow PRow SlOk FewX FewRel strKeyed strKey PlainPost PlainOf releaseO)
open Copy (atv_fill but_fill)

open Prec (fullV fullV_ordr)
theorem two_made (w:World) (L M:List Value) (t u:TypeId):∃ W,W=(w.alloc (.cells L.toArray t)).alloc (.cells M.toArray u)∧AtV W w.heap.size L∧AtV W (w.heap.size+1) M∧Below w.heap.size w W:=by
 obtain ⟨W,h,a,b,c,_⟩:=Copy.two_new w L M t u
 exact ⟨W,h,a,b,c⟩
theorem rankF_any (x:MRel) (v:MVer) (S S':Nat→Prop) (w:World) (h1:VerOk w S x.ver) (h2:VerOk w S' v):Calls Tryz.prog 59 #[x.agg,v.agg] w fun e w'=>e=.returned (.int .i64 (fullV x.ver.v v.v))∧Below w.heap.size w w':=by
 obtain ⟨W0,hW,a1,a2,hb⟩:=two_made w [.int .u64 x.ver.v.a,.int .u64 x.ver.v.b,.int .u64 x.ver.v.c,.slice x.ver.A x.ver.v.pre.length x.ver.c,.slice x.ver.B x.ver.v.build.length x.ver.d,.bool x.yanked,.slice x.N x.needs.length x.nc,.slice x.B x.bans.length x.bc] [.int .u64 v.v.a,.int .u64 v.v.b,.int .u64 v.v.c,.slice v.A v.v.pre.length v.c,.slice v.B v.v.build.length v.d] 46 37
 have H1:=Lib.hid a1
 have H2:=Lib.hid a2
 have HB:=Lib.hid hb
 have HX:=Lib.hid (h1.keep (KeepS.of_below hb))
 have HY:=Lib.hid (h2.keep (KeepS.of_below hb))
 clear h1 h2 hb a1 a2
 obtain ⟨xb,hxb⟩:∃ xb,w.heap.size=xb:=⟨_,rfl⟩
 unfold MRel.agg MVer.agg
 go_enter Tryz.func59,Tryz.ntmps59
 go_upto_region 1 with (fail)
 rw [← hW]
 rw [hxb] at H1 H2
 try rw [hxb]
 clear hW hxb
 have x0:=H1.out.at_ 0 _ rfl
 have x1:=H1.out.at_ 1 _ rfl
 have x2:=H1.out.at_ 2 _ rfl
 have x3:=H1.out.at_ 3 _ rfl
 have x4:=H1.out.at_ 4 _ rfl
 have y0:=H2.out.at_ 0 _ rfl
 have y1:=H2.out.at_ 1 _ rfl
 have y2:=H2.out.at_ 2 _ rfl
 have y3:=H2.out.at_ 3 _ rfl
 have y4:=H2.out.at_ 4 _ rfl
 go_wp2_with fail
 refine (Prec.full_anyD x.ver.v v.v x.ver.A x.ver.B v.A v.B x.ver.c x.ver.d v.c v.d _ HX.out.pre HX.out.build HY.out.pre HY.out.build ⟨HX.out.fit.pre,HX.out.fit.pres⟩ ⟨HX.out.fit.build,HX.out.fit.builds⟩ ⟨HY.out.fit.pre,HY.out.fit.pres⟩ ⟨HY.out.fit.build,HY.out.fit.builds⟩).mono ?_
 rintro e w' ⟨rfl,hb⟩
 have HB2:=Lib.hid (HB.out.trans (hb.toBelow.mono HB.out.size))
 clear hb x0 x1 x2 x3 x4 y0 y1 y2 y3 y4
 obtain ⟨q,hq⟩:∃ q,fullV x.ver.v v.v=q:=⟨_,rfl⟩
 have HQ:=Lib.hid hq
 rw [hq]
 clear hq
 go_wp2
 go_ret
 exact ⟨by rw [HQ.out]; rfl,HB2.out⟩
def BinAt (l:List MRel) (v:MVer) (i j:Nat):Prop:=(∀ k,k<i→fullV (l.getD k default).ver.v v.v<0)∧∀ k,j≤k→k<l.length→0≤fullV (l.getD k default).ver.v v.v
theorem rels_getD (l:List MRel) (k:Nat):(l.map MRel.p).getD k default=(l.getD k default).p:=by
 rw [List.getD_eq_getElem?_getD,List.getD_eq_getElem?_getD,List.getElem?_map]
 cases l[k]? <;> rfl
def StrictM (l:List MRel):Prop:=(l.map MRel.p).Pairwise fun a b=>fullV a.v b.v<0
theorem StrictM.lt {l:List MRel} (h:StrictM l) {i j:Nat} (hij:i<j) (hj:j<l.length):fullV (l.getD i default).ver.v (l.getD j default).ver.v<0:=by
 have:=pwD h hij (by rw [List.length_map]; exact hj)
 rw [rels_getD,rels_getD] at this
 exact this
theorem full_lt_le {u v x:Ver} (h:fullV u v<0) (k:fullV v x<0):fullV u x<0:=by
 have a:=fullV_ordr.trans u v x (by omega) (by omega)
 rcases Int.lt_or_eq_of_le a with g | g
 ·exact g
 ·have:=full_eq g
  subst this
  have:=fullV_ordr.flip u v
  omega
theorem BinAt.up {l:List MRel} {v:MVer} {i j h:Nat} (hs:StrictM l) (b:BinAt l v i j) (hh:h<l.length) (hc:fullV (l.getD h default).ver.v v.v<0):BinAt l v (h+1) j :=
 ⟨fun k hk=>by
  by_cases e:k=h
  ·subst e; exact hc
  ·exact full_lt_le (hs.lt (show k<h by omega) hh) hc,b.2⟩
theorem BinAt.down {l:List MRel} {v:MVer} {i j h:Nat} (hs:StrictM l) (b:BinAt l v i j) (hc:¬ fullV (l.getD h default).ver.v v.v<0):BinAt l v i h :=
 ⟨b.1,fun k hk hkl=>by
  by_cases e:h=k
  ·subst e; omega
  ·have h1:=hs.lt (show h<k by omega) hkl
   by_cases h2:0≤fullV (l.getD k default).ver.v v.v
   ·exact h2
   ·exact absurd (full_lt_le h1 (by omega)) hc⟩
def BinPost (l:List MRel) (v:MVer) (w:World) (e:Ending) (w':World):Prop :=
 ∃ i:Nat,e=.returned (.tuple #[.int .i64 i,.bool (rankO (l.map MRel.p) v.v).isSome])∧(∀ k,rankO (l.map MRel.p) v.v=some k→i=k)∧Below w.heap.size w w'
theorem bin_yes {l:List MRel} {v:MVer} {i:Nat} (b:BinAt l v i i) (hi:i<l.length) (h:fullV (l.getD i default).ver.v v.v=0):rankO (l.map MRel.p) v.v=some i :=
 rank_yes (by rw [List.length_map]; exact hi) (fun j hj=>by rw [rels_getD]; exact b.1 j hj) (by rw [rels_getD]; exact h)
theorem bin_no {l:List MRel} {v:MVer} {i:Nat} (hs:StrictM l) (b:BinAt l v i i) (h:i<l.length→fullV (l.getD i default).ver.v v.v≠0):rankO (l.map MRel.p) v.v=none :=
 rank_no (i:=i) hs (fun j hj _=>by rw [rels_getD]; exact b.1 j hj) (fun j hj hjl=>by rw [rels_getD]; exact b.2 j hj (by rw [List.length_map] at hjl; exact hjl)) (fun hi=>by rw [rels_getD]; exact h (by rw [List.length_map] at hi; exact hi))
theorem bin_any (R:Option Addr) (n rc:Nat) (l:List MRel) (v:MVer) (S S':Nat→Prop) (w:World) (hr:RRow w S R n l) (hv:VerOk w S' v) (hn:n≤1000) (hs:StrictM l) :
  Calls Tryz.prog 57 #[.slice R n rc,v.agg,.func (.func 59) #[] #[]] w (BinPost l v w):=by
 obtain ⟨W0,hW,h1,hb⟩:∃ W,W=w.alloc (v.v,v.A,v.c,v.B,v.d)∧AtV W w.heap.size [.int .u64 v.v.a,.int .u64 v.v.b,.int .u64 v.v.c,.slice v.A v.v.pre.length v.c,.slice v.B v.v.build.length v.d]∧Below w.heap.size w W:=⟨_,rfl,AtV.new w _ _,(Below.refl _ _).alloc (Nat.le_refl _) _⟩
 have HR:=Lib.hid hr
 have HV:=Lib.hid hv
 have HA:=Lib.hid h1
 have HB:=Lib.hid hb
 have HS:=Lib.hid hs
 have HL:Hid (l.length=n):=hr.row.1
 have eg:∀ args w,(callFunc 59 args).run Tryz.prog w=.ok (.enter 59 args) w:=enters_of Tryz.func59 (by kernel_rfl) rfl
 have EG:=Lib.hid eg
 clear hr hv h1 hb hs eg
 obtain ⟨vb,hvb⟩:∃ vb,w.heap.size=vb:=⟨_,rfl⟩
 have HVB:=Lib.hid hvb
 unfold MVer.agg BinPost
 go_enter Tryz.func57,Tryz.ntmps57
 go_upto_region 1 with (fail)
 rw [← hW]
 rw [hvb] at HA
 try rw [hvb]
 clear hW hvb
 go_wp2
 go_loopw [9,10] (fun y z W=>∃ i j:Nat,i≤j∧j≤n∧y=.int .i64 i∧z=.int .i64 j∧Hid (BinAt l v i j)∧Hid (Below w.heap.size w W)∧Hid (AtV W vb [.int .u64 v.v.a,.int .u64 v.v.b,.int .u64 v.v.c,.slice v.A v.v.pre.length v.c,.slice v.B v.v.build.length v.d])) (fun y z _=>(intOf z - intOf y).toNat)
 case atStart=>exact ⟨0,n,Nat.zero_le _,Nat.le_refl _,rfl,rfl,⟨fun k hk=>absurd hk (Nat.not_lt_zero k),fun k h1 h2=>by have:=HL.out; omega⟩,HB.out,HA.out⟩
 case round =>
  rename World=>wk
  obtain ⟨i,j,hij,hjn,rfl,rfl,HBI,HW,HVK⟩:=hrel
  by_cases hlt:i<j
  ·obtain ⟨h,hh⟩:∃ h,(i+j) / 2=h:=⟨_,rfl⟩
   have hh1:i≤h∧h<j:=by omega
   have hhn:h<n:=by omega
   have hrow:=(HR.out.row.keep (KeepS.of_below (S:=S) HW.out)).at_ hhn
   obtain ⟨b,o,rfl,_,hbl,hcs⟩:=hrow
   have hmem:l.getD h default ∈ l:=by rw [List.getD_eq_getElem?_getD,List.getElem?_eq_getElem (by rw [HL.out]; exact hhn)]; exact List.getElem_mem _
   have HXO:Hid (VerOk wk S (l.getD h default).ver):=((HR.out.ok _ hmem).ver).keep (KeepS.of_below HW.out)
   have HUP:Hid (fullV (l.getD h default).ver.v v.v<0→BinAt l v (h+1) j):=fun q=>HBI.out.up HS.out (by rw [HL.out]; exact hhn) q
   have HDN:Hid (¬ fullV (l.getD h default).ver.v v.v<0→BinAt l v i h):=fun q=>HBI.out.down HS.out q
   obtain ⟨x,hx⟩:∃ x,l.getD h default=x:=⟨_,rfl⟩
   rw [hx] at hcs HXO HUP HDN
   clear hx hmem
   have x0:wk.cell? ⟨b,o+h * 8,none⟩=some (.int .u64 x.ver.v.a):=hcs 0 _ rfl
   have x1:wk.cell? ⟨b,o+h * 8+1,none⟩=some (.int .u64 x.ver.v.b):=hcs 1 _ rfl
   have x2:wk.cell? ⟨b,o+h * 8+2,none⟩=some (.int .u64 x.ver.v.c):=hcs 2 _ rfl
   have x3:wk.cell? ⟨b,o+h * 8+3,none⟩=some (.slice x.ver.A x.ver.v.pre.length x.ver.c):=hcs 3 _ rfl
   have x4:wk.cell? ⟨b,o+h * 8+4,none⟩=some (.slice x.ver.B x.ver.v.build.length x.ver.d):=hcs 4 _ rfl
   have x5:wk.cell? ⟨b,o+h * 8+5,none⟩=some (.bool x.yanked):=hcs 5 _ rfl
   have x6:wk.cell? ⟨b,o+h * 8+6,none⟩=some (.slice x.N x.needs.length x.nc):=hcs 6 _ rfl
   have x7:wk.cell? ⟨b,o+h * 8+7,none⟩=some (.slice x.B x.bans.length x.bc):=hcs 7 _ rfl
   clear hcs
   have v0:=HVK.out.at_ 0 _ rfl
   have v1:=HVK.out.at_ 1 _ rfl
   have v2:=HVK.out.at_ 2 _ rfl
   have v3:=HVK.out.at_ 3 _ rfl
   have v4:=HVK.out.at_ 4 _ rfl
   have hvl:=HVK.out.lt
   have hsum:IntKind.i64.wrap ((i:Int)+(j:Int))=(i:Int)+(j:Int):=by rw [IntKind.wrap_i64] <;> omega
   have hu:IntKind.u64.wrap ((i:Int)+(j:Int))=(i:Int)+(j:Int):=by rw [IntKind.wrap_u64] <;> omega
   have hdv:((i:Int)+(j:Int)) / 2=(h:Int):=by omega
   go_wp2
   clear hdv hu hsum
   have H0:Hid (Below wk.heap.size wk wk.drew):=(Below.refl _ _).drew
   refine wp_region_held_drew (S:=fun w'=>Below wk.heap.size wk w') (by kernel_rfl) H0.out (fun hHeld=>?_)
   generalize wk.drew=wd at H0 hHeld ⊢
   refine tk 0 rfl (.func (.func 59) #[] #[]) ?_
   refine tk 1 rfl (.slice (some ⟨b,o,none⟩) n rc) ?_
   refine tk 2 rfl (.int .i64 h) ?_
   refine tk 3 rfl (.pointer (some ⟨b,o+h * 8,none⟩)) ?_
   refine tk 4 rfl (.agg #[x.ver.v.a,x.ver.v.b,x.ver.v.c,.slice x.ver.A x.ver.v.pre.length x.ver.c,.slice x.ver.B x.ver.v.build.length x.ver.d,.bool x.yanked,.slice x.N x.needs.length x.nc,.slice x.B x.bans.length x.bc]) ?_ (hv:=fun w' hS'=>by ((have z0:=(hS'.cell (p:=⟨b,o+h * 8,none⟩) hbl).trans x0); (have z1:=(hS'.cell (p:=⟨b,o+h * 8+1,none⟩) hbl).trans x1); (have z2:=(hS'.cell (p:=⟨b,o+h * 8+2,none⟩) hbl).trans x2); (have z3:=(hS'.cell (p:=⟨b,o+h * 8+3,none⟩) hbl).trans x3); (have z4:=(hS'.cell (p:=⟨b,o+h * 8+4,none⟩) hbl).trans x4); (have z5:=(hS'.cell (p:=⟨b,o+h * 8+5,none⟩) hbl).trans x5); (have z6:=(hS'.cell (p:=⟨b,o+h * 8+6,none⟩) hbl).trans x6); (have z7:=(hS'.cell (p:=⟨b,o+h * 8+7,none⟩) hbl).trans x7)); go_simp)
   refine tk 5 rfl (.agg #[v.v.a,v.v.b,v.v.c,.slice v.A v.v.pre.length v.c,.slice v.B v.v.build.length v.d]) ?_ (hv:=fun w' hS'=>by ((have z0:=(hS'.cell (p:=⟨vb,0,none⟩) hvl).trans v0); (have z1:=(hS'.cell (p:=⟨vb,1,none⟩) hvl).trans v1); (have z2:=(hS'.cell (p:=⟨vb,2,none⟩) hvl).trans v2); (have z3:=(hS'.cell (p:=⟨vb,3,none⟩) hvl).trans v3); (have z4:=(hS'.cell (p:=⟨vb,4,none⟩) hvl).trans v4)); go_simp)
   refine cl 6 rfl fun K hK=>?_
   go_simp
   refine (rankF_any x v S S' wd (HXO.out.keep (KeepS.of_below H0.out)) (HV.out.keep (KeepS.of_below (HW.out.trans (H0.out.mono HW.out.size))))).mono ?_
   rintro e W2 ⟨rfl,hb2⟩
   have HW2:=Lib.hid (HW.out.trans ((H0.out.trans (hb2.mono H0.out.size)).mono HW.out.size))
   have HV2:=Lib.hid (HVK.out.kept (H0.out.trans (hb2.mono H0.out.size)) HVK.out.lt)
   refine hK.out _ _ (H0.out.trans (hb2.mono H0.out.size)) (fun hHeld2=>?_)
   clear hK K hb2 x0 x1 x2 x3 x4 x5 x6 x7 v0 v1 v2 v3 v4
   try simp only [Act.put,p1,p2,p3]
   generalize fullV x.ver.v v.v=q at HUP HDN ⊢
   have hn9:(n:Int)≤1000:=by omega
   by_cases hlq:q<0
   ·have hdq:decide (q<0)=true:=decide_eq_true hlq
    have HN:=Lib.hid (HUP.out hlq)
    refine tk 7 rfl (.bool true) ?_
    refine wpAnyH_done (by kernel_rfl) ?_ _
    go_wp2
    exact ⟨⟨h+1,j,by omega,hjn,by go_num,rfl,HN.out,HW2.out,HV2.out⟩,by simp [intOf]; omega⟩
   ·have hdq:decide (q<0)=false:=decide_eq_false hlq
    have HN:=Lib.hid (HDN.out (by omega))
    refine tk 7 rfl (.bool false) ?_
    refine wpAnyH_done (by kernel_rfl) ?_ _
    go_wp2
    exact ⟨⟨i,h,by omega,by omega,rfl,rfl,HN.out,HW2.out,HV2.out⟩,by simp [intOf]; omega⟩
  ·obtain rfl:i=j:=by omega
   by_cases hin:i<n
   ·have hrow:=(HR.out.row.keep (KeepS.of_below (S:=S) HW.out)).at_ hin
    obtain ⟨b,o,rfl,_,hbl,hcs⟩:=hrow
    have hmem:l.getD i default ∈ l:=by rw [List.getD_eq_getElem?_getD,List.getElem?_eq_getElem (by rw [HL.out]; exact hin)]; exact List.getElem_mem _
    have HXO:Hid (VerOk wk S (l.getD i default).ver):=((HR.out.ok _ hmem).ver).keep (KeepS.of_below HW.out)
    have HYES:Hid (fullV (l.getD i default).ver.v v.v=0→rankO (l.map MRel.p) v.v=some i):=fun q=>bin_yes HBI.out (by rw [HL.out]; exact hin) q
    have HNO:Hid (fullV (l.getD i default).ver.v v.v≠0→rankO (l.map MRel.p) v.v=none):=fun q=>bin_no HS.out HBI.out fun _=>q
    obtain ⟨x,hx⟩:∃ x,l.getD i default=x:=⟨_,rfl⟩
    rw [hx] at hcs HXO HYES HNO
    clear hx hmem
    have x0:wk.cell? ⟨b,o+i * 8,none⟩=some (.int .u64 x.ver.v.a):=hcs 0 _ rfl
    have x1:wk.cell? ⟨b,o+i * 8+1,none⟩=some (.int .u64 x.ver.v.b):=hcs 1 _ rfl
    have x2:wk.cell? ⟨b,o+i * 8+2,none⟩=some (.int .u64 x.ver.v.c):=hcs 2 _ rfl
    have x3:wk.cell? ⟨b,o+i * 8+3,none⟩=some (.slice x.ver.A x.ver.v.pre.length x.ver.c):=hcs 3 _ rfl
    have x4:wk.cell? ⟨b,o+i * 8+4,none⟩=some (.slice x.ver.B x.ver.v.build.length x.ver.d):=hcs 4 _ rfl
    have x5:wk.cell? ⟨b,o+i * 8+5,none⟩=some (.bool x.yanked):=hcs 5 _ rfl
    have x6:wk.cell? ⟨b,o+i * 8+6,none⟩=some (.slice x.N x.needs.length x.nc):=hcs 6 _ rfl
    have x7:wk.cell? ⟨b,o+i * 8+7,none⟩=some (.slice x.B x.bans.length x.bc):=hcs 7 _ rfl
    clear hcs
    have v0:=HVK.out.at_ 0 _ rfl
    have v1:=HVK.out.at_ 1 _ rfl
    have v2:=HVK.out.at_ 2 _ rfl
    have v3:=HVK.out.at_ 3 _ rfl
    have v4:=HVK.out.at_ 4 _ rfl
    have hvl:=HVK.out.lt
    go_wp2
    have H0:Hid (Below wk.heap.size wk wk.drew):=(Below.refl _ _).drew
    refine wp_region_held_drew (S:=fun w'=>Below wk.heap.size wk w') (by kernel_rfl) H0.out (fun hHeld=>?_)
    generalize wk.drew=wd at H0 hHeld ⊢
    have hdin:decide ((i:Int)<(n:Int))=true:=decide_eq_true (by omega)
    refine tk 0 rfl (.int .i64 i) ?_
    refine tk 1 rfl (.int .i64 i) ?_
    refine tk 2 rfl (.int .i64 n) ?_
    refine tk 3 rfl (.bool true) ?_
    refine tk 4 rfl (.bool true) ?_
    refine tk 5 rfl (.func (.func 59) #[] #[]) ?_
    refine tk 6 rfl (.slice (some ⟨b,o,none⟩) n rc) ?_
    refine tk 7 rfl (.int .i64 i) ?_
    refine tk 8 rfl (.pointer (some ⟨b,o+i * 8,none⟩)) ?_
    refine tk 9 rfl (.agg #[x.ver.v.a,x.ver.v.b,x.ver.v.c,.slice x.ver.A x.ver.v.pre.length x.ver.c,.slice x.ver.B x.ver.v.build.length x.ver.d,.bool x.yanked,.slice x.N x.needs.length x.nc,.slice x.B x.bans.length x.bc]) ?_ (hv:=fun w' hS'=>by ((have z0:=(hS'.cell (p:=⟨b,o+i * 8,none⟩) hbl).trans x0); (have z1:=(hS'.cell (p:=⟨b,o+i * 8+1,none⟩) hbl).trans x1); (have z2:=(hS'.cell (p:=⟨b,o+i * 8+2,none⟩) hbl).trans x2); (have z3:=(hS'.cell (p:=⟨b,o+i * 8+3,none⟩) hbl).trans x3); (have z4:=(hS'.cell (p:=⟨b,o+i * 8+4,none⟩) hbl).trans x4); (have z5:=(hS'.cell (p:=⟨b,o+i * 8+5,none⟩) hbl).trans x5); (have z6:=(hS'.cell (p:=⟨b,o+i * 8+6,none⟩) hbl).trans x6); (have z7:=(hS'.cell (p:=⟨b,o+i * 8+7,none⟩) hbl).trans x7)); go_simp)
    refine tk 10 rfl (.agg #[v.v.a,v.v.b,v.v.c,.slice v.A v.v.pre.length v.c,.slice v.B v.v.build.length v.d]) ?_ (hv:=fun w' hS'=>by ((have z0:=(hS'.cell (p:=⟨vb,0,none⟩) hvl).trans v0); (have z1:=(hS'.cell (p:=⟨vb,1,none⟩) hvl).trans v1); (have z2:=(hS'.cell (p:=⟨vb,2,none⟩) hvl).trans v2); (have z3:=(hS'.cell (p:=⟨vb,3,none⟩) hvl).trans v3); (have z4:=(hS'.cell (p:=⟨vb,4,none⟩) hvl).trans v4)); go_simp)
    refine cl 11 rfl fun K hK=>?_
    go_simp
    refine (rankF_any x v S S' wd (HXO.out.keep (KeepS.of_below H0.out)) (HV.out.keep (KeepS.of_below (HW.out.trans (H0.out.mono HW.out.size))))).mono ?_
    rintro e W2 ⟨rfl,hb2⟩
    have HW2:=Lib.hid (HW.out.trans ((H0.out.trans (hb2.mono H0.out.size)).mono HW.out.size))
    refine hK.out _ _ (H0.out.trans (hb2.mono H0.out.size)) (fun hHeld2=>?_)
    clear hK K hb2 x0 x1 x2 x3 x4 x5 x6 x7 v0 v1 v2 v3 v4
    try simp only [Act.put,p1,p2,p3]
    generalize fullV x.ver.v v.v=q at HYES HNO ⊢
    by_cases hq:q=0
    ·have HN:=Lib.hid (HYES.out hq)
     have hdq:(q == 0)=true:=by simpa using hq
     clear hq
     refine tk 12 rfl (.bool true) ?_
     refine tk 13 rfl (.bool true) ?_
     refine tk 14 rfl (.int .i64 i) ?_
     refine tk 15 rfl (.bool true) ?_
     refine wpAnyH_done (by kernel_rfl) ?_ _
     go_wp2
     go_ret2
     exact ⟨i,by rw [HN.out]; rfl,(fun k hk=>by rw [HN.out] at hk; injection hk),HW2.out⟩
    ·have HN:=Lib.hid (HNO.out hq)
     have hdq:(q == 0)=false:=by simpa using hq
     clear hq
     refine tk 12 rfl (.bool false) ?_
     refine tk 13 rfl (.bool false) ?_
     refine tk 14 rfl (.int .i64 i) ?_
     refine tk 15 rfl (.bool false) ?_
     refine wpAnyH_done (by kernel_rfl) ?_ _
     go_wp2
     go_ret2
     exact ⟨i,by rw [HN.out]; rfl,(fun k hk=>by rw [HN.out] at hk; cases hk),HW2.out⟩
   ·have HN:Hid (rankO (l.map MRel.p) v.v=none):=bin_no HS.out HBI.out fun q=>absurd q (by rw [HL.out]; exact hin)
    go_wp2
    have H0:Hid (Below wk.heap.size wk wk.drew):=(Below.refl _ _).drew
    refine wp_region_held_drew (S:=fun w'=>Below wk.heap.size wk w') (by kernel_rfl) H0.out (fun hHeld=>?_)
    generalize wk.drew=wd at H0 hHeld ⊢
    have HW2:=Lib.hid (HW.out.trans (H0.out.mono HW.out.size))
    have hdin:decide ((i:Int)<(n:Int))=false:=decide_eq_false (by omega)
    refine tk 0 rfl (.int .i64 i) ?_
    refine tk 1 rfl (.int .i64 i) ?_
    refine tk 2 rfl (.int .i64 n) ?_
    refine tk 3 rfl (.bool false) ?_
    refine tk 4 rfl (.bool false) ?_
    refine sk 5 rfl ?_
    refine sk 6 rfl ?_
    refine sk 7 rfl ?_
    refine sk 8 rfl ?_
    refine sk 9 rfl ?_
    refine sk 10 rfl ?_
    refine sk 11 rfl ?_
    refine sk 12 rfl ?_
    refine tk 13 rfl (.bool false) ?_
    refine tk 14 rfl (.int .i64 i) ?_
    refine tk 15 rfl (.bool false) ?_
    refine wpAnyH_done (by kernel_rfl) ?_ _
    go_wp2
    go_ret2
    exact ⟨i,by rw [HN.out]; rfl,(fun k hk=>by rw [HN.out] at hk; cases hk),HW2.out⟩
theorem rank_any (tb mb:Nat) (A:Option Addr) (n c:Nat) (y:List MPack) (p:Int) (v:MVer) (S':Nat→Prop) (w:World) (h:Tbl w tb mb A n c y) (hv:VerOk w S' v) :
  Calls Tryz.prog 21 #[.pointer (some ⟨tb,0,none⟩),.int .i64 p,v.agg] w fun e w'=>e=.returned (.tuple #[.int .i64 (((rankO ((packM y p).rels.map MRel.p) v.v).getD 0:Nat):Int),.bool (rankO ((packM y p).rels.map MRel.p) v.v).isSome])∧Below w.heap.size w w':=by
 obtain ⟨W0,hW,h1,hb⟩:∃ W,W=w.alloc (v.v,v.A,v.c,v.B,v.d)∧AtV W w.heap.size [.int .u64 v.v.a,.int .u64 v.v.b,.int .u64 v.v.c,.slice v.A v.v.pre.length v.c,.slice v.B v.v.build.length v.d]∧Below w.heap.size w W:=⟨_,rfl,AtV.new w _ _,(Below.refl _ _).alloc (Nat.le_refl _) _⟩
 have H:=Lib.hid (h.kept hb)
 have HA:=Lib.hid h1
 have HB:=Lib.hid hb
 have HV:=Lib.hid hv
 have HC:∀ wd,Below W0.heap.size W0 wd→Calls Tryz.prog 58 #[.pointer (some ⟨tb,0,none⟩),.int .i64 p] wd fun e w'=>e=.returned (packM y p).agg∧Below wd.heap.size wd w':=fun wd hd=>pack_any tb mb A n c y p wd (H.out.kept hd)
 have HP:=Lib.hid (H.out.pack p)
 clear h h1 hb hv H
 generalize packM y p=q at HC HP ⊢
 unfold MPack.agg at HC
 have HCW:=Lib.hid HC
 clear HC
 obtain ⟨ro,hro⟩:∃ ro,rankO (q.rels.map MRel.p) v.v=ro:=⟨_,rfl⟩
 have HRO:=Lib.hid hro
 rw [hro]
 clear hro
 obtain ⟨vb,hvb⟩:∃ vb,w.heap.size=vb:=⟨_,rfl⟩
 have HVB:=Lib.hid hvb
 unfold MVer.agg
 go_enter Tryz.func21,Tryz.ntmps21
 go_upto_region 1 with (fail)
 rw [← hW]
 rw [hvb] at HA
 try rw [hvb]
 clear hW hvb
 have HVK:=HA
 have v0:=HVK.out.at_ 0 _ rfl
 have v1:=HVK.out.at_ 1 _ rfl
 have v2:=HVK.out.at_ 2 _ rfl
 have v3:=HVK.out.at_ 3 _ rfl
 have v4:=HVK.out.at_ 4 _ rfl
 have hvl:=HVK.out.lt
 have pf1:=packField1
 have H0:Hid (Below W0.heap.size W0 W0.drew):=(Below.refl _ _).drew
 refine wp_region_held_drew (S:=fun w'=>Below W0.heap.size W0 w') (by kernel_rfl) H0.out (fun hHeld=>?_)
 generalize W0.drew=wd at H0 hHeld ⊢
 refine tk 0 rfl (.pointer (some ⟨tb,0,none⟩)) ?_
 refine tk 1 rfl (.int .i64 p) ?_
 refine tk 4 rfl (.agg #[v.v.a,v.v.b,v.v.c,.slice v.A v.v.pre.length v.c,.slice v.B v.v.build.length v.d]) ?_ (hv:=fun w' hS'=>by ((have z0:=(hS'.cell (p:=⟨vb,0,none⟩) hvl).trans v0); (have z1:=(hS'.cell (p:=⟨vb,1,none⟩) hvl).trans v1); (have z2:=(hS'.cell (p:=⟨vb,2,none⟩) hvl).trans v2); (have z3:=(hS'.cell (p:=⟨vb,3,none⟩) hvl).trans v3); (have z4:=(hS'.cell (p:=⟨vb,4,none⟩) hvl).trans v4)); go_simp)
 refine cl 2 rfl fun K hK=>?_
 go_simp
 refine (HCW.out wd H0.out).mono ?_
 rintro e W2 ⟨rfl,hb2⟩
 have H2:=Lib.hid (H0.out.trans (hb2.mono H0.out.size))
 refine hK.out _ _ H2.out (fun hHeld2=>?_)
 clear hK K hb2 v0 v1 v2 v3 v4
 try simp only [Act.put,p1,p2,p3]
 refine tk 3 rfl (.slice q.R q.rels.length q.rc) ?_
 have hbn:=bin_any q.R q.rels.length q.rc q.rels v (LtB W0.heap.size) S' W2 (HP.out.1.rels.keep (KeepS.of_below H2.out)) (HV.out.keep (KeepS.of_below (HB.out.trans (H2.out.mono HB.out.size)))) (by have:=HP.out.2.1; omega) HP.out.2.2.2.2
 unfold MVer.agg BinPost at hbn
 rw [HRO.out] at hbn
 refine cl 5 rfl fun K hK=>?_
 go_simp
 refine hbn.mono ?_
 rintro e W3 ⟨i,rfl,hi,hb3⟩
 have H3:=Lib.hid (H2.out.trans (hb3.mono H2.out.size))
 have HI:=Lib.hid hi
 refine hK.out _ _ H3.out (fun hHeld3=>?_)
 clear hK K hb3 hi hbn
 try simp only [Act.put,p1,p2,p3]
 refine tk 6 rfl (.tuple #[.int .i64 i,.bool ro.isSome]) ?_
 refine tk 7 rfl (.int .i64 i) ?_
 refine tk 8 rfl (.bool ro.isSome) ?_
 refine tk 9 rfl (.int .i64 i) ?_
 refine tk 10 rfl (.bool ro.isSome) ?_
 refine wpAnyH_done (by kernel_rfl) ?_ _
 have HB3:=Lib.hid (HB.out.trans (H3.out.mono HB.out.size))
 clear hHeld hHeld2 hHeld3
 cases ro with
 | none =>
  go_wp2
  go_ret2
  exact ⟨rfl,HB3.out⟩
 | some k =>
  obtain rfl:=HI.out k rfl
  go_wp2
  go_ret2
  exact ⟨rfl,HB3.out⟩
end Go.Proofs.YtgakcdcfblgagaaGreatDoor.Rank
