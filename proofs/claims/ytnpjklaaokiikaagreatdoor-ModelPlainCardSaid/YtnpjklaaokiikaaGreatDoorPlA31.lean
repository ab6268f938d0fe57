/-
  What the theorem of the last text needs of these: MoPlainWalk. Conditions: as each theorem states.
-/
import Derived.Test.YtnpjklaaokiikaaGreatDoorPlA1
import Derived.Test.YtnpjklaaokiikaaGreatDoorPlA23
import Derived.Test.YtnpjklaaokiikaaGreatDoorPlA29
set_option maxRecDepth 100000
set_option maxHeartbeats 25600000
namespace Go.Proofs.YtnpjklaaokiikaaGreatDoor.Model
open Go.RowKit Num Ident Semver
open Range (Rng noRng RV KeepS LtB LenOk goodR wt)
open KR (KRow AtV)

theorem rel_default (w:World) (S:Nat→Prop):RelOk w S default :=
 ⟨⟨SRow.none_ _ _,SRow.none_ _ _,fun h=>absurd h (Nat.lt_irrefl _),fun h=>absurd h (Nat.lt_irrefl _),Nat.le_refl _,Nat.le_refl _,⟨by decide,by decide,by decide,by decide,by decide,fun x h=>(List.not_mem_nil h).elim,fun x h=>(List.not_mem_nil h).elim⟩⟩,DRow.none_ _ _,DRow.none_ _ _,⟨Nat.le_refl _,by show 0≤maxLen; unfold maxLen; omega⟩,⟨Nat.le_refl _,by show 0≤maxLen; unfold maxLen; omega⟩,(fun _=>rfl),fun _=>rfl⟩
theorem ref_rel {x:List MPack} {S:Nat→Prop} {A:Option Addr} {n:Nat} {w:World} (h:PRow w S A n x) (name:List UInt8) (v:Ver):∃ q:MRel,relV (findRel x name v)=.tuple #[q.agg,.bool (releaseO (x.map MPack.p) name v).isSome]∧q.p=(releaseO (x.map MPack.p) name v).getD default∧RelOk w S q:=by
 rw [findRel_p]
 cases hf:findRel x name v with
 | none=>exact ⟨default,rfl,rfl,rel_default w S⟩
 | some r =>
  obtain ⟨p,hp,hr⟩:=findRel_mem hf
  exact ⟨r,rfl,rfl,(h.ok p hp).rels.ok r hr⟩
structure PlAt (w:World) (ib vb:Nat) (A:Option Addr) (n c:Nat) (v:MVer) (W:World):Prop where
 ix:AtV W ib [.slice A n c]
 ver:AtV W vb [.int .u64 v.v.a,.int .u64 v.v.b,.int .u64 v.v.c,.slice v.A v.v.pre.length v.c,.slice v.B v.v.build.length v.d]
 bel:Below w.heap.size w W
theorem PlAt.kept {w:World} {ib vb:Nat} {A:Option Addr} {n c:Nat} {v:MVer} {W W':World} (h:PlAt w ib vb A n c v W) (hb:Below W.heap.size W W'):PlAt w ib vb A n c v W' :=
 ⟨h.ix.kept hb h.ix.lt,h.ver.kept hb h.ver.lt,h.bel.trans (hb.mono h.bel.size)⟩
theorem pl_start (w:World) (A:Option Addr) (n c:Nat) (v:MVer):∃ W,W=(w.alloc (.cells #[.slice A n c] 24)).alloc (v.v,v.A,v.c,v.B,v.d)∧PlAt w w.heap.size (w.heap.size+1) A n c v W:=by
 refine ⟨_,rfl,(AtV.new w _ _).kept ((Below.refl _ _).alloc (Nat.le_refl _) _) (by simp),?_,((Below.refl _ _).alloc (Nat.le_refl _) _).alloc (by simp) _⟩
 have:=AtV.new (w.alloc (.cells #[.slice A n c] 24)) 34 [.int .u64 v.v.a,.int .u64 v.v.b,.int .u64 v.v.c,.slice v.A v.v.pre.length v.c,.slice v.B v.v.build.length v.d]
 rw [size_alloc] at this; exact this
theorem modelPlain_of (S:Says) (A:Option Addr) (n c:Nat) (x:List MPack) (nm:List UInt8) (v:MVer) (w:World) (hx:PRow w (LtB w.heap.size) A n x) (oa:SlOk A n c) (hn:nm.length≤maxLen) (hv:VerOk w (LtB w.heap.size) v) (ht:Tab w) :
  Calls Tryz.prog 4 #[.agg #[.slice A n c],.string (Ident.mk nm),v.agg] w fun e w'=>e=.returned (.bool true)∧Below w.heap.size w w':=by
 have HS:=Lib.hid S
 have HT:=Lib.hid ht
 clear ht
 have HX:=Lib.hid hx
 have HLX:=Lib.hid hx.row.1
 have HV:=Lib.hid hv
 have OA:=Lib.hid oa
 have hz:(Ident.mk nm).size=nm.length:=mk_size _
 have hnm:nm.length≤9223372036854775807:=hn
 have hs1:v.v.pre.length≤9223372036854775807:=hv.fit.pre
 have hs2:v.v.build.length≤9223372036854775807:=hv.fit.build
 have hnn:n≤9223372036854775807:=oa.len
 clear S hx hv oa hn
 obtain ⟨W0,hW,hp0⟩:=pl_start w A n c v
 have HS0:=Lib.hid hp0
 clear hp0
 unfold MVer.agg
 go_enter Tryz.func4,Tryz.ntmps4
 go_upto_region 1 with (fail)
 rw [← hW]
 clear hW
 obtain ⟨ib,hib⟩:∃ ib,w.heap.size=ib:=⟨_,rfl⟩
 rw [hib] at HS0 ⊢
 have HIB:=Lib.hid hib
 clear hib
 go_wp2_with fail
 refine (awake_of HS.out.toSaysA _ (HT.out.kept HS0.out.bel)).mono ?_
 rintro e W1 ⟨rfl,hb⟩
 have HS1:=Lib.hid (HS0.out.kept hb)
 clear hb HS0
 have i0:=HS1.out.ix.at_ 0 _ rfl
 have v3:=HS1.out.ver.at_ 3 _ rfl
 have v4:=HS1.out.ver.at_ 4 _ rfl
 go_wp2_with fail
 refine (lawFew_any A n c x none 0 0 [] none 0 0 [] w.heap.size W1 (HX.out.keep (KeepS.of_below HS1.out.bel)) (DRow.none_ _ _) (SPRow.none_ _ _) HS1.out.bel.size OA.out.len SlOk.zero.len SlOk.zero.len).mono ?_
 rintro e W2 ⟨z,rfl,hf,hb⟩
 have HS2:=Lib.hid (HS1.out.kept hb)
 clear hb HS1 i0 v3 v4
 have v3:=HS2.out.ver.at_ 3 _ rfl
 have v4:=HS2.out.ver.at_ 4 _ rfl
 by_cases hz0:z=0
 ·have HF:=Lib.hid (hf hz0).1
  have hzb:(z != 0)=false:=by rw [hz0]; rfl
  clear hz0 hf
  by_cases h3:300<nm.length
  ·go_wp2
   go_ret
   exact ⟨rfl,HS2.out.bel⟩
  ·by_cases h4:20<v.v.pre.length
   ·go_wp2
    go_ret
    exact ⟨rfl,HS2.out.bel⟩
   ·by_cases h5:20<v.v.build.length
    ·go_wp2
     go_ret
     exact ⟨rfl,HS2.out.bel⟩
    ·have HSZ:Hid (nm.length≤300∧v.v.pre.length≤20∧v.v.build.length≤20):=⟨by omega,by omega,by omega⟩
     have i0:=HS2.out.ix.at_ 0 _ rfl
     go_wp2_with fail
     refine (HS.out.plain A n c x w.heap.size W2 (HX.out.keep (KeepS.of_below HS2.out.bel)) HS2.out.bel.size OA.out HF.out).mono ?_
     rintro e W3 ⟨A5,c5,y,rfl,hy,oy,hpl,hb⟩
     have HY3:=Lib.hid hy
     have OY:=Lib.hid oy
     have HPL:=Lib.hid hpl
     have HFY:=Lib.hid (plain_few hpl HF.out)
     have HYL:Hid (y.length=n):=by
      have:=plain_len hpl
      rw [List.length_map,List.length_map,HLX.out] at this
      exact this
     have HS3:=Lib.hid (HS2.out.kept hb)
     clear hb HS2 i0 v3 v4 hy oy hpl
     go_upto_region 6 with (fail)
     rw [HYL.out] at HY3 OY ⊢
     have HAL:Hid (Below W3.heap.size W3 (W3.alloc (.cells #[.slice A5 n c5] 24))):=(Below.refl _ _).alloc (Nat.le_refl _) _
     have HP4:Hid (AtV (W3.alloc (.cells #[.slice A5 n c5] 24)) W3.heap.size [.slice A5 n c5]):=AtV.new W3 _ _
     have HS4:=Lib.hid (HS3.out.kept HAL.out)
     obtain ⟨B,hBe⟩:∃ B,W3.heap.size=B:=⟨_,rfl⟩
     have HY4:Hid (PRow (W3.alloc (.cells #[.slice A5 n c5] 24)) (LtB B) A5 n y):=by rw [← hBe]; exact HY3.out.keep (KeepS.of_below HAL.out)
     have HX4:Hid (PRow (W3.alloc (.cells #[.slice A5 n c5] 24)) (LtB B) A n x):=(HX.out.keep (KeepS.of_below HS4.out.bel)).mono fun b g _=>by rw [← hBe]; exact Nat.lt_of_lt_of_le g HS3.out.bel.size
     have HV4:Hid (VerOk (W3.alloc (.cells #[.slice A5 n c5] 24)) (LtB B) v):=(HV.out.keep (KeepS.of_below HS4.out.bel)).mono fun b g _=>by rw [← hBe]; exact Nat.lt_of_lt_of_le g HS3.out.bel.size
     have HB4:Hid (B≤(W3.alloc (.cells #[.slice A5 n c5] 24)).heap.size):=by rw [← hBe]; exact HAL.out.size
     rw [hBe] at HP4 ⊢
     have HPB:Hid (w.heap.size≤B):=by rw [← hBe]; exact HS3.out.bel.size
     clear hBe HAL HS3 HY3
     generalize W3.alloc (.cells #[.slice A5 n c5] 24)=W4 at HP4 HS4 HY4 HX4 HV4 HB4 ⊢
     obtain ⟨ok,hok⟩:∃ b,(releaseO (x.map MPack.p) nm v.v).isSome=b:=⟨_,rfl⟩
     have HOK:=Lib.hid hok
     clear hok
     have i0:=HS4.out.ix.at_ 0 _ rfl
     have v0:=HS4.out.ver.at_ 0 _ rfl
     have v1:=HS4.out.ver.at_ 1 _ rfl
     have v2:=HS4.out.ver.at_ 2 _ rfl
     have v3:=HS4.out.ver.at_ 3 _ rfl
     have v4:=HS4.out.ver.at_ 4 _ rfl
     go_wp2_with fail
     refine (HS.out.release A n c x nm v B W4 HX4.out HV4.out HB4.out OA.out HF.out HSZ.out.1 HSZ.out.2.1 HSZ.out.2.2).mono ?_
     rw [show RelPost x nm v.v W4=fun e w'=>∃ r:MRel,e=.returned (.tuple #[r.agg,.bool ok])∧r.p=(releaseO (x.map MPack.p) nm v.v).getD default∧RelOk w' (LtB w'.heap.size) r∧Below W4.heap.size W4 w' from by funext e w'; unfold RelPost; rw [HOK.out]]
     rintro e W5 ⟨r,rfl,hrp,hro,hb⟩
     have HRP:=Lib.hid hrp
     have HRR5:=Lib.hid hro
     clear hrp hro i0 v0 v1 v2 v3 v4
     unfold MRel.agg
     have HS5:=Lib.hid (HS4.out.kept hb)
     have HP5:=Lib.hid (HP4.out.kept hb HP4.out.lt)
     have HY5:=Lib.hid (HY4.out.keep (KeepS.of_below (S:=LtB B) hb))
     have HX5:=Lib.hid (HX4.out.keep (KeepS.of_below (S:=LtB B) hb))
     have HV5:=Lib.hid (HV4.out.keep (KeepS.of_below (S:=LtB B) hb))
     have HB5:Hid (B≤W5.heap.size):=Nat.le_trans HB4.out hb.size
     clear hb HS4 HB4 HP4 HY4 HX4 HV4
     obtain ⟨B2,hB2⟩:∃ B,W5.heap.size=B:=⟨_,rfl⟩
     rw [hB2] at HRR5
     have HB25:Hid (B2≤W5.heap.size):=Nat.le_of_eq hB2.symm
     have HBB:Hid (B≤B2):=by rw [← hB2]; exact HB5.out
     clear hB2
     go_upto_region 7 with (fail)
     have HR6:Hid (AtV (W5.alloc (.cells #[r.ver.v.a,r.ver.v.b,r.ver.v.c,.slice r.ver.A r.ver.v.pre.length r.ver.c,.slice r.ver.B r.ver.v.build.length r.ver.d,.bool r.yanked,.slice r.N r.needs.length r.nc,.slice r.B r.bans.length r.bc] 36)) W5.heap.size [.int .u64 r.ver.v.a,.int .u64 r.ver.v.b,.int .u64 r.ver.v.c,.slice r.ver.A r.ver.v.pre.length r.ver.c,.slice r.ver.B r.ver.v.build.length r.ver.d,.bool r.yanked,.slice r.N r.needs.length r.nc,.slice r.B r.bans.length r.bc]):=AtV.new W5 _ _
     have hb:Below W5.heap.size W5 (W5.alloc (.cells #[r.ver.v.a,r.ver.v.b,r.ver.v.c,.slice r.ver.A r.ver.v.pre.length r.ver.c,.slice r.ver.B r.ver.v.build.length r.ver.d,.bool r.yanked,.slice r.N r.needs.length r.nc,.slice r.B r.bans.length r.bc] 36)):=(Below.refl _ _).alloc (Nat.le_refl _) _
     obtain ⟨W6,hWn⟩:∃ W,(W5.alloc (.cells #[r.ver.v.a,r.ver.v.b,r.ver.v.c,.slice r.ver.A r.ver.v.pre.length r.ver.c,.slice r.ver.B r.ver.v.build.length r.ver.d,.bool r.yanked,.slice r.N r.needs.length r.nc,.slice r.B r.bans.length r.bc] 36))=W:=⟨_,rfl⟩
     rw [hWn] at HR6 hb ⊢
     clear hWn
     have HB26:Hid (B2≤W6.heap.size):=Nat.le_trans HB25.out hb.size
     clear HB25
     have HS6:=Lib.hid (HS5.out.kept hb)
     have HP6:=Lib.hid (HP5.out.kept hb HP5.out.lt)
     have HY6:=Lib.hid (HY5.out.keep (KeepS.of_below (S:=LtB B) hb))
     have HX6:=Lib.hid (HX5.out.keep (KeepS.of_below (S:=LtB B) hb))
     have HV6:=Lib.hid (HV5.out.keep (KeepS.of_below (S:=LtB B) hb))
     have HRR6:=Lib.hid (HRR5.out.keep (KeepS.of_below hb))
     have HB6:Hid (B≤W6.heap.size):=Nat.le_trans HB5.out hb.size
     clear hb HS5 HB5 HP5 HY5 HX5 HV5 HRR5
     obtain ⟨bhr,hbl⟩:∃ g,W5.heap.size=g:=⟨_,rfl⟩
     rw [hbl] at HR6 ⊢
     clear hbl
     have i0:=HS6.out.ix.at_ 0 _ rfl
     have v0:=HS6.out.ver.at_ 0 _ rfl
     have v1:=HS6.out.ver.at_ 1 _ rfl
     have v2:=HS6.out.ver.at_ 2 _ rfl
     have v3:=HS6.out.ver.at_ 3 _ rfl
     have v4:=HS6.out.ver.at_ 4 _ rfl
     obtain ⟨q,hq1,hq2,hq3⟩:=ref_rel HX6.out nm v.v
     have HQP:=Lib.hid hq2
     have HQQ6:=Lib.hid hq3
     clear hq2 hq3
     go_wp2_with fail
     refine (refRelease_any A n c x nm v B W6 HX6.out HB6.out OA.out.len HV6.out.pre HV6.out.build HV6.out.fit.pre HV6.out.fit.build).mono ?_
     rw [hq1,HOK.out]
     clear hq1
     rintro e W7 ⟨rfl,hb⟩
     clear i0 v0 v1 v2 v3 v4
     unfold MRel.agg
     have HB27:Hid (B2≤W7.heap.size):=Nat.le_trans HB26.out hb.size
     clear HB26
     have HS7:=Lib.hid (HS6.out.kept hb)
     have HP7:=Lib.hid (HP6.out.kept hb HP6.out.lt)
     have HR7:=Lib.hid (HR6.out.kept hb HR6.out.lt)
     have HY7:=Lib.hid (HY6.out.keep (KeepS.of_below (S:=LtB B) hb))
     have HX7:=Lib.hid (HX6.out.keep (KeepS.of_below (S:=LtB B) hb))
     have HV7:=Lib.hid (HV6.out.keep (KeepS.of_below (S:=LtB B) hb))
     have HRR7:=Lib.hid (HRR6.out.keep (KeepS.of_below hb))
     have HQQ7:=Lib.hid (HQQ6.out.keep (KeepS.of_below hb))
     have HB7:Hid (B≤W7.heap.size):=Nat.le_trans HB6.out hb.size
     clear hb HS6 HB6 HP6 HR6 HY6 HX6 HV6 HRR6 HQQ6
     go_upto_region 8 with (fail)
     have HQ8:Hid (AtV (W7.alloc (.cells #[q.ver.v.a,q.ver.v.b,q.ver.v.c,.slice q.ver.A q.ver.v.pre.length q.ver.c,.slice q.ver.B q.ver.v.build.length q.ver.d,.bool q.yanked,.slice q.N q.needs.length q.nc,.slice q.B q.bans.length q.bc] 36)) W7.heap.size [.int .u64 q.ver.v.a,.int .u64 q.ver.v.b,.int .u64 q.ver.v.c,.slice q.ver.A q.ver.v.pre.length q.ver.c,.slice q.ver.B q.ver.v.build.length q.ver.d,.bool q.yanked,.slice q.N q.needs.length q.nc,.slice q.B q.bans.length q.bc]):=AtV.new W7 _ _
     have hb:Below W7.heap.size W7 (W7.alloc (.cells #[q.ver.v.a,q.ver.v.b,q.ver.v.c,.slice q.ver.A q.ver.v.pre.length q.ver.c,.slice q.ver.B q.ver.v.build.length q.ver.d,.bool q.yanked,.slice q.N q.needs.length q.nc,.slice q.B q.bans.length q.bc] 36)):=(Below.refl _ _).alloc (Nat.le_refl _) _
     obtain ⟨W8,hWn⟩:∃ W,(W7.alloc (.cells #[q.ver.v.a,q.ver.v.b,q.ver.v.c,.slice q.ver.A q.ver.v.pre.length q.ver.c,.slice q.ver.B q.ver.v.build.length q.ver.d,.bool q.yanked,.slice q.N q.needs.length q.nc,.slice q.B q.bans.length q.bc] 36))=W:=⟨_,rfl⟩
     rw [hWn] at HQ8 hb ⊢
     clear hWn
     have HB28:Hid (B2≤W8.heap.size):=Nat.le_trans HB27.out hb.size
     clear HB27
     have HS8:=Lib.hid (HS7.out.kept hb)
     have HP8:=Lib.hid (HP7.out.kept hb HP7.out.lt)
     have HR8:=Lib.hid (HR7.out.kept hb HR7.out.lt)
     have HY8:=Lib.hid (HY7.out.keep (KeepS.of_below (S:=LtB B) hb))
     have HX8:=Lib.hid (HX7.out.keep (KeepS.of_below (S:=LtB B) hb))
     have HV8:=Lib.hid (HV7.out.keep (KeepS.of_below (S:=LtB B) hb))
     have HRR8:=Lib.hid (HRR7.out.keep (KeepS.of_below hb))
     have HQQ8:=Lib.hid (HQQ7.out.keep (KeepS.of_below hb))
     have HB8:Hid (B≤W8.heap.size):=Nat.le_trans HB7.out hb.size
     clear hb HS7 HB7 HP7 HR7 HY7 HX7 HV7 HRR7 HQQ7
     obtain ⟨bhq,hbl⟩:∃ g,W7.heap.size=g:=⟨_,rfl⟩
     rw [hbl] at HQ8 ⊢
     clear hbl
     have HRQ:Hid (r.p=q.p):=by unfold Hid; rw [HRP.out,HQP.out]
     have hbb:(ok != ok)=false:=by simp
     have r0:=HR8.out.at_ 0 _ rfl
     have r1:=HR8.out.at_ 1 _ rfl
     have r2:=HR8.out.at_ 2 _ rfl
     have r3:=HR8.out.at_ 3 _ rfl
     have r4:=HR8.out.at_ 4 _ rfl
     have r5:=HR8.out.at_ 5 _ rfl
     have r6:=HR8.out.at_ 6 _ rfl
     have r7:=HR8.out.at_ 7 _ rfl
     have q0:=HQ8.out.at_ 0 _ rfl
     have q1:=HQ8.out.at_ 1 _ rfl
     have q2:=HQ8.out.at_ 2 _ rfl
     have q3:=HQ8.out.at_ 3 _ rfl
     have q4:=HQ8.out.at_ 4 _ rfl
     have q5:=HQ8.out.at_ 5 _ rfl
     have q6:=HQ8.out.at_ 6 _ rfl
     have q7:=HQ8.out.at_ 7 _ rfl
     have lr:=HR8.out.lt
     have lq:=HQ8.out.lt
     have hb:Below W8.heap.size W8 W8.drew:=(Below.refl _ _).drew
     refine wp_region_held_drew (S:=fun w'=>Below W8.heap.size W8 w') (by kernel_rfl) hb (fun hHeld=>?_)
     have H0:=Lib.hid hb
     clear hb
     generalize W8.drew=wd at H0 hHeld ⊢
     refine tk 0 rfl (.bool ok) ?_
     refine tk 1 rfl (.bool ok) ?_
     refine tk 2 rfl (.bool false) ?_
     refine tk 3 rfl (.bool false) ?_
     refine tk 4 rfl (.agg #[r.ver.v.a,r.ver.v.b,r.ver.v.c,.slice r.ver.A r.ver.v.pre.length r.ver.c,.slice r.ver.B r.ver.v.build.length r.ver.d,.bool r.yanked,.slice r.N r.needs.length r.nc,.slice r.B r.bans.length r.bc]) ?_ (hv:=fun w' hS'=>by (have z0:=(hS'.cell (p:=⟨bhr,0,none⟩) lr).trans r0); (have z1:=(hS'.cell (p:=⟨bhr,1,none⟩) lr).trans r1); (have z2:=(hS'.cell (p:=⟨bhr,2,none⟩) lr).trans r2); (have z3:=(hS'.cell (p:=⟨bhr,3,none⟩) lr).trans r3); (have z4:=(hS'.cell (p:=⟨bhr,4,none⟩) lr).trans r4); (have z5:=(hS'.cell (p:=⟨bhr,5,none⟩) lr).trans r5); (have z6:=(hS'.cell (p:=⟨bhr,6,none⟩) lr).trans r6); (have z7:=(hS'.cell (p:=⟨bhr,7,none⟩) lr).trans r7); go_simp)
     refine tk 5 rfl (.agg #[q.ver.v.a,q.ver.v.b,q.ver.v.c,.slice q.ver.A q.ver.v.pre.length q.ver.c,.slice q.ver.B q.ver.v.build.length q.ver.d,.bool q.yanked,.slice q.N q.needs.length q.nc,.slice q.B q.bans.length q.bc]) ?_ (hv:=fun w' hS'=>by (have z0:=(hS'.cell (p:=⟨bhq,0,none⟩) lq).trans q0); (have z1:=(hS'.cell (p:=⟨bhq,1,none⟩) lq).trans q1); (have z2:=(hS'.cell (p:=⟨bhq,2,none⟩) lq).trans q2); (have z3:=(hS'.cell (p:=⟨bhq,3,none⟩) lq).trans q3); (have z4:=(hS'.cell (p:=⟨bhq,4,none⟩) lq).trans q4); (have z5:=(hS'.cell (p:=⟨bhq,5,none⟩) lq).trans q5); (have z6:=(hS'.cell (p:=⟨bhq,6,none⟩) lq).trans q6); (have z7:=(hS'.cell (p:=⟨bhq,7,none⟩) lq).trans q7); go_simp)
     refine cl 6 rfl fun K hK=>?_
     go_simp
     refine (refSameRel_yes r q B2 _ (HRR8.out.keep (KeepS.of_below H0.out)) ((HQQ8.out.keep (KeepS.of_below H0.out)).mono fun b g _=>Nat.lt_of_lt_of_le g HBB.out) HRQ.out (Nat.le_trans HB28.out H0.out.size)).mono ?_
     rintro e UH1 ⟨rfl,hb⟩
     have H1:Hid (Below W8.heap.size W8 UH1):=H0.out.trans (hb.mono H0.out.size)
     refine hK.out _ _ H1.out (fun hHeldH1=>?_)
     clear hK K hb
     try simp only [Act.put,p1,p2,p3]
     refine tk 7 rfl (.bool false) ?_
     refine tk 8 rfl (.bool false) ?_
     refine tk 9 rfl (.bool false) ?_
     have p0:=HP8.out.at_ 0 _ rfl
     have lp:=HP8.out.lt
     have i0:=HS8.out.ix.at_ 0 _ rfl
     have li:=HS8.out.ix.lt
     refine tk 10 rfl (.agg #[.slice A5 n c5]) ?_ (hv:=fun w' hS'=>by (have z0:=(hS'.cell (p:=⟨B,0,none⟩) lp).trans p0); go_simp)
     refine cl 11 rfl fun K hK=>?_
     go_simp
     refine (refPlain_any A5 n c5 y B _ (HY8.out.keep (KeepS.of_below H1.out)) OY.out.len).mono ?_
     rw [plain_plain HPL.out]
     rintro e UH2 ⟨rfl,hb⟩
     have H2:Hid (Below W8.heap.size W8 UH2):=H1.out.trans (hb.mono H1.out.size)
     refine hK.out _ _ H2.out (fun hHeldH2=>?_)
     clear hK K hb
     try simp only [Act.put,p1,p2,p3]
     refine tk 12 rfl (.bool false) ?_
     refine tk 13 rfl (.bool false) ?_
     refine tk 14 rfl (.bool false) ?_
     refine tk 15 rfl (.agg #[.slice A n c]) ?_ (hv:=fun w' hS'=>by (have z0:=(hS'.cell (p:=⟨ib,0,none⟩) li).trans i0); go_simp)
     refine tk 17 rfl (.agg #[.slice A n c]) ?_ (hv:=fun w' hS'=>by (have z0:=(hS'.cell (p:=⟨ib,0,none⟩) li).trans i0); go_simp)
     obtain ⟨bp,hbp⟩:∃ b,plainB (x.map MPack.p)=b:=⟨_,rfl⟩
     have HBP:=Lib.hid hbp
     clear hbp
     have hbpb:(bp != bp)=false:=by simp
     refine cl 16 rfl fun K hK=>?_
     go_simp
     refine (HS.out.isplain A n c x B _ (HX8.out.keep (KeepS.of_below H2.out)) (Nat.le_trans HB8.out H2.out.size) OA.out HF.out).mono ?_
     rw [HBP.out]
     rintro e UH3 ⟨rfl,hb⟩
     have H3:Hid (Below W8.heap.size W8 UH3):=H2.out.trans (hb.mono H2.out.size)
     refine hK.out _ _ H3.out (fun hHeldH3=>?_)
     clear hK K hb
     try simp only [Act.put,p1,p2,p3]
     refine cl 18 rfl fun K hK=>?_
     go_simp
     refine (refPlain_any A n c x B _ (HX8.out.keep (KeepS.of_below H3.out)) OA.out.len).mono ?_
     rw [HBP.out]
     rintro e UH4 ⟨rfl,hb⟩
     have H4:Hid (Below W8.heap.size W8 UH4):=H3.out.trans (hb.mono H3.out.size)
     refine hK.out _ _ H4.out (fun hHeldH4=>?_)
     clear hK K hb
     try simp only [Act.put,p1,p2,p3]
     have hmn:((n:Int) != (n:Int))=false:=by simp
     refine tk 19 rfl (.bool false) ?_
     refine tk 20 rfl (.bool false) ?_
     refine tk 21 rfl (.bool false) ?_
     refine tk 22 rfl (.pointer (some ⟨B,0,none⟩)) ?_
     refine tk 23 rfl (.slice A5 n c5) ?_ (hv:=fun w' hS'=>by (have z0:=(hS'.cell (p:=⟨B,0,none⟩) lp).trans p0); go_simp)
     refine tk 24 rfl (.int .i64 n) ?_
     refine tk 25 rfl (.pointer (some ⟨ib,0,none⟩)) ?_
     refine tk 26 rfl (.slice A n c) ?_ (hv:=fun w' hS'=>by (have z0:=(hS'.cell (p:=⟨ib,0,none⟩) li).trans i0); go_simp)
     refine tk 27 rfl (.int .i64 n) ?_
     refine tk 28 rfl (.bool false) ?_
     refine tk 29 rfl (.bool false) ?_
     refine wpAnyH_done (by kernel_rfl) ?_ _
     have hb:=H4.out
     generalize UH4=W9 at hb ⊢
     clear r0 r1 r2 r3 r4 r5 r6 r7 q0 q1 q2 q3 q4 q5 q6 q7 lr lq p0 lp i0 li hHeld hHeldH1 hHeldH2 hHeldH3 hHeldH4 H4 H3 H2 H1 H0 hbb
     have HB29:Hid (B2≤W9.heap.size):=Nat.le_trans HB28.out hb.size
     clear HB28
     have HS9:=Lib.hid (HS8.out.kept hb)
     have HP9:=Lib.hid (HP8.out.kept hb HP8.out.lt)
     have HR9:=Lib.hid (HR8.out.kept hb HR8.out.lt)
     have HQ9:=Lib.hid (HQ8.out.kept hb HQ8.out.lt)
     have HY9:=Lib.hid (HY8.out.keep (KeepS.of_below (S:=LtB B) hb))
     have HX9:=Lib.hid (HX8.out.keep (KeepS.of_below (S:=LtB B) hb))
     have HV9:=Lib.hid (HV8.out.keep (KeepS.of_below (S:=LtB B) hb))
     have HRR9:=Lib.hid (HRR8.out.keep (KeepS.of_below hb))
     have HQQ9:=Lib.hid (HQQ8.out.keep (KeepS.of_below hb))
     have HB9:Hid (B≤W9.heap.size):=Nat.le_trans HB8.out hb.size
     clear hb HS8 HB8 HP8 HR8 HQ8 HY8 HX8 HV8 HRR8 HQQ8
     have i0:=HS9.out.ix.at_ 0 _ rfl
     go_wp2_with fail
     refine (HS.out.check A n c x B W9 HX9.out HB9.out OA.out HF.out (HT.out.kept HS9.out.bel)).mono ?_
     unfold checkV
     obtain ⟨⟨k1,k2,k3,k4⟩,hk⟩:∃ q,out4 (checkF (x.map MPack.p))=q:=⟨_,rfl⟩
     have HK:=Lib.hid hk
     rw [hk]
     clear hk
     rintro e W10 ⟨rfl,hb⟩
     clear i0
     have HB210:Hid (B2≤W10.heap.size):=Nat.le_trans HB29.out hb.size
     clear HB29
     have HS10:=Lib.hid (HS9.out.kept hb)
     have HP10:=Lib.hid (HP9.out.kept hb HP9.out.lt)
     have HR10:=Lib.hid (HR9.out.kept hb HR9.out.lt)
     have HQ10:=Lib.hid (HQ9.out.kept hb HQ9.out.lt)
     have HY10:=Lib.hid (HY9.out.keep (KeepS.of_below (S:=LtB B) hb))
     have HX10:=Lib.hid (HX9.out.keep (KeepS.of_below (S:=LtB B) hb))
     have HV10:=Lib.hid (HV9.out.keep (KeepS.of_below (S:=LtB B) hb))
     have HRR10:=Lib.hid (HRR9.out.keep (KeepS.of_below hb))
     have HQQ10:=Lib.hid (HQQ9.out.keep (KeepS.of_below hb))
     have HB10:Hid (B≤W10.heap.size):=Nat.le_trans HB9.out hb.size
     clear hb HS9 HB9 HP9 HR9 HQ9 HY9 HX9 HV9 HRR9 HQQ9
     go_upto_region 11 with (fail)
     have HC11:Hid (AtV (W10.alloc (.cells #[.int .i64 k1,.int .i64 k2,.int .i64 k3] 42)) W10.heap.size [.int .i64 k1,.int .i64 k2,.int .i64 k3]):=AtV.new W10 _ _
     have hb:Below W10.heap.size W10 (W10.alloc (.cells #[.int .i64 k1,.int .i64 k2,.int .i64 k3] 42)):=(Below.refl _ _).alloc (Nat.le_refl _) _
     obtain ⟨W11,hWn⟩:∃ W,(W10.alloc (.cells #[.int .i64 k1,.int .i64 k2,.int .i64 k3] 42))=W:=⟨_,rfl⟩
     rw [hWn] at HC11 hb ⊢
     clear hWn
     have HB211:Hid (B2≤W11.heap.size):=Nat.le_trans HB210.out hb.size
     clear HB210
     have HS11:=Lib.hid (HS10.out.kept hb)
     have HP11:=Lib.hid (HP10.out.kept hb HP10.out.lt)
     have HR11:=Lib.hid (HR10.out.kept hb HR10.out.lt)
     have HQ11:=Lib.hid (HQ10.out.kept hb HQ10.out.lt)
     have HY11:=Lib.hid (HY10.out.keep (KeepS.of_below (S:=LtB B) hb))
     have HX11:=Lib.hid (HX10.out.keep (KeepS.of_below (S:=LtB B) hb))
     have HV11:=Lib.hid (HV10.out.keep (KeepS.of_below (S:=LtB B) hb))
     have HRR11:=Lib.hid (HRR10.out.keep (KeepS.of_below hb))
     have HQQ11:=Lib.hid (HQQ10.out.keep (KeepS.of_below hb))
     have HB11:Hid (B≤W11.heap.size):=Nat.le_trans HB10.out hb.size
     clear hb HS10 HB10 HP10 HR10 HQ10 HY10 HX10 HV10 HRR10 HQQ10
     obtain ⟨bhc,hbl⟩:∃ g,W10.heap.size=g:=⟨_,rfl⟩
     rw [hbl] at HC11 ⊢
     clear hbl
     have p0:=HP11.out.at_ 0 _ rfl
     go_wp2_with fail
     refine (HS.out.check A5 n c5 y B W11 HY11.out HB11.out OY.out HFY.out (HT.out.kept HS11.out.bel)).mono ?_
     unfold checkV
     obtain ⟨⟨l1,l2,l3,l4⟩,hl⟩:∃ q,out4 (checkF (y.map MPack.p))=q:=⟨_,rfl⟩
     have HL:=Lib.hid hl
     rw [hl]
     clear hl
     rintro e W12 ⟨rfl,hb⟩
     clear p0
     have HB212:Hid (B2≤W12.heap.size):=Nat.le_trans HB211.out hb.size
     clear HB211
     have HS12:=Lib.hid (HS11.out.kept hb)
     have HP12:=Lib.hid (HP11.out.kept hb HP11.out.lt)
     have HR12:=Lib.hid (HR11.out.kept hb HR11.out.lt)
     have HQ12:=Lib.hid (HQ11.out.kept hb HQ11.out.lt)
     have HC12:=Lib.hid (HC11.out.kept hb HC11.out.lt)
     have HY12:=Lib.hid (HY11.out.keep (KeepS.of_below (S:=LtB B) hb))
     have HX12:=Lib.hid (HX11.out.keep (KeepS.of_below (S:=LtB B) hb))
     have HV12:=Lib.hid (HV11.out.keep (KeepS.of_below (S:=LtB B) hb))
     have HRR12:=Lib.hid (HRR11.out.keep (KeepS.of_below hb))
     have HQQ12:=Lib.hid (HQQ11.out.keep (KeepS.of_below hb))
     have HB12:Hid (B≤W12.heap.size):=Nat.le_trans HB11.out hb.size
     clear hb HS11 HB11 HP11 HR11 HQ11 HC11 HY11 HX11 HV11 HRR11 HQQ11
     go_upto_region 12 with (fail)
     have HD13:Hid (AtV (W12.alloc (.cells #[.int .i64 l1,.int .i64 l2,.int .i64 l3] 42)) W12.heap.size [.int .i64 l1,.int .i64 l2,.int .i64 l3]):=AtV.new W12 _ _
     have hb:Below W12.heap.size W12 (W12.alloc (.cells #[.int .i64 l1,.int .i64 l2,.int .i64 l3] 42)):=(Below.refl _ _).alloc (Nat.le_refl _) _
     obtain ⟨W13,hWn⟩:∃ W,(W12.alloc (.cells #[.int .i64 l1,.int .i64 l2,.int .i64 l3] 42))=W:=⟨_,rfl⟩
     rw [hWn] at HD13 hb ⊢
     clear hWn
     have HB213:Hid (B2≤W13.heap.size):=Nat.le_trans HB212.out hb.size
     clear HB212
     have HS13:=Lib.hid (HS12.out.kept hb)
     have HP13:=Lib.hid (HP12.out.kept hb HP12.out.lt)
     have HR13:=Lib.hid (HR12.out.kept hb HR12.out.lt)
     have HQ13:=Lib.hid (HQ12.out.kept hb HQ12.out.lt)
     have HC13:=Lib.hid (HC12.out.kept hb HC12.out.lt)
     have HY13:=Lib.hid (HY12.out.keep (KeepS.of_below (S:=LtB B) hb))
     have HX13:=Lib.hid (HX12.out.keep (KeepS.of_below (S:=LtB B) hb))
     have HV13:=Lib.hid (HV12.out.keep (KeepS.of_below (S:=LtB B) hb))
     have HRR13:=Lib.hid (HRR12.out.keep (KeepS.of_below hb))
     have HQQ13:=Lib.hid (HQQ12.out.keep (KeepS.of_below hb))
     have HB13:Hid (B≤W13.heap.size):=Nat.le_trans HB12.out hb.size
     clear hb HS12 HB12 HP12 HR12 HQ12 HC12 HY12 HX12 HV12 HRR12 HQQ12
     obtain ⟨bhd,hbl⟩:∃ g,W12.heap.size=g:=⟨_,rfl⟩
     rw [hbl] at HD13 ⊢
     clear hbl
     have HKN:Hid (k4=0↔checkF (x.map MPack.p)=none):=by
      have h1:=HK.out
      constructor
      ·intro h; exact check_zero (by rw [h1]; exact h)
      ·intro h; rw [h] at h1; exact (congrArg (fun q=>q.2.2.2) h1).symm
     have HLN:Hid (l4=0↔checkF (y.map MPack.p)=none):=by
      have h1:=HL.out
      constructor
      ·intro h; exact check_zero (by rw [h1]; exact h)
      ·intro h; rw [h] at h1; exact (congrArg (fun q=>q.2.2.2) h1).symm
     obtain ⟨ek,hek⟩:∃ b,(k4 == 0)=b:=⟨_,rfl⟩
     have hel:(l4 == 0)=ek:=by
      rw [← hek,Bool.eq_iff_iff,beq_iff_eq,beq_iff_eq,HKN.out,HLN.out]; exact plain_right HPL.out
     have hee:(ek != ek)=false:=by simp
     have p0:=HP13.out.at_ 0 _ rfl
     have lB:=HP13.out.lt
     have i0:=HS13.out.ix.at_ 0 _ rfl
     have li:=HS13.out.ix.lt
     have hb:Below W13.heap.size W13 W13.drew:=(Below.refl _ _).drew
     refine wp_region_held_drew (S:=fun w'=>Below W13.heap.size W13 w') (by kernel_rfl) hb (fun hHeld=>?_)
     have H0:=Lib.hid hb
     clear hb
     generalize W13.drew=wd at H0 hHeld ⊢
     refine tk 0 rfl (.int .i64 k4) ?_
     refine tk 1 rfl (.bool ek) ?_
     refine tk 2 rfl (.int .i64 l4) ?_
     refine tk 3 rfl (.bool ek) ?_
     refine tk 4 rfl (.bool false) ?_
     refine tk 5 rfl (.bool false) ?_
     refine tk 6 rfl (.agg #[.slice A5 n c5]) ?_ (hv:=fun w' hS'=>by (have z0:=(hS'.cell (p:=⟨B,0,none⟩) lB).trans p0); go_simp)
     refine tk 8 rfl (.agg #[.slice A5 n c5]) ?_ (hv:=fun w' hS'=>by (have z0:=(hS'.cell (p:=⟨B,0,none⟩) lB).trans p0); go_simp)
     refine cl 7 rfl fun K hK=>?_
     go_simp
     refine (HS.out.plain A5 n c5 y B _ (HY13.out.keep (KeepS.of_below H0.out)) (Nat.le_trans HB13.out H0.out.size) OY.out HFY.out).mono ?_
     rintro e UH1 ⟨A6,c6,y2,rfl,hy2,oy2,hpl2,hb⟩
     have HE2:=Lib.hid (plain_same hpl2 (plain_plain HPL.out))
     have hl2:y2.length=n:=by
      have:=plain_len hpl2
      rw [List.length_map,List.length_map,HYL.out] at this
      exact this
     rw [hl2] at hy2 oy2 ⊢
     have HY2:=Lib.hid hy2
     clear hl2 hy2 oy2 hpl2
     have H1:Hid (Below W13.heap.size W13 UH1):=H0.out.trans (hb.mono H0.out.size)
     refine hK.out _ _ H1.out (fun hHeldH1=>?_)
     clear hK K hb
     try simp only [Act.put,p1,p2,p3]
     have HB6:Hid (B≤UH1.heap.size):=Nat.le_trans HB13.out H1.out.size
     refine cl 9 rfl fun K hK=>?_
     go_simp
     refine (refOne_yes A6 A5 n c6 c5 y2 y UH1.heap.size _ HY2.out ((HY13.out.keep (KeepS.of_below H1.out)).mono fun b g _=>Nat.lt_of_lt_of_le g HB6.out) HE2.out (Nat.le_refl _) OA.out.len).mono ?_
     rintro e UH2 ⟨rfl,hb⟩
     have H2:Hid (Below W13.heap.size W13 UH2):=H1.out.trans (hb.mono H1.out.size)
     refine hK.out _ _ H2.out (fun hHeldH2=>?_)
     clear hK K hb
     try simp only [Act.put,p1,p2,p3]
     refine tk 10 rfl (.bool false) ?_
     refine tk 11 rfl (.bool false) ?_
     refine tk 12 rfl (.bool false) ?_
     refine tk 13 rfl (.agg #[.slice A n c]) ?_ (hv:=fun w' hS'=>by (have z0:=(hS'.cell (p:=⟨ib,0,none⟩) li).trans i0); go_simp)
     refine cl 14 rfl fun K hK=>?_
     go_simp
     refine (refPlain_any A n c x B _ (HX13.out.keep (KeepS.of_below H2.out)) OA.out.len).mono ?_
     rw [HBP.out]
     rintro e UH3 ⟨rfl,hb⟩
     have H3:Hid (Below W13.heap.size W13 UH3):=H2.out.trans (hb.mono H2.out.size)
     refine hK.out _ _ H3.out (fun hHeldH3=>?_)
     clear hK K hb
     try simp only [Act.put,p1,p2,p3]
     refine tk 15 rfl (.bool bp) ?_
     have HFIN:Hid (∀ U,Below W13.heap.size W13 U→Below W13.heap.size W13 U):=fun U h=>h
     cases bp with
     | true =>
      have HE3:=Lib.hid (plain_same HPL.out HBP.out)
      refine tk 16 rfl (.agg #[.slice A5 n c5]) ?_ (hv:=fun w' hS'=>by (have z0:=(hS'.cell (p:=⟨B,0,none⟩) lB).trans p0); go_simp)
      refine tk 17 rfl (.agg #[.slice A n c]) ?_ (hv:=fun w' hS'=>by (have z0:=(hS'.cell (p:=⟨ib,0,none⟩) li).trans i0); go_simp)
      refine cl 18 rfl fun K hK=>?_
      go_simp
      refine (refOne_yes A5 A n c5 c y x B _ (HY13.out.keep (KeepS.of_below H3.out)) (HX13.out.keep (KeepS.of_below H3.out)) HE3.out (Nat.le_trans HB13.out H3.out.size) OA.out.len).mono ?_
      rintro e UH4 ⟨rfl,hb⟩
      have H4:Hid (Below W13.heap.size W13 UH4):=H3.out.trans (hb.mono H3.out.size)
      refine hK.out _ _ H4.out (fun hHeldH4=>?_)
      clear hK K hb
      try simp only [Act.put,p1,p2,p3]
      refine tk 19 rfl (.bool false) ?_
      refine tk 20 rfl (.bool false) ?_
      refine tk 21 rfl (.bool false) ?_
      refine wpAnyH_done (by kernel_rfl) ?_ _
      have hb:=H4.out
      generalize UH4=W14 at hb ⊢
      clear p0 lB i0 li hHeld hHeldH1 hHeldH2 hHeldH3 hHeldH4 HFIN HB6 HY2 HE2 H4 H3 H2 H1 H0 hee
      have HB214:Hid (B2≤W14.heap.size):=Nat.le_trans HB213.out hb.size
      clear HB213
      have HS14:=Lib.hid (HS13.out.kept hb)
      have HP14:=Lib.hid (HP13.out.kept hb HP13.out.lt)
      have HR14:=Lib.hid (HR13.out.kept hb HR13.out.lt)
      have HQ14:=Lib.hid (HQ13.out.kept hb HQ13.out.lt)
      have HC14:=Lib.hid (HC13.out.kept hb HC13.out.lt)
      have HD14:=Lib.hid (HD13.out.kept hb HD13.out.lt)
      have HY14:=Lib.hid (HY13.out.keep (KeepS.of_below (S:=LtB B) hb))
      have HX14:=Lib.hid (HX13.out.keep (KeepS.of_below (S:=LtB B) hb))
      have HV14:=Lib.hid (HV13.out.keep (KeepS.of_below (S:=LtB B) hb))
      have HRR14:=Lib.hid (HRR13.out.keep (KeepS.of_below hb))
      have HQQ14:=Lib.hid (HQQ13.out.keep (KeepS.of_below hb))
      have HB14:Hid (B≤W14.heap.size):=Nat.le_trans HB13.out hb.size
      clear hb HS13 HB13 HP13 HR13 HQ13 HC13 HD13 HY13 HX13 HV13 HRR13 HQQ13
      by_cases hk0:k4=0
      ·have HCN:=Lib.hid (HKN.out.1 hk0)
       have hkb:(k4 != 0)=false:=by rw [hk0]; rfl
       clear hk0
       have p0:=HP14.out.at_ 0 _ rfl
       have v0:=HS14.out.ver.at_ 0 _ rfl
       have v1:=HS14.out.ver.at_ 1 _ rfl
       have v2:=HS14.out.ver.at_ 2 _ rfl
       have v3:=HS14.out.ver.at_ 3 _ rfl
       have v4:=HS14.out.ver.at_ 4 _ rfl
       go_wp2_with fail
       refine (HS.out.release A5 n c5 y nm v B W14 HY14.out HV14.out HB14.out OY.out HFY.out HSZ.out.1 HSZ.out.2.1 HSZ.out.2.2).mono ?_
       rw [show RelPost y nm v.v W14=fun e w'=>∃ r:MRel,e=.returned (.tuple #[r.agg,.bool ok])∧r.p=(releaseO (x.map MPack.p) nm v.v).getD default∧RelOk w' (LtB w'.heap.size) r∧Below W14.heap.size W14 w' from by funext e w'; unfold RelPost; rw [plain_release HPL.out HCN.out,HOK.out]]
       rintro e W15 ⟨t,rfl,htp,hto,hb⟩
       have HTP:Hid (t.p=r.p):=by unfold Hid; rw [HRP.out]; exact htp
       have HTT15:=Lib.hid hto
       clear htp hto p0 v0 v1 v2 v3 v4
       unfold MRel.agg
       have HB215:Hid (B2≤W15.heap.size):=Nat.le_trans HB214.out hb.size
       clear HB214
       have HS15:=Lib.hid (HS14.out.kept hb)
       have HP15:=Lib.hid (HP14.out.kept hb HP14.out.lt)
       have HR15:=Lib.hid (HR14.out.kept hb HR14.out.lt)
       have HQ15:=Lib.hid (HQ14.out.kept hb HQ14.out.lt)
       have HC15:=Lib.hid (HC14.out.kept hb HC14.out.lt)
       have HD15:=Lib.hid (HD14.out.kept hb HD14.out.lt)
       have HY15:=Lib.hid (HY14.out.keep (KeepS.of_below (S:=LtB B) hb))
       have HX15:=Lib.hid (HX14.out.keep (KeepS.of_below (S:=LtB B) hb))
       have HV15:=Lib.hid (HV14.out.keep (KeepS.of_below (S:=LtB B) hb))
       have HRR15:=Lib.hid (HRR14.out.keep (KeepS.of_below hb))
       have HQQ15:=Lib.hid (HQQ14.out.keep (KeepS.of_below hb))
       have HB15:Hid (B≤W15.heap.size):=Nat.le_trans HB14.out hb.size
       clear hb HS14 HB14 HP14 HR14 HQ14 HC14 HD14 HY14 HX14 HV14 HRR14 HQQ14
       obtain ⟨B3,hB3⟩:∃ B,W15.heap.size=B:=⟨_,rfl⟩
       rw [hB3] at HTT15
       have HB23:Hid (B2≤B3):=by rw [← hB3]; exact HB215.out
       have HB3:Hid (B3≤W15.heap.size):=Nat.le_of_eq hB3.symm
       clear hB3
       have HZZ:Hid (∀ W':World,W15.heap.size≤W'.heap.size→B3≤W'.heap.size):=fun W' h=>Nat.le_trans HB3.out h
       go_upto_region 17 with (fail)
       have HT16:Hid (AtV (W15.alloc (.cells #[t.ver.v.a,t.ver.v.b,t.ver.v.c,.slice t.ver.A t.ver.v.pre.length t.ver.c,.slice t.ver.B t.ver.v.build.length t.ver.d,.bool t.yanked,.slice t.N t.needs.length t.nc,.slice t.B t.bans.length t.bc] 36)) W15.heap.size [.int .u64 t.ver.v.a,.int .u64 t.ver.v.b,.int .u64 t.ver.v.c,.slice t.ver.A t.ver.v.pre.length t.ver.c,.slice t.ver.B t.ver.v.build.length t.ver.d,.bool t.yanked,.slice t.N t.needs.length t.nc,.slice t.B t.bans.length t.bc]):=AtV.new W15 _ _
       have hb:Below W15.heap.size W15 (W15.alloc (.cells #[t.ver.v.a,t.ver.v.b,t.ver.v.c,.slice t.ver.A t.ver.v.pre.length t.ver.c,.slice t.ver.B t.ver.v.build.length t.ver.d,.bool t.yanked,.slice t.N t.needs.length t.nc,.slice t.B t.bans.length t.bc] 36)):=(Below.refl _ _).alloc (Nat.le_refl _) _
       obtain ⟨W16,hWn⟩:∃ W,(W15.alloc (.cells #[t.ver.v.a,t.ver.v.b,t.ver.v.c,.slice t.ver.A t.ver.v.pre.length t.ver.c,.slice t.ver.B t.ver.v.build.length t.ver.d,.bool t.yanked,.slice t.N t.needs.length t.nc,.slice t.B t.bans.length t.bc] 36))=W:=⟨_,rfl⟩
       rw [hWn] at HT16 hb ⊢
       have HB4:Hid (B3≤W16.heap.size):=HZZ.out _ hb.size
       clear hWn
       have HB216:Hid (B2≤W16.heap.size):=Nat.le_trans HB215.out hb.size
       clear HB215
       have HS16:=Lib.hid (HS15.out.kept hb)
       have HP16:=Lib.hid (HP15.out.kept hb HP15.out.lt)
       have HR16:=Lib.hid (HR15.out.kept hb HR15.out.lt)
       have HQ16:=Lib.hid (HQ15.out.kept hb HQ15.out.lt)
       have HC16:=Lib.hid (HC15.out.kept hb HC15.out.lt)
       have HD16:=Lib.hid (HD15.out.kept hb HD15.out.lt)
       have HY16:=Lib.hid (HY15.out.keep (KeepS.of_below (S:=LtB B) hb))
       have HX16:=Lib.hid (HX15.out.keep (KeepS.of_below (S:=LtB B) hb))
       have HV16:=Lib.hid (HV15.out.keep (KeepS.of_below (S:=LtB B) hb))
       have HRR16:=Lib.hid (HRR15.out.keep (KeepS.of_below hb))
       have HQQ16:=Lib.hid (HQQ15.out.keep (KeepS.of_below hb))
       have HTT16:=Lib.hid (HTT15.out.keep (KeepS.of_below hb))
       have HB16:Hid (B≤W16.heap.size):=Nat.le_trans HB15.out hb.size
       clear hb HS15 HB15 HP15 HR15 HQ15 HC15 HD15 HY15 HX15 HV15 HRR15 HQQ15 HTT15
       obtain ⟨bt,hbl⟩:∃ g,W15.heap.size=g:=⟨_,rfl⟩
       rw [hbl] at HT16 ⊢
       clear hbl
       have hbb:(ok == ok)=true:=by simp
       have r0:=HR16.out.at_ 0 _ rfl
       have r1:=HR16.out.at_ 1 _ rfl
       have r2:=HR16.out.at_ 2 _ rfl
       have r3:=HR16.out.at_ 3 _ rfl
       have r4:=HR16.out.at_ 4 _ rfl
       have r5:=HR16.out.at_ 5 _ rfl
       have r6:=HR16.out.at_ 6 _ rfl
       have r7:=HR16.out.at_ 7 _ rfl
       have q0:=HT16.out.at_ 0 _ rfl
       have q1:=HT16.out.at_ 1 _ rfl
       have q2:=HT16.out.at_ 2 _ rfl
       have q3:=HT16.out.at_ 3 _ rfl
       have q4:=HT16.out.at_ 4 _ rfl
       have q5:=HT16.out.at_ 5 _ rfl
       have q6:=HT16.out.at_ 6 _ rfl
       have q7:=HT16.out.at_ 7 _ rfl
       go_wp2_with fail
       refine (refSameRel_yes t r B3 W16 HTT16.out (HRR16.out.mono fun b g _=>Nat.lt_of_lt_of_le g HB23.out) HTP.out HB4.out).mono ?_
       rintro e UE ⟨rfl,hb⟩
       have HEND:=Lib.hid (HS16.out.kept hb)
       clear hb r0 r1 r2 r3 r4 r5 r6 r7 q0 q1 q2 q3 q4 q5 q6 q7
       go_wp2
       go_ret
       exact ⟨rfl,HEND.out.bel⟩
      ·have hkb:(k4 != 0)=true:=by simpa using hk0
       clear hk0
       go_wp2
       go_ret
       exact ⟨rfl,HS14.out.bel⟩
     | false =>
      refine sk 16 rfl ?_
      refine sk 17 rfl ?_
      refine sk 18 rfl ?_
      refine sk 19 rfl ?_
      refine tk 20 rfl (.bool false) ?_
      refine tk 21 rfl (.bool false) ?_
      refine wpAnyH_done (by kernel_rfl) ?_ _
      have hb:=H3.out
      generalize UH3=W14 at hb ⊢
      clear p0 lB i0 li hHeld hHeldH1 hHeldH2 hHeldH3 HFIN HB6 HY2 HE2 H3 H2 H1 H0 hee
      have HB214:Hid (B2≤W14.heap.size):=Nat.le_trans HB213.out hb.size
      clear HB213
      have HS14:=Lib.hid (HS13.out.kept hb)
      have HP14:=Lib.hid (HP13.out.kept hb HP13.out.lt)
      have HR14:=Lib.hid (HR13.out.kept hb HR13.out.lt)
      have HQ14:=Lib.hid (HQ13.out.kept hb HQ13.out.lt)
      have HC14:=Lib.hid (HC13.out.kept hb HC13.out.lt)
      have HD14:=Lib.hid (HD13.out.kept hb HD13.out.lt)
      have HY14:=Lib.hid (HY13.out.keep (KeepS.of_below (S:=LtB B) hb))
      have HX14:=Lib.hid (HX13.out.keep (KeepS.of_below (S:=LtB B) hb))
      have HV14:=Lib.hid (HV13.out.keep (KeepS.of_below (S:=LtB B) hb))
      have HRR14:=Lib.hid (HRR13.out.keep (KeepS.of_below hb))
      have HQQ14:=Lib.hid (HQQ13.out.keep (KeepS.of_below hb))
      have HB14:Hid (B≤W14.heap.size):=Nat.le_trans HB13.out hb.size
      clear hb HS13 HB13 HP13 HR13 HQ13 HC13 HD13 HY13 HX13 HV13 HRR13 HQQ13
      by_cases hk0:k4=0
      ·have HCN:=Lib.hid (HKN.out.1 hk0)
       have hkb:(k4 != 0)=false:=by rw [hk0]; rfl
       clear hk0
       have p0:=HP14.out.at_ 0 _ rfl
       have v0:=HS14.out.ver.at_ 0 _ rfl
       have v1:=HS14.out.ver.at_ 1 _ rfl
       have v2:=HS14.out.ver.at_ 2 _ rfl
       have v3:=HS14.out.ver.at_ 3 _ rfl
       have v4:=HS14.out.ver.at_ 4 _ rfl
       go_wp2_with fail
       refine (HS.out.release A5 n c5 y nm v B W14 HY14.out HV14.out HB14.out OY.out HFY.out HSZ.out.1 HSZ.out.2.1 HSZ.out.2.2).mono ?_
       rw [show RelPost y nm v.v W14=fun e w'=>∃ r:MRel,e=.returned (.tuple #[r.agg,.bool ok])∧r.p=(releaseO (x.map MPack.p) nm v.v).getD default∧RelOk w' (LtB w'.heap.size) r∧Below W14.heap.size W14 w' from by funext e w'; unfold RelPost; rw [plain_release HPL.out HCN.out,HOK.out]]
       rintro e W15 ⟨t,rfl,htp,hto,hb⟩
       have HTP:Hid (t.p=r.p):=by unfold Hid; rw [HRP.out]; exact htp
       have HTT15:=Lib.hid hto
       clear htp hto p0 v0 v1 v2 v3 v4
       unfold MRel.agg
       have HB215:Hid (B2≤W15.heap.size):=Nat.le_trans HB214.out hb.size
       clear HB214
       have HS15:=Lib.hid (HS14.out.kept hb)
       have HP15:=Lib.hid (HP14.out.kept hb HP14.out.lt)
       have HR15:=Lib.hid (HR14.out.kept hb HR14.out.lt)
       have HQ15:=Lib.hid (HQ14.out.kept hb HQ14.out.lt)
       have HC15:=Lib.hid (HC14.out.kept hb HC14.out.lt)
       have HD15:=Lib.hid (HD14.out.kept hb HD14.out.lt)
       have HY15:=Lib.hid (HY14.out.keep (KeepS.of_below (S:=LtB B) hb))
       have HX15:=Lib.hid (HX14.out.keep (KeepS.of_below (S:=LtB B) hb))
       have HV15:=Lib.hid (HV14.out.keep (KeepS.of_below (S:=LtB B) hb))
       have HRR15:=Lib.hid (HRR14.out.keep (KeepS.of_below hb))
       have HQQ15:=Lib.hid (HQQ14.out.keep (KeepS.of_below hb))
       have HB15:Hid (B≤W15.heap.size):=Nat.le_trans HB14.out hb.size
       clear hb HS14 HB14 HP14 HR14 HQ14 HC14 HD14 HY14 HX14 HV14 HRR14 HQQ14
       obtain ⟨B3,hB3⟩:∃ B,W15.heap.size=B:=⟨_,rfl⟩
       rw [hB3] at HTT15
       have HB23:Hid (B2≤B3):=by rw [← hB3]; exact HB215.out
       have HB3:Hid (B3≤W15.heap.size):=Nat.le_of_eq hB3.symm
       clear hB3
       have HZZ:Hid (∀ W':World,W15.heap.size≤W'.heap.size→B3≤W'.heap.size):=fun W' h=>Nat.le_trans HB3.out h
       go_upto_region 17 with (fail)
       have HT16:Hid (AtV (W15.alloc (.cells #[t.ver.v.a,t.ver.v.b,t.ver.v.c,.slice t.ver.A t.ver.v.pre.length t.ver.c,.slice t.ver.B t.ver.v.build.length t.ver.d,.bool t.yanked,.slice t.N t.needs.length t.nc,.slice t.B t.bans.length t.bc] 36)) W15.heap.size [.int .u64 t.ver.v.a,.int .u64 t.ver.v.b,.int .u64 t.ver.v.c,.slice t.ver.A t.ver.v.pre.length t.ver.c,.slice t.ver.B t.ver.v.build.length t.ver.d,.bool t.yanked,.slice t.N t.needs.length t.nc,.slice t.B t.bans.length t.bc]):=AtV.new W15 _ _
       have hb:Below W15.heap.size W15 (W15.alloc (.cells #[t.ver.v.a,t.ver.v.b,t.ver.v.c,.slice t.ver.A t.ver.v.pre.length t.ver.c,.slice t.ver.B t.ver.v.build.length t.ver.d,.bool t.yanked,.slice t.N t.needs.length t.nc,.slice t.B t.bans.length t.bc] 36)):=(Below.refl _ _).alloc (Nat.le_refl _) _
       obtain ⟨W16,hWn⟩:∃ W,(W15.alloc (.cells #[t.ver.v.a,t.ver.v.b,t.ver.v.c,.slice t.ver.A t.ver.v.pre.length t.ver.c,.slice t.ver.B t.ver.v.build.length t.ver.d,.bool t.yanked,.slice t.N t.needs.length t.nc,.slice t.B t.bans.length t.bc] 36))=W:=⟨_,rfl⟩
       rw [hWn] at HT16 hb ⊢
       have HB4:Hid (B3≤W16.heap.size):=HZZ.out _ hb.size
       clear hWn
       have HB216:Hid (B2≤W16.heap.size):=Nat.le_trans HB215.out hb.size
       clear HB215
       have HS16:=Lib.hid (HS15.out.kept hb)
       have HP16:=Lib.hid (HP15.out.kept hb HP15.out.lt)
       have HR16:=Lib.hid (HR15.out.kept hb HR15.out.lt)
       have HQ16:=Lib.hid (HQ15.out.kept hb HQ15.out.lt)
       have HC16:=Lib.hid (HC15.out.kept hb HC15.out.lt)
       have HD16:=Lib.hid (HD15.out.kept hb HD15.out.lt)
       have HY16:=Lib.hid (HY15.out.keep (KeepS.of_below (S:=LtB B) hb))
       have HX16:=Lib.hid (HX15.out.keep (KeepS.of_below (S:=LtB B) hb))
       have HV16:=Lib.hid (HV15.out.keep (KeepS.of_below (S:=LtB B) hb))
       have HRR16:=Lib.hid (HRR15.out.keep (KeepS.of_below hb))
       have HQQ16:=Lib.hid (HQQ15.out.keep (KeepS.of_below hb))
       have HTT16:=Lib.hid (HTT15.out.keep (KeepS.of_below hb))
       have HB16:Hid (B≤W16.heap.size):=Nat.le_trans HB15.out hb.size
       clear hb HS15 HB15 HP15 HR15 HQ15 HC15 HD15 HY15 HX15 HV15 HRR15 HQQ15 HTT15
       obtain ⟨bt,hbl⟩:∃ g,W15.heap.size=g:=⟨_,rfl⟩
       rw [hbl] at HT16 ⊢
       clear hbl
       have hbb:(ok == ok)=true:=by simp
       have r0:=HR16.out.at_ 0 _ rfl
       have r1:=HR16.out.at_ 1 _ rfl
       have r2:=HR16.out.at_ 2 _ rfl
       have r3:=HR16.out.at_ 3 _ rfl
       have r4:=HR16.out.at_ 4 _ rfl
       have r5:=HR16.out.at_ 5 _ rfl
       have r6:=HR16.out.at_ 6 _ rfl
       have r7:=HR16.out.at_ 7 _ rfl
       have q0:=HT16.out.at_ 0 _ rfl
       have q1:=HT16.out.at_ 1 _ rfl
       have q2:=HT16.out.at_ 2 _ rfl
       have q3:=HT16.out.at_ 3 _ rfl
       have q4:=HT16.out.at_ 4 _ rfl
       have q5:=HT16.out.at_ 5 _ rfl
       have q6:=HT16.out.at_ 6 _ rfl
       have q7:=HT16.out.at_ 7 _ rfl
       go_wp2_with fail
       refine (refSameRel_yes t r B3 W16 HTT16.out (HRR16.out.mono fun b g _=>Nat.lt_of_lt_of_le g HB23.out) HTP.out HB4.out).mono ?_
       rintro e UE ⟨rfl,hb⟩
       have HEND:=Lib.hid (HS16.out.kept hb)
       clear hb r0 r1 r2 r3 r4 r5 r6 r7 q0 q1 q2 q3 q4 q5 q6 q7
       go_wp2
       go_ret
       exact ⟨rfl,HEND.out.bel⟩
      ·have hkb:(k4 != 0)=true:=by simpa using hk0
       clear hk0
       go_wp2
       go_ret
       exact ⟨rfl,HS14.out.bel⟩
 ·have hzb:(z != 0)=true:=by simpa using hz0
  clear hz0 hf
  go_wp2
  go_ret
  exact ⟨rfl,HS2.out.bel⟩
end Go.Proofs.YtnpjklaaokiikaaGreatDoor.Model
