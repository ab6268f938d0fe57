/-
  What the theorem of the last text needs of these: RkGet, RkLeft. Conditions: as each theorem states.
-/
import Derived.Test.YtgakcdcfblgagaaGreatDoorRoA1
import Derived.Test.YtgakcdcfblgagaaGreatDoorRoA12
import Derived.Test.YtgakcdcfblgagaaGreatDoorRoA14
import Derived.Test.YtgakcdcfblgagaaGreatDoorRoA21
import Derived.Test.YtgakcdcfblgagaaGreatDoorRoA32
set_option maxRecDepth 100000
set_option maxHeartbeats 25600000
namespace Go.Proofs.YtgakcdcfblgagaaGreatDoor.Rank
open Go.RowKit Num Ident Semver Fr
open Range (Rng noRng RV KeepS LtB LenOk goodR wt)
open KR (KRow AtV)
open Model (PDep PRel PPack MDep MVer MRel MPack DepOk VerOk RelOk PackOk DRow RRow PRow SlOk FewX strKeyed strKey)
open Copy (atv_fill but_fill)
theorem packField0 (a b:Value) (w:World):(Instr.field 48 (.agg #[a,b]) 0).run Tryz.prog w=.ok a w:=by kernel_rfl
theorem packField1 (a b:Value) (w:World):(Instr.field 48 (.agg #[a,b]) 1).run Tryz.prog w=.ok b w:=by kernel_rfl
theorem len_any (tb mb:Nat) (A:Option Addr) (n c:Nat) (y:List MPack) (w:World) (h:Tbl w tb mb A n c y) :
  Calls Tryz.prog 24 #[.pointer (some ⟨tb,0,none⟩)] w fun e w'=>e=.returned (.int .i64 n)∧w=w':=by
 obtain ⟨lt1,hfr,hat⟩:=h.at_
 have c0:=hat 0 _ rfl
 clear h hat
 go_enter Tryz.func24,Tryz.ntmps24
 go_wp2
 go_ret
 exact ⟨rfl,rfl⟩
theorem pack_any (tb mb:Nat) (A:Option Addr) (n c:Nat) (y:List MPack) (p:Int) (w:World) (h:Tbl w tb mb A n c y) :
  Calls Tryz.prog 58 #[.pointer (some ⟨tb,0,none⟩),.int .i64 p] w fun e w'=>e=.returned (packM y p).agg∧Below w.heap.size w w':=by
 obtain ⟨W0,hW,h1,hb⟩:∃ W,W=w.alloc (.cells #[.string { data:=#[] },.slice none 0 0] 48)∧AtV W w.heap.size [.string { data:=#[] },.slice none 0 0]∧Below w.heap.size w W:=⟨_,rfl,AtV.new w _ _,(Below.refl _ _).alloc (Nat.le_refl _) _⟩
 have H:=Lib.hid (h.kept hb)
 have HZ:=Lib.hid h1
 have HB:=Lib.hid hb
 have hlen:=h.len
 clear h h1 hb
 obtain ⟨q,hq⟩:∃ q,packM y p=q:=⟨_,rfl⟩
 have HQ:=Lib.hid hq
 rw [hq]
 clear hq
 obtain ⟨zb,hzb⟩:∃ zb,w.heap.size=zb:=⟨_,rfl⟩
 have HZB:=Lib.hid hzb
 go_enter Tryz.func58,Tryz.ntmps58
 go_upto_region 1 with (fail)
 rw [← hW]
 rw [hzb] at HZ
 try rw [hzb]
 clear hW hzb
 have z0:=HZ.out.at_ 0 _ rfl
 have z1:=HZ.out.at_ 1 _ rfl
 have hzl:zb<W0.heap.size:=HZ.out.lt
 have hzf:=HZ.out.fr
 have hzw:=HZB.out
 by_cases hp:p<0
 ·have HPM:Hid (q=default):=HQ.out.symm.trans (packM_out (.inl hp))
  go_wp2
  have HA3:Hid (AtV ((W0.setCell ⟨zb,0,none⟩ (.string { data:=#[] })).setCell ⟨zb,1,none⟩ (.slice none 0 0)) (zb) [.string { data:=#[] },.slice none 0 0]):=atv_fill HZ.out [.string { data:=#[] },.slice none 0 0] 0 rfl
  have HB3:Hid (But (fun k=>k=zb) W0 ((W0.setCell ⟨zb,0,none⟩ (.string { data:=#[] })).setCell ⟨zb,1,none⟩ (.slice none 0 0))):=but_fill W0 (zb) [.string { data:=#[] },.slice none 0 0] 0
  clear z0 z1 hzl hzf
  try simp only [Exit.jump]
  generalize ((W0.setCell ⟨zb,0,none⟩ (.string { data:=#[] })).setCell ⟨zb,1,none⟩ (.slice none 0 0))=W9 at HA3 HB3 ⊢
  have y0:=HA3.out.at_ 0 _ rfl
  have y1:=HA3.out.at_ 1 _ rfl
  have hbw:Below w.heap.size w W9:=HB.out.trans (HB3.out.below (B:=w.heap.size) (fun k e=>by omega) HB.out.size)
  refine bodyPost_ret (v:=.agg #[.string { data:=#[] },.slice none 0 0]) (by simp [results,Tryz.results58,go_sem,y0,y1]) rfl ⟨by rw [HPM.out]; rfl,hbw⟩
 ·by_cases hp2:(n:Int)≤p
  ·have HPM:Hid (q=default):=HQ.out.symm.trans (packM_out (.inr (by omega)))
   go_wp2_with fail
   refine (len_any tb mb A n c y W0 H.out).mono ?_
   rintro e w' ⟨rfl,rfl⟩
   go_wp2
   have HA3:Hid (AtV ((W0.setCell ⟨zb,0,none⟩ (.string { data:=#[] })).setCell ⟨zb,1,none⟩ (.slice none 0 0)) (zb) [.string { data:=#[] },.slice none 0 0]):=atv_fill HZ.out [.string { data:=#[] },.slice none 0 0] 0 rfl
   have HB3:Hid (But (fun k=>k=zb) W0 ((W0.setCell ⟨zb,0,none⟩ (.string { data:=#[] })).setCell ⟨zb,1,none⟩ (.slice none 0 0))):=but_fill W0 (zb) [.string { data:=#[] },.slice none 0 0] 0
   clear z0 z1 hzl hzf
   try simp only [Exit.jump]
   generalize ((W0.setCell ⟨zb,0,none⟩ (.string { data:=#[] })).setCell ⟨zb,1,none⟩ (.slice none 0 0))=W9 at HA3 HB3 ⊢
   have y0:=HA3.out.at_ 0 _ rfl
   have y1:=HA3.out.at_ 1 _ rfl
   have hbw:Below w.heap.size w W9:=HB.out.trans (HB3.out.below (B:=w.heap.size) (fun k e=>by omega) HB.out.size)
   refine bodyPost_ret (v:=.agg #[.string { data:=#[] },.slice none 0 0]) (by simp [results,Tryz.results58,go_sem,y0,y1]) rfl ⟨by rw [HPM.out]; rfl,hbw⟩
  ·obtain ⟨k,rfl⟩:∃ k:Nat,p=(k:Int):=⟨p.toNat,by omega⟩
   have hk:k<n:=by omega
   have HPM:Hid (q=y.getD k default):=HQ.out.symm.trans (packM_in (by omega))
   obtain ⟨b,o,rfl,_,hbl,hcs⟩:=H.out.row.row.at_ hk
   rw [← HPM.out] at hcs
   have q0:W0.cell? ⟨b,o+k * 2,none⟩=some (.string (Ident.mk q.name)):=hcs 0 _ rfl
   have q1:W0.cell? ⟨b,o+k * 2+1,none⟩=some (.slice q.R q.rels.length q.rc):=hcs 1 _ rfl
   have t0:=H.out.at_.at_ 0 _ rfl
   clear hcs
   go_wp2_with fail
   refine (len_any tb mb _ n c y W0 H.out).mono ?_
   rintro e w' ⟨rfl,rfl⟩
   go_wp2
   have HA3:Hid (AtV ((W0.setCell ⟨zb,0,none⟩ (.string (Ident.mk q.name))).setCell ⟨zb,1,none⟩ (.slice q.R q.rels.length q.rc)) (zb) [.string (Ident.mk q.name),.slice q.R q.rels.length q.rc]):=atv_fill HZ.out [.string (Ident.mk q.name),.slice q.R q.rels.length q.rc] 0 rfl
   have HB3:Hid (But (fun k=>k=zb) W0 ((W0.setCell ⟨zb,0,none⟩ (.string (Ident.mk q.name))).setCell ⟨zb,1,none⟩ (.slice q.R q.rels.length q.rc))):=but_fill W0 (zb) [.string (Ident.mk q.name),.slice q.R q.rels.length q.rc] 0
   clear z0 z1 hzl hzf
   try simp only [Exit.jump]
   generalize ((W0.setCell ⟨zb,0,none⟩ (.string (Ident.mk q.name))).setCell ⟨zb,1,none⟩ (.slice q.R q.rels.length q.rc))=W9 at HA3 HB3 ⊢
   have y0:=HA3.out.at_ 0 _ rfl
   have y1:=HA3.out.at_ 1 _ rfl
   have hbw:Below w.heap.size w W9:=HB.out.trans (HB3.out.below (B:=w.heap.size) (fun k e=>by omega) HB.out.size)
   refine bodyPost_ret (v:=.agg #[.string (Ident.mk q.name),.slice q.R q.rels.length q.rc]) (by simp [results,Tryz.results58,go_sem,y0,y1]) rfl ⟨rfl,hbw⟩
theorem name_any (tb mb:Nat) (A:Option Addr) (n c:Nat) (y:List MPack) (p:Int) (w:World) (h:Tbl w tb mb A n c y) :
  Calls Tryz.prog 25 #[.pointer (some ⟨tb,0,none⟩),.int .i64 p] w fun e w'=>e=.returned (.string (Ident.mk (nameO (y.map MPack.p) p)))∧Below w.heap.size w w':=by
 have HC:=Lib.hid (pack_any tb mb A n c y p w h)
 have hl:(packM y p).rels.length≤6:=(h.pack p).2.1
 clear h
 try rw [← packM_name]
 generalize packM y p=q at HC hl ⊢
 go_enter Tryz.func25,Tryz.ntmps25
 go_wp2_with fail
 refine HC.out.mono ?_
 rintro e w' ⟨rfl,hb⟩
 have HB:=Lib.hid hb
 clear hb HC
 unfold MPack.agg
 have pf0:=packField0
 have pf1:=packField1
 go_wp2
 go_ret
 exact ⟨rfl,HB.out⟩
theorem size_any (tb mb:Nat) (A:Option Addr) (n c:Nat) (y:List MPack) (p:Int) (w:World) (h:Tbl w tb mb A n c y) :
  Calls Tryz.prog 26 #[.pointer (some ⟨tb,0,none⟩),.int .i64 p] w fun e w'=>e=.returned (.int .i64 ((packM y p).rels.length))∧Below w.heap.size w w':=by
 have HC:=Lib.hid (pack_any tb mb A n c y p w h)
 have hl:(packM y p).rels.length≤6:=(h.pack p).2.1
 clear h
 try rw [← packM_name]
 generalize packM y p=q at HC hl ⊢
 go_enter Tryz.func26,Tryz.ntmps26
 go_wp2_with fail
 refine HC.out.mono ?_
 rintro e w' ⟨rfl,hb⟩
 have HB:=Lib.hid hb
 clear hb HC
 unfold MPack.agg
 have pf0:=packField0
 have pf1:=packField1
 go_wp2
 go_ret
 exact ⟨rfl,HB.out⟩
theorem find_any (tb mb:Nat) (A:Option Addr) (n c:Nat) (y:List MPack) (s:ByteArray) (w:World) (h:Tbl w tb mb A n c y) (hs:s.size≤maxLen) :
  Calls Tryz.prog 19 #[.pointer (some ⟨tb,0,none⟩),.string s] w fun e w'=>e=.returned (.tuple #[.int .i64 (findI (y.map MPack.name) s.data.toList),.bool (decide (s.data.toList ∈ y.map MPack.name))])∧w=w':=by
 obtain ⟨lt1,hfr,hat⟩:=h.at_
 have c1:=hat 1 _ rfl
 have hlook:=h.nums.look hs
 clear h hat hs
 obtain ⟨i,hi⟩:∃ i,findI (y.map MPack.name) s.data.toList=i:=⟨_,rfl⟩
 obtain ⟨b,hb⟩:∃ b,decide (s.data.toList ∈ y.map MPack.name)=b:=⟨_,rfl⟩
 rw [hi,hb] at hlook ⊢
 clear hi hb
 go_enter Tryz.func19,Tryz.ntmps19
 go_wp2
 go_ret2
 exact ⟨rfl,rfl⟩
def relM (l:List MRel) (k:Int):MRel:=if 0≤k∧k<l.length then l.getD k.toNat default else default
def relB (l:List MRel) (k:Int):Bool:=decide (0≤k∧k<l.length)
theorem relM_in {l:List MRel} {k:Nat} (h:k<l.length):relM l (k:Int)=l.getD k default∧relB l (k:Int)=true:=by
 unfold relM relB; rw [if_pos ⟨by omega,by omega⟩,Int.toNat_natCast]; exact ⟨rfl,decide_eq_true ⟨by omega,by omega⟩⟩
theorem relM_out {l:List MRel} {k:Int} (h:k<0∨(l.length:Int)≤k):relM l k=default∧relB l k=false:=by
 unfold relM relB; rw [if_neg (by omega)]; exact ⟨rfl,decide_eq_false (by omega)⟩
theorem rel_any (tb mb:Nat) (A:Option Addr) (n c:Nat) (y:List MPack) (p k:Int) (w:World) (h:Tbl w tb mb A n c y) :
  Calls Tryz.prog 55 #[.pointer (some ⟨tb,0,none⟩),.int .i64 p,.int .i64 k] w fun e w'=>e=.returned (.tuple #[(relM (packM y p).rels k).agg,.bool (relB (packM y p).rels k)])∧Below w.heap.size w w':=by
 obtain ⟨W0,hW,h1,hb⟩:∃ W,W=w.alloc (.cells #[.int .u64 0,.int .u64 0,.int .u64 0,.slice none 0 0,.slice none 0 0,.bool false,.slice none 0 0,.slice none 0 0] 46)∧AtV W w.heap.size [.int .u64 0,.int .u64 0,.int .u64 0,.slice none 0 0,.slice none 0 0,.bool false,.slice none 0 0,.slice none 0 0]∧Below w.heap.size w W:=⟨_,rfl,AtV.new w _ _,(Below.refl _ _).alloc (Nat.le_refl _) _⟩
 have H:=Lib.hid (h.kept hb)
 have HZ:=Lib.hid h1
 have HB:=Lib.hid hb
 clear h h1 hb
 obtain ⟨r,hr⟩:∃ r,relM (packM y p).rels k=r:=⟨_,rfl⟩
 obtain ⟨ok,hok⟩:∃ ok,relB (packM y p).rels k=ok:=⟨_,rfl⟩
 have HQ:Hid (relM (packM y p).rels k=r∧relB (packM y p).rels k=ok):=⟨hr,hok⟩
 rw [hr,hok]
 clear hr hok
 obtain ⟨zb,hzb⟩:∃ zb,w.heap.size=zb:=⟨_,rfl⟩
 have HZB:=Lib.hid hzb
 go_enter Tryz.func55,Tryz.ntmps55
 go_upto_region 1 with (fail)
 rw [← hW]
 rw [hzb] at HZ
 try rw [hzb]
 clear hW hzb
 have hzw:=HZB.out
 by_cases hp:k<0
 ·have HE:Hid (r=default∧ok=false):=⟨HQ.out.1.symm.trans (relM_out (.inl hp)).1,HQ.out.2.symm.trans (relM_out (.inl hp)).2⟩
  have z0:=HZ.out.at_ 0 _ rfl
  have z1:=HZ.out.at_ 1 _ rfl
  have z2:=HZ.out.at_ 2 _ rfl
  have z3:=HZ.out.at_ 3 _ rfl
  have z4:=HZ.out.at_ 4 _ rfl
  have z5:=HZ.out.at_ 5 _ rfl
  have z6:=HZ.out.at_ 6 _ rfl
  have z7:=HZ.out.at_ 7 _ rfl
  have hzl:zb<W0.heap.size:=HZ.out.lt
  have hzf:=HZ.out.fr
  go_wp2
  have HA3:Hid (AtV ((((((((W0.setCell ⟨zb,0,none⟩ (.int .u64 0)).setCell ⟨zb,1,none⟩ (.int .u64 0)).setCell ⟨zb,2,none⟩ (.int .u64 0)).setCell ⟨zb,3,none⟩ (.slice none 0 0)).setCell ⟨zb,4,none⟩ (.slice none 0 0)).setCell ⟨zb,5,none⟩ (.bool false)).setCell ⟨zb,6,none⟩ (.slice none 0 0)).setCell ⟨zb,7,none⟩ (.slice none 0 0)) (zb) [.int .u64 0,.int .u64 0,.int .u64 0,.slice none 0 0,.slice none 0 0,.bool false,.slice none 0 0,.slice none 0 0]):=atv_fill HZ.out [.int .u64 0,.int .u64 0,.int .u64 0,.slice none 0 0,.slice none 0 0,.bool false,.slice none 0 0,.slice none 0 0] 0 rfl
  have HB3:Hid (But (fun k=>k=zb) W0 ((((((((W0.setCell ⟨zb,0,none⟩ (.int .u64 0)).setCell ⟨zb,1,none⟩ (.int .u64 0)).setCell ⟨zb,2,none⟩ (.int .u64 0)).setCell ⟨zb,3,none⟩ (.slice none 0 0)).setCell ⟨zb,4,none⟩ (.slice none 0 0)).setCell ⟨zb,5,none⟩ (.bool false)).setCell ⟨zb,6,none⟩ (.slice none 0 0)).setCell ⟨zb,7,none⟩ (.slice none 0 0))):=but_fill W0 (zb) [.int .u64 0,.int .u64 0,.int .u64 0,.slice none 0 0,.slice none 0 0,.bool false,.slice none 0 0,.slice none 0 0] 0
  clear z0 z1 z2 z3 z4 z5 z6 z7 hzl hzf
  try simp only [Exit.jump]
  generalize ((((((((W0.setCell ⟨zb,0,none⟩ (.int .u64 0)).setCell ⟨zb,1,none⟩ (.int .u64 0)).setCell ⟨zb,2,none⟩ (.int .u64 0)).setCell ⟨zb,3,none⟩ (.slice none 0 0)).setCell ⟨zb,4,none⟩ (.slice none 0 0)).setCell ⟨zb,5,none⟩ (.bool false)).setCell ⟨zb,6,none⟩ (.slice none 0 0)).setCell ⟨zb,7,none⟩ (.slice none 0 0))=W9 at HA3 HB3 ⊢
  have y0:=HA3.out.at_ 0 _ rfl
  have y1:=HA3.out.at_ 1 _ rfl
  have y2:=HA3.out.at_ 2 _ rfl
  have y3:=HA3.out.at_ 3 _ rfl
  have y4:=HA3.out.at_ 4 _ rfl
  have y5:=HA3.out.at_ 5 _ rfl
  have y6:=HA3.out.at_ 6 _ rfl
  have y7:=HA3.out.at_ 7 _ rfl
  have hbw:Below w.heap.size w W9:=HB.out.trans (HB3.out.below (B:=w.heap.size) (fun k e=>by omega) HB.out.size)
  refine bodyPost_ret (v:=.tuple #[.agg #[.int .u64 0,.int .u64 0,.int .u64 0,.slice none 0 0,.slice none 0 0,.bool false,.slice none 0 0,.slice none 0 0],.bool false]) (by simp [results,Tryz.results55,go_sem,y0,y1,y2,y3,y4,y5,y6,y7]) rfl ⟨by rw [HE.out.1,HE.out.2]; rfl,hbw⟩
 ·by_cases hp2:((packM y p).rels.length:Int)≤k
  ·have HE:Hid (r=default∧ok=false):=⟨HQ.out.1.symm.trans (relM_out (.inr hp2)).1,HQ.out.2.symm.trans (relM_out (.inr hp2)).2⟩
   go_wp2_with fail
   refine (size_any tb mb A n c y p W0 H.out).mono ?_
   rintro e W1 ⟨rfl,hb1⟩
   have HB0:=HB
   have HZ0:=HZ
   clear HB HZ
   have HB:=Lib.hid (HB0.out.trans (hb1.mono HB0.out.size))
   have HZ:=Lib.hid (HZ0.out.kept hb1 HZ0.out.lt)
   clear hb1 HB0 HZ0
   have z0:=HZ.out.at_ 0 _ rfl
   have z1:=HZ.out.at_ 1 _ rfl
   have z2:=HZ.out.at_ 2 _ rfl
   have z3:=HZ.out.at_ 3 _ rfl
   have z4:=HZ.out.at_ 4 _ rfl
   have z5:=HZ.out.at_ 5 _ rfl
   have z6:=HZ.out.at_ 6 _ rfl
   have z7:=HZ.out.at_ 7 _ rfl
   have hzl:zb<W1.heap.size:=HZ.out.lt
   have hzf:=HZ.out.fr
   go_wp2
   have HA3:Hid (AtV ((((((((W1.setCell ⟨zb,0,none⟩ (.int .u64 0)).setCell ⟨zb,1,none⟩ (.int .u64 0)).setCell ⟨zb,2,none⟩ (.int .u64 0)).setCell ⟨zb,3,none⟩ (.slice none 0 0)).setCell ⟨zb,4,none⟩ (.slice none 0 0)).setCell ⟨zb,5,none⟩ (.bool false)).setCell ⟨zb,6,none⟩ (.slice none 0 0)).setCell ⟨zb,7,none⟩ (.slice none 0 0)) (zb) [.int .u64 0,.int .u64 0,.int .u64 0,.slice none 0 0,.slice none 0 0,.bool false,.slice none 0 0,.slice none 0 0]):=atv_fill HZ.out [.int .u64 0,.int .u64 0,.int .u64 0,.slice none 0 0,.slice none 0 0,.bool false,.slice none 0 0,.slice none 0 0] 0 rfl
   have HB3:Hid (But (fun k=>k=zb) W1 ((((((((W1.setCell ⟨zb,0,none⟩ (.int .u64 0)).setCell ⟨zb,1,none⟩ (.int .u64 0)).setCell ⟨zb,2,none⟩ (.int .u64 0)).setCell ⟨zb,3,none⟩ (.slice none 0 0)).setCell ⟨zb,4,none⟩ (.slice none 0 0)).setCell ⟨zb,5,none⟩ (.bool false)).setCell ⟨zb,6,none⟩ (.slice none 0 0)).setCell ⟨zb,7,none⟩ (.slice none 0 0))):=but_fill W1 (zb) [.int .u64 0,.int .u64 0,.int .u64 0,.slice none 0 0,.slice none 0 0,.bool false,.slice none 0 0,.slice none 0 0] 0
   clear z0 z1 z2 z3 z4 z5 z6 z7 hzl hzf
   try simp only [Exit.jump]
   generalize ((((((((W1.setCell ⟨zb,0,none⟩ (.int .u64 0)).setCell ⟨zb,1,none⟩ (.int .u64 0)).setCell ⟨zb,2,none⟩ (.int .u64 0)).setCell ⟨zb,3,none⟩ (.slice none 0 0)).setCell ⟨zb,4,none⟩ (.slice none 0 0)).setCell ⟨zb,5,none⟩ (.bool false)).setCell ⟨zb,6,none⟩ (.slice none 0 0)).setCell ⟨zb,7,none⟩ (.slice none 0 0))=W9 at HA3 HB3 ⊢
   have y0:=HA3.out.at_ 0 _ rfl
   have y1:=HA3.out.at_ 1 _ rfl
   have y2:=HA3.out.at_ 2 _ rfl
   have y3:=HA3.out.at_ 3 _ rfl
   have y4:=HA3.out.at_ 4 _ rfl
   have y5:=HA3.out.at_ 5 _ rfl
   have y6:=HA3.out.at_ 6 _ rfl
   have y7:=HA3.out.at_ 7 _ rfl
   have hbw:Below w.heap.size w W9:=HB.out.trans (HB3.out.below (B:=w.heap.size) (fun k e=>by omega) HB.out.size)
   refine bodyPost_ret (v:=.tuple #[.agg #[.int .u64 0,.int .u64 0,.int .u64 0,.slice none 0 0,.slice none 0 0,.bool false,.slice none 0 0,.slice none 0 0],.bool false]) (by simp [results,Tryz.results55,go_sem,y0,y1,y2,y3,y4,y5,y6,y7]) rfl ⟨by rw [HE.out.1,HE.out.2]; rfl,hbw⟩
  ·obtain ⟨j,rfl⟩:∃ j:Nat,k=(j:Int):=⟨k.toNat,by omega⟩
   have hk:j<(packM y p).rels.length:=by omega
   have HE:Hid (r=(packM y p).rels.getD j default∧ok=true):=⟨HQ.out.1.symm.trans (relM_in hk).1,HQ.out.2.symm.trans (relM_in hk).2⟩
   go_wp2_with fail
   refine (size_any tb mb A n c y p W0 H.out).mono ?_
   rintro e W1 ⟨rfl,hb1⟩
   have H1:=Lib.hid (H.out.kept hb1)
   have HB1:=Lib.hid (HB.out.trans (hb1.mono HB.out.size))
   have HZ1:=Lib.hid (HZ.out.kept hb1 HZ.out.lt)
   clear hb1 HB HZ
   have hnk:¬ ((packM y p).rels.length:Int)≤(j:Int):=by omega
   go_wp2_with fail
   refine (pack_any tb mb A n c y p W1 H1.out).mono ?_
   rintro e W2 ⟨rfl,hb2⟩
   have HB:=Lib.hid (HB1.out.trans (hb2.mono HB1.out.size))
   have HZ:=Lib.hid (HZ1.out.kept hb2 HZ1.out.lt)
   have hrow:=(H1.out.kept hb2).pack p
   clear hb2 HB1 HZ1
   obtain ⟨b,o,hR,_,hbl,hcs⟩:=hrow.1.rels.row.at_ hk
   clear hrow
   rw [← HE.out.1] at hcs
   have HE2:=Lib.hid HE.out.2
   clear HE HQ
   generalize packM y p=q at hk hp2 hnk hR hcs ⊢
   obtain ⟨nm,R,rc,rels⟩:=q
   simp only at hk hp2 hnk hR hcs ⊢
   subst hR
   have q0:W2.cell? ⟨b,o+j * 8,none⟩=some (.int .u64 r.ver.v.a):=hcs 0 _ rfl
   have q1:W2.cell? ⟨b,o+j * 8+1,none⟩=some (.int .u64 r.ver.v.b):=hcs 1 _ rfl
   have q2:W2.cell? ⟨b,o+j * 8+2,none⟩=some (.int .u64 r.ver.v.c):=hcs 2 _ rfl
   have q3:W2.cell? ⟨b,o+j * 8+3,none⟩=some (.slice r.ver.A r.ver.v.pre.length r.ver.c):=hcs 3 _ rfl
   have q4:W2.cell? ⟨b,o+j * 8+4,none⟩=some (.slice r.ver.B r.ver.v.build.length r.ver.d):=hcs 4 _ rfl
   have q5:W2.cell? ⟨b,o+j * 8+5,none⟩=some (.bool r.yanked):=hcs 5 _ rfl
   have q6:W2.cell? ⟨b,o+j * 8+6,none⟩=some (.slice r.N r.needs.length r.nc):=hcs 6 _ rfl
   have q7:W2.cell? ⟨b,o+j * 8+7,none⟩=some (.slice r.B r.bans.length r.bc):=hcs 7 _ rfl
   clear hcs
   have z0:=HZ.out.at_ 0 _ rfl
   have z1:=HZ.out.at_ 1 _ rfl
   have z2:=HZ.out.at_ 2 _ rfl
   have z3:=HZ.out.at_ 3 _ rfl
   have z4:=HZ.out.at_ 4 _ rfl
   have z5:=HZ.out.at_ 5 _ rfl
   have z6:=HZ.out.at_ 6 _ rfl
   have z7:=HZ.out.at_ 7 _ rfl
   have hzl:zb<W2.heap.size:=HZ.out.lt
   have hzf:=HZ.out.fr
   unfold MPack.agg
   have pf1:=packField1
   go_wp2
   have HA3:Hid (AtV ((((((((W2.setCell ⟨zb,0,none⟩ r.ver.v.a).setCell ⟨zb,1,none⟩ r.ver.v.b).setCell ⟨zb,2,none⟩ r.ver.v.c).setCell ⟨zb,3,none⟩ (.slice r.ver.A r.ver.v.pre.length r.ver.c)).setCell ⟨zb,4,none⟩ (.slice r.ver.B r.ver.v.build.length r.ver.d)).setCell ⟨zb,5,none⟩ (.bool r.yanked)).setCell ⟨zb,6,none⟩ (.slice r.N r.needs.length r.nc)).setCell ⟨zb,7,none⟩ (.slice r.B r.bans.length r.bc)) (zb) [.int .u64 r.ver.v.a,.int .u64 r.ver.v.b,.int .u64 r.ver.v.c,.slice r.ver.A r.ver.v.pre.length r.ver.c,.slice r.ver.B r.ver.v.build.length r.ver.d,.bool r.yanked,.slice r.N r.needs.length r.nc,.slice r.B r.bans.length r.bc]):=atv_fill HZ.out [.int .u64 r.ver.v.a,.int .u64 r.ver.v.b,.int .u64 r.ver.v.c,.slice r.ver.A r.ver.v.pre.length r.ver.c,.slice r.ver.B r.ver.v.build.length r.ver.d,.bool r.yanked,.slice r.N r.needs.length r.nc,.slice r.B r.bans.length r.bc] 0 rfl
   have HB3:Hid (But (fun k=>k=zb) W2 ((((((((W2.setCell ⟨zb,0,none⟩ r.ver.v.a).setCell ⟨zb,1,none⟩ r.ver.v.b).setCell ⟨zb,2,none⟩ r.ver.v.c).setCell ⟨zb,3,none⟩ (.slice r.ver.A r.ver.v.pre.length r.ver.c)).setCell ⟨zb,4,none⟩ (.slice r.ver.B r.ver.v.build.length r.ver.d)).setCell ⟨zb,5,none⟩ (.bool r.yanked)).setCell ⟨zb,6,none⟩ (.slice r.N r.needs.length r.nc)).setCell ⟨zb,7,none⟩ (.slice r.B r.bans.length r.bc))):=but_fill W2 (zb) [.int .u64 r.ver.v.a,.int .u64 r.ver.v.b,.int .u64 r.ver.v.c,.slice r.ver.A r.ver.v.pre.length r.ver.c,.slice r.ver.B r.ver.v.build.length r.ver.d,.bool r.yanked,.slice r.N r.needs.length r.nc,.slice r.B r.bans.length r.bc] 0
   clear z0 z1 z2 z3 z4 z5 z6 z7 hzl hzf
   try simp only [Exit.jump]
   generalize ((((((((W2.setCell ⟨zb,0,none⟩ r.ver.v.a).setCell ⟨zb,1,none⟩ r.ver.v.b).setCell ⟨zb,2,none⟩ r.ver.v.c).setCell ⟨zb,3,none⟩ (.slice r.ver.A r.ver.v.pre.length r.ver.c)).setCell ⟨zb,4,none⟩ (.slice r.ver.B r.ver.v.build.length r.ver.d)).setCell ⟨zb,5,none⟩ (.bool r.yanked)).setCell ⟨zb,6,none⟩ (.slice r.N r.needs.length r.nc)).setCell ⟨zb,7,none⟩ (.slice r.B r.bans.length r.bc))=W9 at HA3 HB3 ⊢
   have y0:=HA3.out.at_ 0 _ rfl
   have y1:=HA3.out.at_ 1 _ rfl
   have y2:=HA3.out.at_ 2 _ rfl
   have y3:=HA3.out.at_ 3 _ rfl
   have y4:=HA3.out.at_ 4 _ rfl
   have y5:=HA3.out.at_ 5 _ rfl
   have y6:=HA3.out.at_ 6 _ rfl
   have y7:=HA3.out.at_ 7 _ rfl
   have hbw:Below w.heap.size w W9:=HB.out.trans (HB3.out.below (B:=w.heap.size) (fun k e=>by omega) HB.out.size)
   refine bodyPost_ret (v:=.tuple #[.agg #[r.ver.v.a,r.ver.v.b,r.ver.v.c,.slice r.ver.A r.ver.v.pre.length r.ver.c,.slice r.ver.B r.ver.v.build.length r.ver.d,.bool r.yanked,.slice r.N r.needs.length r.nc,.slice r.B r.bans.length r.bc],.bool true]) (by simp [results,Tryz.results55,go_sem,y0,y1,y2,y3,y4,y5,y6,y7]) rfl ⟨by rw [HE2.out]; rfl,hbw⟩
end Go.Proofs.YtgakcdcfblgagaaGreatDoor.Rank
namespace Go.Proofs.YtgakcdcfblgagaaGreatDoor.Rank
open Go.RowKit Num Ident Semver Fr
open Range (KeepS LtB)
open KR (KRow AtV)
open Model (MVer VerOk)
open Prec (bare)
open Span (RSp RCut SpRow LiesS cmpC behindOf aheadOf compareC_any)
open Prec (Fit)

theorem sp_tail {w:World} {A A':Option Addr} {m:Nat} {s:RSp} {l:List RSp} (h:SpRow w A (m+1) (s :: l)) (hA:0<m→∀ b o,A=some ⟨b,o,none⟩→A'=some ⟨b,o+12,none⟩):SpRow w A' m l:=by
 obtain ⟨h1,h2,h3⟩:=h
 refine ⟨by simpa using h1,fun x hx=>h2 x (List.mem_cons_of_mem _ hx),fun h0=>?_⟩
 obtain ⟨b,o,e,hb,hc⟩:=h3 (by omega)
 refine ⟨b,o+12,hA h0 b o e,hb,fun j hj i v hv=>?_⟩
 have:=hc (j+1) (by omega) i v (by simpa [List.getD] using hv)
 rw [show o+12+j * 12+i=o+(j+1) * 12+i by omega]; exact this
def LeftJ (w1 w:World) (v:MVer) (l:List RSp) (vb cb:Nat) (a':Act) (W:World):Prop :=
 ∃ (P:Option Addr) (m c:Nat) (l':List RSp) (u6 u7 u8 u9 u10 u11 u12 u13 u14 u15 u16 u17 u18 u19 u20 u21 u22 u23:Value),SpRow w1 P m l'∧m≤c∧(P=none→c=0)∧m≤l.length∧leftF (l'.map RSp.sp) v.v=leftF (l.map RSp.sp) v.v∧AtV W cb [.int .i64 2,.int .u64 v.v.a,.int .u64 v.v.b,.int .u64 v.v.c,.slice v.A v.v.pre.length v.c,.slice none 0 0]∧Below w.heap.size w W ∧
  a'={ tmps:=#[.slice P m c,.agg #[v.v.a,v.v.b,v.v.c,.slice v.A v.v.pre.length v.c,.slice v.B v.v.build.length v.d],undef,.pointer (some ⟨vb,0,none⟩),.slice none 0 0,.pointer (some ⟨cb,0,none⟩),u6,u7,u8,u9,u10,u11,u12,u13,u14,u15,u16,u17,u18,u19,u20,u21,u22,u23],defers:=[] }
def LeftM (a':Act) (_:World):Nat:=match a'.tmps.getD 0 undef with
 | .slice _ m _=>m
 | _=>0
def LeftPost (w1:World) (l:List RSp) (v:MVer) (w:World) (e:Ending) (w':World):Prop :=
 ∃ (P:Option Addr) (m c:Nat) (l':List RSp),e=.returned (.slice P m c)∧SpRow w1 P m l'∧m≤c∧(P=none→c=0)∧m≤l.length∧l'.map RSp.sp=leftF (l.map RSp.sp) v.v∧Below w.heap.size w w'
theorem left_made (w:World) (v:MVer):∃ W,W=(w.alloc (.cells #[v.v.a,v.v.b,v.v.c,.slice v.A v.v.pre.length v.c,.slice none 0 0] 37)).alloc (.cells #[.int .i64 2,v.v.a,v.v.b,v.v.c,.slice v.A v.v.pre.length v.c,.slice none 0 0] 193)∧AtV W (w.heap.size+1) [.int .i64 2,.int .u64 v.v.a,.int .u64 v.v.b,.int .u64 v.v.c,.slice v.A v.v.pre.length v.c,.slice none 0 0]∧Below w.heap.size w W:=by
 refine ⟨_,rfl,?_,((Below.refl _ _).alloc (Nat.le_refl _) _).alloc (by simp) _⟩
 have h:=AtV.new (w.alloc (.cells #[v.v.a,v.v.b,v.v.c,.slice v.A v.v.pre.length v.c,.slice none 0 0] 37)) 193 [.int .i64 2,.int .u64 v.v.a,.int .u64 v.v.b,.int .u64 v.v.c,.slice v.A v.v.pre.length v.c,.slice none 0 0]
 rwa [size_alloc] at h
theorem left_any (P:Option Addr) (n c:Nat) (l:List RSp) (v:MVer) (S:Nat→Prop) (w1 w:World) (hr:SpRow w1 P n l) (hb1:Below w1.heap.size w1 w) (hnc:n≤c) (hz:P=none→c=0) (hv:VerOk w S v) :
  Calls Tryz.prog 67 #[.slice P n c,v.agg] w (LeftPost w1 l v w):=by
 obtain ⟨W0,hW,h1,hb⟩:=left_made w v
 have HR:=Lib.hid hr
 have HB1:=Lib.hid hb1
 have HA:=Lib.hid h1
 have HB:=Lib.hid hb
 have HV:=Lib.hid hv
 have HC:=Lib.hid (And.intro hnc hz)
 have HL:Hid (l.length=n):=hr.1
 clear hr hb1 h1 hb hv hnc hz
 unfold LeftPost
 obtain ⟨vb,hvb⟩:∃ vb,w.heap.size=vb:=⟨_,rfl⟩
 have HVB:=Lib.hid hvb
 unfold MVer.agg
 go_enter Tryz.func67,Tryz.ntmps67
 go_wp2
 refine wp_scope_back 0 (LeftJ w1 w v l vb (vb+1)) LeftM rfl ?_ ?_
 ·rintro a' W ⟨P',m,c',l',u6,u7,u8,u9,u10,u11,u12,u13,u14,u15,u16,u17,u18,u19,u20,u21,u22,u23,hr',hmc,hz',hml,hlf,hat,hbw,rfl⟩
  have HRa:=Lib.hid hr'
  have HR':=Lib.hid (hr'.kept (HB1.out.trans (hbw.mono HB1.out.size)))
  have HC':=Lib.hid (And.intro hmc hz')
  have HLF:=Lib.hid hlf
  have HAT:=Lib.hid hat
  have HBW:=Lib.hid hbw
  have HML:=Lib.hid hml
  clear hr' hmc hz' hml hlf hat hbw
  by_cases hm:0<m
  ·obtain ⟨m,rfl⟩:∃ k,m=k+1:=⟨m - 1,by omega⟩
   obtain ⟨s,l',rfl⟩:∃ s r,l'=s :: r:=by
    cases l' with
    | nil=>have:=HR'.out.1; simp at this
    | cons s r=>exact ⟨s,r,rfl⟩
   obtain ⟨b,o,hPe,hbl,hcs⟩:=HR'.out.2.2 hm
   subst hPe
   have x0:W.cell? ⟨b,o+6,none⟩=some (.int .i64 s.hi.kind):=hcs 0 hm 6 _ rfl
   have x1:W.cell? ⟨b,o+7,none⟩=some (.int .u64 s.hi.v.a):=hcs 0 hm 7 _ rfl
   have x2:W.cell? ⟨b,o+8,none⟩=some (.int .u64 s.hi.v.b):=hcs 0 hm 8 _ rfl
   have x3:W.cell? ⟨b,o+9,none⟩=some (.int .u64 s.hi.v.c):=hcs 0 hm 9 _ rfl
   have x4:W.cell? ⟨b,o+10,none⟩=some (.slice s.hi.A s.hi.v.pre.length s.hi.c):=hcs 0 hm 10 _ rfl
   have x5:W.cell? ⟨b,o+11,none⟩=some (.slice s.hi.B s.hi.v.build.length s.hi.d):=hcs 0 hm 11 _ rfl
   have HLS:Hid (Span.Lies W s.hi):=(HR'.out.2.1 s (List.mem_cons_self ..)).hi
   clear hcs
   have y0:=HAT.out.at_ 0 _ rfl
   have y1:=HAT.out.at_ 1 _ rfl
   have y2:=HAT.out.at_ 2 _ rfl
   have y3:=HAT.out.at_ 3 _ rfl
   have y4:=HAT.out.at_ 4 _ rfl
   have y5:=HAT.out.at_ 5 _ rfl
   have hyl:=HAT.out.lt
   have hm9:=HC'.out.1
   have HLB:Hid (Span.Lies W ⟨2,bare v.v,v.A,v.c,none,0⟩):=by
    have hv':=HV.out.keep (KeepS.of_below (S:=S) HBW.out)
    exact ⟨hv'.pre,SRow.none_ _ _,⟨hv'.fit.pre,hv'.fit.pres⟩,Fit.nil⟩
   have HYES:Hid (cmpC s.hi.cut (behindOf v.v)<0→leftF (l'.map RSp.sp) v.v=leftF (l.map RSp.sp) v.v):=fun h=>by
    rw [← HLF.out,List.map_cons]
    unfold leftF
    rw [List.dropWhile_cons_of_pos (by exact decide_eq_true h)]
   have HNO:Hid (¬ cmpC s.hi.cut (behindOf v.v)<0→(s :: l').map RSp.sp=leftF (l.map RSp.sp) v.v):=fun h=>by
    rw [← HLF.out,List.map_cons]
    unfold leftF
    rw [List.dropWhile_cons_of_neg (by rw [decide_eq_true_eq]; exact h)]
   have hd0:decide ((0:Int)<(m:Int)+1)=true:=decide_eq_true (by omega)
   go_upto_region 3 with (fail)
   have H0:Hid (Below W.heap.size W W.drew):=(Below.refl _ _).drew
   refine wp_region_held_drew (S:=fun w'=>Below W.heap.size W w') (by kernel_rfl) H0.out (fun hHeld=>?_)
   generalize W.drew=wd at H0 hHeld ⊢
   refine tk 0 rfl (.slice (some ⟨b,o,none⟩) (m+1) c') ?_
   refine tk 1 rfl (.int .i64 ((m:Int)+1)) ?_
   refine tk 2 rfl (.bool true) ?_
   refine tk 3 rfl (.bool true) ?_
   refine tk 4 rfl (.slice (some ⟨b,o,none⟩) (m+1) c') ?_
   refine tk 5 rfl (.pointer (some ⟨b,o,none⟩)) ?_
   refine tk 6 rfl (.pointer (some ⟨b,o+6,none⟩)) ?_
   refine tk 7 rfl s.hi ?_ (hv:=fun w' hS'=>by ((have z0:=(hS'.cell (p:=⟨b,o+6,none⟩) hbl).trans x0); (have z1:=(hS'.cell (p:=⟨b,o+7,none⟩) hbl).trans x1); (have z2:=(hS'.cell (p:=⟨b,o+8,none⟩) hbl).trans x2); (have z3:=(hS'.cell (p:=⟨b,o+9,none⟩) hbl).trans x3); (have z4:=(hS'.cell (p:=⟨b,o+10,none⟩) hbl).trans x4); (have z5:=(hS'.cell (p:=⟨b,o+11,none⟩) hbl).trans x5)); go_simp)
   refine tk 8 rfl (.agg #[.int .i64 2,v.v.a,v.v.b,v.v.c,.slice v.A v.v.pre.length v.c,.slice none 0 0]) ?_ (hv:=fun w' hS'=>by ((have u0:=(hS'.cell (p:=⟨vb+1,0,none⟩) hyl).trans y0); (have u1:=(hS'.cell (p:=⟨vb+1,1,none⟩) hyl).trans y1); (have u2:=(hS'.cell (p:=⟨vb+1,2,none⟩) hyl).trans y2); (have u3:=(hS'.cell (p:=⟨vb+1,3,none⟩) hyl).trans y3); (have u4:=(hS'.cell (p:=⟨vb+1,4,none⟩) hyl).trans y4); (have u5:=(hS'.cell (p:=⟨vb+1,5,none⟩) hyl).trans y5)); go_simp)
   refine cl 9 rfl fun K hK=>?_
   go_simp
   refine (compareC_any s.hi ⟨2,bare v.v,v.A,v.c,none,0⟩ wd (HLS.out.kept H0.out) (HLB.out.kept H0.out)).mono ?_
   rintro e W2 ⟨rfl,hb2⟩
   have H2:=Lib.hid (H0.out.trans (hb2.mono H0.out.size))
   refine hK.out _ _ H2.out (fun hHeld2=>?_)
   clear hK K hb2 x0 x1 x2 x3 x4 x5 y0 y1 y2 y3 y4 y5
   try simp only [Act.put,p1,p2,p3]
   rw [show (RCut.cut ⟨2,bare v.v,v.A,v.c,none,0⟩)=behindOf v.v from rfl]
   have HR2:=Lib.hid (HR'.out.kept H2.out)
   have HA2:=Lib.hid (HAT.out.kept H2.out HAT.out.lt)
   have HB2:=Lib.hid (HBW.out.trans (H2.out.mono HBW.out.size))
   generalize cmpC s.hi.cut (behindOf v.v)=q at HYES HNO ⊢
   by_cases hq:q<0
   ·have hdq:decide (q<0)=true:=decide_eq_true hq
    have HY:=Lib.hid (HYES.out hq)
    refine tk 10 rfl (.bool true) ?_
    refine tk 11 rfl (.bool true) ?_
    refine wpAnyH_done (by kernel_rfl) ?_ _
    clear hHeld hHeld2
    have hm5:(m:Int)+1≤(c':Int):=by omega
    obtain ⟨R,hR⟩:∃ R:Option Addr,(if c'=1 then some ⟨b,o,none⟩ else some ⟨b,o+12,none⟩)=R:=⟨_,rfl⟩
    have HRE:Hid (0<m→R=some ⟨b,o+12,none⟩):=fun h=>by rw [← hR,if_neg (by omega)]
    have HRN:Hid (R≠none):=by unfold Hid; rw [← hR]; split <;> simp
    go_wp2
    go_step3
    refine ⟨rfl,⟨R,m,c' - 1,l',_,_,_,_,_,_,_,_,_,_,_,_,_,_,_,_,_,_,sp_tail HRa.out (fun h b2 o2 he=>by
     obtain ⟨rfl,rfl⟩:b=b2∧o=o2:=by simpa using he
     exact HRE.out h),by have:=HC'.out.1; omega,fun h=>absurd h HRN.out,by have:=HML.out; omega,HY.out,HA2.out,HB2.out,rfl⟩,?_⟩
    simp [LeftM]
   ·have hdq:decide (q<0)=false:=decide_eq_false hq
    have HN:=Lib.hid (HNO.out (by omega))
    refine tk 10 rfl (.bool false) ?_
    refine tk 11 rfl (.bool false) ?_
    refine wpAnyH_done (by kernel_rfl) ?_ _
    clear hHeld hHeld2
    go_wp2
    simp only [Exit.jump]
    go_ret
    exact ⟨_,m+1,c',s :: l',rfl,HRa.out,HC'.out.1,HC'.out.2,HML.out,HN.out,HB2.out⟩
  ·obtain rfl:m=0:=by omega
   have HN:Hid (l'.map RSp.sp=leftF (l.map RSp.sp) v.v):=by
    have hl0:l'=[]:=List.eq_nil_of_length_eq_zero HR'.out.1
    have:=HLF.out
    rw [hl0] at this
    unfold Hid
    rw [hl0,← this]; rfl
   go_upto_region 3 with (fail)
   have H0:Hid (Below W.heap.size W W.drew):=(Below.refl _ _).drew
   refine wp_region_held_drew (S:=fun w'=>Below W.heap.size W w') (by kernel_rfl) H0.out (fun hHeld=>?_)
   generalize W.drew=wd at H0 hHeld ⊢
   have HR2:=Lib.hid (HR'.out.kept H0.out)
   have HB2:=Lib.hid (HBW.out.trans (H0.out.mono HBW.out.size))
   refine tk 0 rfl (.slice P' 0 c') ?_
   refine tk 1 rfl (.int .i64 0) ?_
   refine tk 2 rfl (.bool false) ?_
   refine tk 3 rfl (.bool false) ?_
   refine sk 4 rfl ?_
   refine sk 5 rfl ?_
   refine sk 6 rfl ?_
   refine sk 7 rfl ?_
   refine sk 8 rfl ?_
   refine sk 9 rfl ?_
   refine sk 10 rfl ?_
   refine tk 11 rfl (.bool false) ?_
   refine wpAnyH_done (by kernel_rfl) ?_ _
   clear hHeld
   go_wp2
   simp only [Exit.jump]
   go_ret
   exact ⟨_,0,c',l',rfl,HRa.out,HC'.out.1,HC'.out.2,HML.out,HN.out,HB2.out⟩
 ·intro HP
  go_upto_region 3 with (fail)
  try rw [← hvb] at *
  rw [← hW]
  go_step3
  rename_i hK
  exact hK _ _ (HP.out _ _ ⟨P,n,c,l,_,_,_,_,_,_,_,_,_,_,_,_,_,_,_,_,_,_,HR.out,HC.out.1,HC.out.2,by have:=HL.out; omega,rfl,HA.out,HB.out,rfl⟩)
end Go.Proofs.YtgakcdcfblgagaaGreatDoor.Rank
