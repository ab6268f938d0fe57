/-
  What the theorem of the last text needs of these: RgVer, RgTab, NmVer, NmGreat, RgSev, RgRefSame, MoMath. Conditions: as each theorem states.
-/
import Derived.Test.YtgakcdcfblgagaaDoorJoA1
import Derived.Test.YtgakcdcfblgagaaDoorJoA2
import Derived.Test.YtgakcdcfblgagaaDoorJoA3
import Derived.Test.YtgakcdcfblgagaaDoorJoA4
import Derived.Test.YtgakcdcfblgagaaDoorJoA5
import Derived.Test.YtgakcdcfblgagaaDoorJoA6
import Derived.Test.YtgakcdcfblgagaaDoorJoA8
import Derived.Lib.LaidTab
import Derived.Test.YtgakcdcfblgagaaDoorChecked
import Derived.WalkKit
import Derived.ChangeKeysEq
import Derived.Laws.StructEq
import Derived.StillTailTactics
import Derived.Lib.SliceRun
import Derived.Deep.CutBlock
import Derived.Deep.DeepCutAuto
import Derived.Deep.RegionHeld3
import Derived.BigQuiet
set_option maxRecDepth 100000
set_option maxHeartbeats 25600000
namespace Go.Proofs.YtgakcdcfblgagaaDoor.Range
open Go.RowKit Num Ident Semver

theorem fit_good {v:Ver} (h:goodV v=true):FitV v:=by
 unfold goodV at h
 rw [Bool.and_eq_true,Bool.and_eq_true] at h
 obtain ⟨h1,h2,h3⟩:=h
 have hh:=of_decide_eq_true h1
 unfold maxField at hh
 have b1:=goodFrom_bound _ _ h2
 have b2:=goodFrom_bound _ _ h3
 have l1:v.pre.length≤16:=by
  by_cases e:v.pre=[]
  ·rw [e]; simp
  ·have:=b1.1 e; omega
 have l2:v.build.length≤16:=by
  by_cases e:v.build=[]
  ·rw [e]; simp
  ·have:=b2.1 e; omega
 exact ⟨by omega,by omega,by omega,by unfold maxLen; omega,by unfold maxLen; omega,fun x hx=>by have:=b1.2 x hx; unfold maxLen; omega,fun x hx=>by have:=b2.2 x hx; unfold maxLen; omega⟩
theorem vparse_at (l s:List UInt8) (p:Nat) (h:Pl l p s):vparse l p=((vparse s 0).1,p+(vparse s 0).2.1,(vparse s 0).2.2):=by
 have h1:=vparse_place (l.take p) s
 have h2:(l.take p).length=p:=by rw [List.length_take]; have:=h.le; omega
 have h3:l.take p ++ s=l:=by rw [h.eq,List.take_append_drop]
 rw [h2,h3] at h1
 exact h1
theorem At5.moved {W W':World} {b B:Nat} {u0 u1 u2 u3 u4:Value} (h:At5 W B u0 u1 u2 u3 u4) (hm:Moved b W W') (hne:B≠b):At5 W' B u0 u1 u2 u3 u4:=by
 obtain ⟨h1,h2,c0,c1,c2,c3,c4⟩:=h
 have k:=hm.block B h1 hne
 have kc:∀ o,W'.cell? ⟨B,o,none⟩=W.cell? ⟨B,o,none⟩:=fun o=>World.cell?_of_block (w:=W) (a:=⟨B,o,none⟩) k
 exact ⟨Nat.lt_of_lt_of_le h1 hm.size,fun o=>(World.frozen?_of_block (w:=W) (a:=⟨B,o,none⟩) k).trans (h2 o),(kc 0).trans c0,(kc 1).trans c1,(kc 2).trans c2,(kc 3).trans c3,(kc 4).trans c4⟩
theorem moved_set5 {b bv:Nat} {u w:World} (h:Moved b u w) (hb:b<u.heap.size) (hv:u.heap.size≤bv) (v0 v1 v2 v3 v4:Value):Moved b u (set5 w bv v0 v1 v2 v3 v4):=by
 unfold set5
 exact ((((h.set hb (p:=⟨bv,0,none⟩) hv _).set hb (p:=⟨bv,1,none⟩) hv _).set hb (p:=⟨bv,2,none⟩) hv _).set hb (p:=⟨bv,3,none⟩) hv _).set hb (p:=⟨bv,4,none⟩) hv _
theorem rd_set5 {w:World} {b bv:Nat} {A:Option Addr} {n c p:Nat} (h:Rd w b A n c p) (hv:b<bv) (v0 v1 v2 v3 v4:Value):Rd (set5 w bv v0 v1 v2 v3 v4) b A n c p:=by
 unfold set5
 exact ((((h.set (q:=⟨bv,0,none⟩) hv _).set (q:=⟨bv,1,none⟩) hv _).set (q:=⟨bv,2,none⟩) hv _).set (q:=⟨bv,3,none⟩) hv _).set (q:=⟨bv,4,none⟩) hv _
theorem at7_set5 {w:World} {B bv:Nat} {u0 u1 u2 u3 u4 u5 u6:Value} (h:At7 w B u0 u1 u2 u3 u4 u5 u6) (hv:B<bv) (v0 v1 v2 v3 v4:Value):At7 (set5 w bv v0 v1 v2 v3 v4) B u0 u1 u2 u3 u4 u5 u6:=by
 unfold set5
 exact h.kept (B:=bv) (((((((Below.refl bv w).setCell (p:=⟨bv,0,none⟩) (Nat.le_refl _) _).setCell (p:=⟨bv,1,none⟩) (Nat.le_refl _) _).setCell (p:=⟨bv,2,none⟩) (Nat.le_refl _) _).setCell (p:=⟨bv,3,none⟩) (Nat.le_refl _) _).setCell (p:=⟨bv,4,none⟩) (Nat.le_refl _) _)) hv
theorem ver_block {w W:World} {b bv:Nat} (hbw:b<w.heap.size) {A:Option Addr} {n c p:Nat} {v:Ver} {A1 B1:Option Addr} {c1 d1:Nat} (hR:Rd W b A n c p) (hM:Moved b w W) (hA:SRow W A1 v.pre.length v.pre) (hB:SRow W B1 v.build.length v.build) (h5:At5 W bv (.int .u64 0) (.int .u64 0) (.int .u64 0) (.slice none 0 0) (.slice none 0 0)) (hv:w.heap.size<bv) (h7:At7 W w.heap.size (.int .i64 0) (.int .u64 0) (.int .u64 0) (.int .u64 0) (.slice none 0 0) (.slice none 0 0) (.slice none 0 0)) :
  At5 (set5 W bv v.a v.b v.c (.slice A1 v.pre.length c1) (.slice B1 v.build.length d1)) bv v.a v.b v.c (.slice A1 v.pre.length c1) (.slice B1 v.build.length d1)∧Rd (set5 W bv v.a v.b v.c (.slice A1 v.pre.length c1) (.slice B1 v.build.length d1)) b A n c p∧Moved b w (set5 W bv v.a v.b v.c (.slice A1 v.pre.length c1) (.slice B1 v.build.length d1))∧SRow (set5 W bv v.a v.b v.c (.slice A1 v.pre.length c1) (.slice B1 v.build.length d1)) A1 v.pre.length v.pre∧SRow (set5 W bv v.a v.b v.c (.slice A1 v.pre.length c1) (.slice B1 v.build.length d1)) B1 v.build.length v.build∧At7 (set5 W bv v.a v.b v.c (.slice A1 v.pre.length c1) (.slice B1 v.build.length d1)) w.heap.size (.int .i64 0) (.int .u64 0) (.int .u64 0) (.int .u64 0) (.slice none 0 0) (.slice none 0 0) (.slice none 0 0):=by
 obtain ⟨hvl,hvf,g0,g1,g2,g3,g4⟩:=h5
 have h5:At5 W bv (.int .u64 0) (.int .u64 0) (.int .u64 0) (.slice none 0 0) (.slice none 0 0):=⟨hvl,hvf,g0,g1,g2,g3,g4⟩
 have hb:b<bv:=by
  by_cases h:b<w.heap.size
  ·omega
  ·exact absurd hbw h
 exact ⟨h5.set5 _ _ _ _ _,rd_set5 hR hb _ _ _ _ _,moved_set5 hM hbw (Nat.le_of_lt hv) _ _ _ _ _,hA.set5 g0 g1 g2 g3 g4 (by simp) (by simp) (by simp) (by simp) (by simp) _ _ _ _ _,hB.set5 g0 g1 g2 g3 g4 (by simp) (by simp) (by simp) (by simp) (by simp) _ _ _ _ _,at7_set5 h7 hv _ _ _ _ _⟩
theorem ver_any (b:Nat) (A:Option Addr) (n c p:Nat) (l s:List UInt8) (kind:Int) (w:World) (hR:Rd w b A n c p) (hr:Row w A n l) (hc:n≤c) (hs:Pl l p s) :
  Calls Tryd.prog 91 #[.pointer (some ⟨b,0,none⟩),.int .i64 kind] w (RgPost b A n c l w (verAt kind s)):=by
 have hm:=hr.2.1
 unfold maxLen at hm
 have hbw:=hR.lt
 have HP:=Lib.hid hs
 have HL:=Lib.hid hr.1
 have HRw:=Lib.hid hR
 have HRow:=Lib.hid hr
 have H7:Hid (At7 (w.alloc ()) w.heap.size (.int .i64 0) (.int .u64 0) (.int .u64 0) (.int .u64 0) (.slice none 0 0) (.slice none 0 0) (.slice none 0 0)):=At7.new _ _ _ _ _ _ _ _ _
 have HR0:Hid (Rd (w.alloc ()) b A n c p):=hR.alloc _
 have HM:Hid (Moved b w (w.alloc ())):=(Moved.refl b w).alloc hbw _
 have HRow0:Hid (Row (w.alloc ()) A n l):=hr.kept ((Below.refl _ _).alloc (Nat.le_refl _) _)
 clear hR hr hs
 go_enter Tryd.func91,Tryd.ntmps91
 go_wp2_with fail
 refine (oneOf_any b A n c p l s digits _ HR0.out HRow0.out HP.out).mono ?_
 rintro e W0 ⟨rfl,hR1,hM1⟩
 replace HRow0:=Lib.hid (row_keep HRow0.out (HR0.out.keep hM1))
 replace H7:=Lib.hid (At7.moved H7.out hM1 (by omega))
 replace HM:=Lib.hid (HM.out.trans hM1)
 replace HR0:=Lib.hid hR1
 have hz:w.heap.size<W0.heap.size:=H7.out.1
 clear hR1 hM1
 cases hst:oneOf digits s with
 | false =>
  have HV:Hid (verAt kind s=(lackN s,s,noRng)):=by unfold Hid verAt; rw [hst]; rfl
  go_wp2_with fail
  refine (lack_any b A n c p l s _ HR0.out HRow0.out HP.out).mono ?_
  rintro e W1 ⟨rfl,hR1,hM1⟩
  have H71:=Lib.hid (At7.moved H7.out hM1 (by omega))
  have HMM:=Lib.hid (HM.out.trans hM1)
  have HRR:=Lib.hid hR1
  have hne:=Nat.ne_of_gt hbw
  clear hR1 hM1
  obtain ⟨y1,y2,c0,c1,c2,c3,c4,c5,c6⟩:=H71.out
  go_wp2
  exact bodyPost_ret (v:=.tuple #[.agg #[.int .i64 0,.int .u64 0,.int .u64 0,.int .u64 0,.slice none 0 0,.slice none 0 0,.slice none 0 0],.int .i64 (lackN s)]) (by simp [results,Tryd.results91,go_sem,c0,c1,c2,c3,c4,c5,c6]) rfl (by rw [HV.out]; exact rg_end (x:=zeroRV 0) hbw (Lies.zero _ _ 0) HP.out HRR.out HMM.out)
 | true =>
  have HPA:Hid (∀ W,Row W A n l→Calls Tryd.prog 48 #[.slice A n c,.int .i64 p] W (VerPostF W ((vparse s 0).1,p+(vparse s 0).2.1,(vparse s 0).2.2))):=fun W hW=>by
   have:=Semver.parse_anyF A n c l (p:Int) W hW hc
   rw [vparse_at l s p HP.out] at this
   exact this
  have HQ:=Lib.hid (vparse_end s 0)
  have HV:Hid (verAt kind s=if (vparse s 0).1≠0 then ((vparse s 0).1,s.drop (vparse s 0).2.1,noRng) else (0,blanks (s.drop (vparse s 0).2.1),.mk kind (vparse s 0).2.2 [])):=by
   unfold Hid verAt; rw [if_pos hst]
  have HG:Hid (∀ q v,vparse s 0=(0,q,v)→FitV v):=fun q v h=>fit_good (vparse_read h).1
  obtain ⟨⟨f,q,v⟩,hk⟩:∃ t,vparse s 0=t:=⟨_,rfl⟩
  rw [hk] at HPA HV HQ HG
  simp only at HPA HV HQ
  clear hk
  go_upto_region 3 with (fail)
  go_cut [6,7,8] (fun v6 v7 v8 wx=>∃ bv A1 c1 B1 d1,v6=.pointer (some ⟨bv,0,none⟩)∧v7=.int .i64 ((p+q:Nat):Int)∧v8=.int .i64 f∧w.heap.size<bv∧v.pre.length≤c1∧v.build.length≤d1∧At5 wx bv v.a v.b v.c (.slice A1 v.pre.length c1) (.slice B1 v.build.length d1)∧Rd wx b A n c p∧Moved b w wx∧SRow wx A1 v.pre.length v.pre∧SRow wx B1 v.build.length v.build∧At7 wx w.heap.size (.int .i64 0) (.int .u64 0) (.int .u64 0) (.int .u64 0) (.slice none 0 0) (.slice none 0 0) (.slice none 0 0)∧Fresh (w.heap.size+1) A1 v.pre.length∧Fresh (w.heap.size+1) B1 v.build.length)
  case first =>
   have H0:Hid (Rd W0.drew b A n c p):=HR0.out.drew
   have HW0:Hid (Row W0.drew A n l):=HRow0.out
   have HM0:Hid (Moved b w W0.drew):=HM.out.drew
   have H70:Hid (At7 W0.drew w.heap.size (.int .i64 0) (.int .u64 0) (.int .u64 0) (.int .u64 0) (.slice none 0 0) (.slice none 0 0) (.slice none 0 0)):=H7.out
   have hz0:w.heap.size<W0.drew.heap.size:=hz
   refine wp_region_held_drew (S:=fun w'=>w'.cell? ⟨b,0,none⟩=some (.slice A n c)∧w'.cell? ⟨b,1,none⟩=some (.int .i64 p)) (by kernel_rfl) ⟨H0.out.row,H0.out.at_⟩ (fun hHeld=>?_)
   refine tk 0 rfl (.pointer (some ⟨b,0,none⟩)) ?_
   refine tk 1 rfl (.pointer (some ⟨b,0,none⟩)) ?_
   refine tk 2 rfl (.pointer (some ⟨b,0,none⟩)) ?_
   refine tk 3 rfl (.slice A n c) ?_ fun w' hS'=>by have x:=hS'.1; go_simp
   refine tk 4 rfl (.pointer (some ⟨b,0,none⟩)) ?_
   refine tk 5 rfl (.pointer (some ⟨b,0,none⟩)) ?_
   refine tk 6 rfl (.pointer (some ⟨b,1,none⟩)) ?_
   refine tk 7 rfl (.int .i64 p) ?_ fun w' hS'=>by have x:=hS'.2; go_simp
   refine wpAnyH_ready (rs:=[8,13]) (by kernel_rfl) (by simp) ?_
   refine AllReadyH.cons (nth_ops (i:=8) rfl) (fun K hK=>?_) (AllReadyH.cons (nth_ops (i:=13) rfl) (fun K hK=>?_) AllReadyH.nil)
   ·go_simp
    refine (HPA.out _ HW0.out).mono ?_
    rintro e W1 ⟨A1,c1,B1,d1,rfl,hc1,hd1,hr1,hr2,hb1,hf1,hf2⟩
    simp only at hc1 hd1 hr1 hr2 hf1 hf2 ⊢
    have HR1:Hid (Rd W1 b A n c p):=H0.out.kept hb1 H0.out.lt
    have HM1:Hid (Moved b w W1):=HM0.out.below hb1 HM0.out.size hbw
    have HA1:=Lib.hid hr1
    have HB1:=Lib.hid hr2
    have H71:=Lib.hid (H70.out.kept hb1 hz0)
    have hz1:w.heap.size<W1.heap.size:=Nat.lt_of_lt_of_le hz0 hb1.size
    have HF1:Hid (Fresh (w.heap.size+1) A1 v.pre.length):=hf1.mono hz0
    have HF2:Hid (Fresh (w.heap.size+1) B1 v.build.length):=hf2.mono hz0
    clear hr1 hr2 hb1 hf1 hf2
    clear hHeld
    refine hK.out _ _ ⟨HR1.out.row,HR1.out.at_⟩ (fun hHeld=>?_)
    clear hK K
    try simp only [Act.put,p1,p2,p3]
    refine tk 9 rfl (.tuple #[.agg #[v.a,v.b,v.c,.slice A1 v.pre.length c1,.slice B1 v.build.length d1],.int .i64 ((p+q:Nat):Int),.int .i64 f]) ?_
    refine tk 10 rfl (.agg #[v.a,v.b,v.c,.slice A1 v.pre.length c1,.slice B1 v.build.length d1]) ?_
    refine tk 11 rfl (.int .i64 ((p+q:Nat):Int)) ?_
    refine tk 12 rfl (.int .i64 f) ?_
    refine cl 13 rfl fun K hK=>?_
    go_simp
    have H5:Hid (At5 (W1.alloc (.cells #[v.a,v.b,v.c,.slice A1 v.pre.length c1,.slice B1 v.build.length d1] 45)) W1.heap.size v.a v.b v.c (.slice A1 v.pre.length c1) (.slice B1 v.build.length d1)):=At5.new _ _ _ _ _ _ _
    have HV2:Hid (w.heap.size<W1.heap.size):=hz1
    clear hHeld
    refine hK.out _ _ ⟨(HR1.out.alloc false).row,(HR1.out.alloc false).at_⟩ (fun hHeld=>?_)
    clear hK K
    try simp only [Act.put,p1,p2,p3]
    refine cl 14 rfl fun K hK=>?_
    go_simp
    have HR2:Hid (Rd (W1.alloc (.cells #[v.a,v.b,v.c,.slice A1 v.pre.length c1,.slice B1 v.build.length d1] 45)) b A n c p):=HR1.out.alloc _
    have HM2:Hid (Moved b w (W1.alloc (.cells #[v.a,v.b,v.c,.slice A1 v.pre.length c1,.slice B1 v.build.length d1] 45))):=HM1.out.alloc hbw _
    have HA2:=Lib.hid (HA1.out.kept ((Below.refl W1.heap.size W1).alloc (Nat.le_refl _) (.cells #[v.a,v.b,v.c,.slice A1 v.pre.length c1,.slice B1 v.build.length d1] 45)))
    have HB2:=Lib.hid (HB1.out.kept ((Below.refl W1.heap.size W1).alloc (Nat.le_refl _) (.cells #[v.a,v.b,v.c,.slice A1 v.pre.length c1,.slice B1 v.build.length d1] 45)))
    have H72:=Lib.hid (H71.out.kept ((Below.refl W1.heap.size W1).alloc (Nat.le_refl _) (.cells #[v.a,v.b,v.c,.slice A1 v.pre.length c1,.slice B1 v.build.length d1] 45)) hz1)
    clear hHeld
    refine hK.out _ _ ⟨HR2.out.row,HR2.out.at_⟩ (fun hHeld=>?_)
    clear hK K
    try simp only [Act.put,p1,p2,p3]
    refine tk 15 rfl (.int .i64 ((p+q:Nat):Int)) ?_
    refine tk 16 rfl (.int .i64 f) ?_
    refine wpAnyH_done (by kernel_rfl) ?_ _
    go_wp2
    go_meet
    exact ⟨_,A1,c1,B1,d1,rfl,rfl,rfl,HV2.out,hc1,hd1,H5.out,HR2.out,HM2.out,HA2.out,HB2.out,H72.out,HF1.out,HF2.out⟩
   ·go_simp
    have H5a:Hid (At5 ((W0.alloc false).drew) W0.heap.size (.int .u64 0) (.int .u64 0) (.int .u64 0) (.slice none 0 0) (.slice none 0 0)):=(At5.new W0 45 (.int .u64 0) (.int .u64 0) (.int .u64 0) (.slice none 0 0) (.slice none 0 0))
    have HV2:Hid (w.heap.size<W0.heap.size):=hz
    have HRa:Hid (Rd ((W0.alloc false).drew) b A n c p):=(HR0.out.alloc _).drew
    have HMa:Hid (Moved b w ((W0.alloc false).drew)):=(HM.out.alloc hbw _).drew
    have HWa:Hid (Row ((W0.alloc false).drew) A n l):=row_keep (HRow0.out.kept ((Below.refl _ _).alloc (Nat.le_refl _) _)) (Keep.drew _)
    have H7a:Hid (At7 ((W0.alloc false).drew) w.heap.size (.int .i64 0) (.int .u64 0) (.int .u64 0) (.int .u64 0) (.slice none 0 0) (.slice none 0 0) (.slice none 0 0)):=H7.out.kept ((Below.refl W0.heap.size W0).alloc (Nat.le_refl _) false).drew hz
    have hza:W0.heap.size<((W0.alloc false).drew).heap.size:=by show _<(W0.heap.push _).size; simp
    clear hHeld
    refine hK.out _ _ ⟨HRa.out.row,HRa.out.at_⟩ (fun hHeld=>?_)
    clear hK K
    try simp only [Act.put,p1,p2,p3]
    refine cl 8 rfl fun K hK=>?_
    go_simp
    refine (HPA.out _ HWa.out).mono ?_
    rintro e W1 ⟨A1,c1,B1,d1,rfl,hc1,hd1,hr1,hr2,hb1,hf1,hf2⟩
    simp only at hc1 hd1 hr1 hr2 hf1 hf2 ⊢
    have HR2:Hid (Rd W1 b A n c p):=HRa.out.kept hb1 HRa.out.lt
    have HM2:Hid (Moved b w W1):=HMa.out.below hb1 HMa.out.size hbw
    have HA2:=Lib.hid hr1
    have HB2:=Lib.hid hr2
    have H72:=Lib.hid (H7a.out.kept hb1 (Nat.lt_trans HV2.out hza))
    have H5:=Lib.hid (H5a.out.kept hb1 hza)
    have HF1:Hid (Fresh (w.heap.size+1) A1 v.pre.length):=hf1.mono (Nat.le_trans HV2.out (Nat.le_of_lt hza))
    have HF2:Hid (Fresh (w.heap.size+1) B1 v.build.length):=hf2.mono (Nat.le_trans HV2.out (Nat.le_of_lt hza))
    clear hr1 hr2 hb1 hf1 hf2
    clear hHeld
    refine hK.out _ _ ⟨HR2.out.row,HR2.out.at_⟩ (fun hHeld=>?_)
    clear hK K
    try simp only [Act.put,p1,p2,p3]
    refine tk 9 rfl (.tuple #[.agg #[v.a,v.b,v.c,.slice A1 v.pre.length c1,.slice B1 v.build.length d1],.int .i64 ((p+q:Nat):Int),.int .i64 f]) ?_
    refine tk 10 rfl (.agg #[v.a,v.b,v.c,.slice A1 v.pre.length c1,.slice B1 v.build.length d1]) ?_
    refine tk 11 rfl (.int .i64 ((p+q:Nat):Int)) ?_
    refine tk 12 rfl (.int .i64 f) ?_
    obtain ⟨hvl,hvf,g0,g1,g2,g3,g4⟩:=H5.out
    refine cl 14 rfl fun K hK=>?_
    go_simp
    obtain ⟨k1,k2,k3,k4,k5,k6⟩:=ver_block hbw (v:=v) (c1:=c1) (d1:=d1) HR2.out HM2.out HA2.out HB2.out H5.out HV2.out H72.out
    have HK5:=Lib.hid k1
    have HKR:=Lib.hid k2
    have HKM:=Lib.hid k3
    have HKA:=Lib.hid k4
    have HKB:=Lib.hid k5
    have HK7:=Lib.hid k6
    clear k1 k2 k3 k4 k5 k6
    clear hHeld
    refine hK.out _ _ ⟨HKR.out.row,HKR.out.at_⟩ (fun hHeld=>?_)
    clear hK K
    try simp only [Act.put,p1,p2,p3]
    refine tk 15 rfl (.int .i64 ((p+q:Nat):Int)) ?_
    refine tk 16 rfl (.int .i64 f) ?_
    refine wpAnyH_done (by kernel_rfl) ?_ _
    go_wp2
    go_meet
    exact ⟨_,A1,c1,B1,d1,rfl,rfl,rfl,HV2.out,hc1,hd1,HK5.out,HKR.out,HKM.out,HKA.out,HKB.out,HK7.out,HF1.out,HF2.out⟩
  case rest =>
   obtain ⟨bv,A1,c1,B1,d1,rfl,rfl,rfl,hbv,hc1,hd1,h5,hR2,hM2,hA2,hB2,h72,hf1,hf2⟩:=hcut
   have HF1:Hid (InS (From (w.heap.size+1)) A1 v.pre.length):=hf1
   have HF2:Hid (InS (From (w.heap.size+1)) B1 v.build.length):=hf2
   clear hf1 hf2
   have HA2:=Lib.hid hA2
   have HB2:=Lib.hid hB2
   have H52:=Lib.hid h5
   have H72:=Lib.hid h72
   have HR2:=Lib.hid hR2
   have HM2:=Lib.hid hM2
   clear hA2 hB2 h5 h72 hR2 hM2
   have HPQ:Hid (Pl l (p+q) (s.drop q)):=HP.out.drop (by have:=HP.out.len; have h2:=HP.out.le; have h3:=HQ.out; omega)
   have hpq:p+q≤n:=by have:=HPQ.out.le; rw [HL.out] at this; exact this
   have hne:w.heap.size≠b:=by omega
   obtain ⟨r1,r2,r3,r4,_⟩:=HR2.out
   obtain ⟨y1,y2,c0,c1',c2,c3,c4,c5,c6⟩:=H72.out
   by_cases h0:f=0
   ·subst h0
    have HV2:Hid (verAt kind s=(0,blanks (s.drop q),.mk kind v [])):=HV.out.trans (if_neg (by simp))
    have HG2:Hid (FitV v):=HG.out q v rfl
    clear HV HG
    have HR3:Hid (Rd (wc.setCell ⟨b,1,none⟩ (.int .i64 ((p:Int)+(q:Int)))) b A n c (p+q)):=HR2.out.move (p+q)
    have HM3:Hid (Moved b w (wc.setCell ⟨b,1,none⟩ (.int .i64 ((p:Int)+(q:Int))))):=HM2.out.move _
    have HK3:Hid (KeepS (From (w.heap.size+1)) wc (wc.setCell ⟨b,1,none⟩ (.int .i64 ((p:Int)+(q:Int))))):=KeepS.moved (Moved.at_ _) (fun h=>by unfold From at h; omega)
    have HRow3:Hid (Row (wc.setCell ⟨b,1,none⟩ (.int .i64 ((p:Int)+(q:Int)))) A n l):=row_keep HRow.out (HRw.out.keep HM3.out)
    go_wp2_with fail
    refine (pass_any b A n c (p+q) 0 l (s.drop q) _ HR3.out HRow3.out HPQ.out hpq).mono ?_
    rintro e W4 ⟨rfl,q4,hq4,hR4,hM4⟩
    rw [List.drop_zero] at hq4
    have HP4:=Lib.hid hq4
    have HM4:=Lib.hid (HM3.out.trans hM4)
    have HK4:=Lib.hid (HK3.out.trans (KeepS.moved hM4 (fun h=>by unfold From at h; omega)))
    have HR4:=Lib.hid hR4
    have HA4:=Lib.hid (srow_keepS HA2.out HK4.out HF1.out)
    have HB4:=Lib.hid (srow_keepS HB2.out HK4.out HF2.out)
    have H54:=Lib.hid (At5.moved (At5.moved H52.out (Moved.at_ (.int .i64 ((p:Int)+(q:Int)))) (by omega)) hM4 (by omega))
    have H74:Hid (RAt W4 w.heap.size (zeroRV 0)):=RAt.moved (RAt.moved (x:=zeroRV 0) H72.out (Moved.at_ (.int .i64 ((p:Int)+(q:Int)))) hne) hM4 hne
    clear hq4 hR4 hM4 HR3 HM3 HK3 HRow3 HR2 HM2 HA2 HB2 H52 H72 r1 r2 r3 r4 y1 y2 c0 c1' c2 c3 c4 c5 c6
    obtain ⟨y1,y2,c0,c1',c2,c3,c4,c5,c6⟩:=H74.out
    obtain ⟨_,_,g0,g1,g2,g3,g4⟩:=H54.out
    have hbe:=Nat.ne_of_gt hbv
    go_wp2
    exact bodyPost_ret (v:=.tuple #[.agg #[.int .i64 kind,v.a,v.b,v.c,.slice A1 v.pre.length c1,.slice B1 v.build.length d1,.slice none 0 0],.int .i64 0]) (by simp [results,Tryd.results91,go_sem,c0,c1',c2,c3,c4,c5,c6]) rfl (by rw [HV2.out]; exact rg_end (x:=⟨kind,v,A1,c1,B1,d1,none,0,0⟩) hbw (Lies.version kind v A1 c1 B1 d1 HA4.out HB4.out HF1.out HF2.out hc1 hd1 HG2.out) HP4.out HR4.out HM4.out)
   ·have hb1:((f:Int) != 0)=true:=by simp [h0]
    have hb2:((f:Int) == 0)=false:=by simp [h0]
    have HV2:Hid (verAt kind s=(f,s.drop q,noRng)):=HV.out.trans (if_pos h0)
    clear h0
    go_wp2
    exact bodyPost_ret (v:=.tuple #[.agg #[.int .i64 0,.int .u64 0,.int .u64 0,.int .u64 0,.slice none 0 0,.slice none 0 0,.slice none 0 0],.int .i64 f]) (by simp [results,Tryd.results91,go_sem,c0,c1',c2,c3,c4,c5,c6]) rfl (by rw [HV2.out]; exact rg_end (x:=zeroRV 0) hbw (Lies.zero _ _ 0) HPQ.out (HR2.out.move (p+q)) (HM2.out.move _))
end Go.Proofs.YtgakcdcfblgagaaDoor.Range
namespace Go.Proofs.YtgakcdcfblgagaaDoor.Range
open Go.Lib Num Ident
variable {H:Type}
theorem cells_of_strs {enc:TypeId × Value→H} {P:Program} {w:World} {base:Nat} {sp:Nat→Bool} {held:Bool} {fuel:Nat} {t e:TypeId} {n:Nat} {cs:List Value} {bs:List (List UInt8)} {p:List MemPlace}
  (ht:P.underlying t=some (.array n e)) (he:P.underlying e=some .string) (hce:P.cellsOf e=1) (hct:P.cellsOf t=n)
  (h:DataW.trod enc P w base sp held fuel t cs=some (.agg (bs.map fun b=>.lit (.string b)),p)):cs=bs.map fun b=>Value.string (mk b):=by
 cases fuel with
 | zero=>simp [DataW.trod] at h
 | succ fuel =>
  simp only [DataW.trod,ht,hce,hct,Nat.mul_one] at h
  split at h
  ·rename_i hl
   obtain ⟨xs,hm,hx⟩:=Option.map_eq_some_iff.1 h
   have hxs:xs.map (·.1)=bs.map fun b=>(DataW.lit (.string b):DataW H):=by
    have:=congrArg Prod.fst hx
    simpa using this
   have hxl:xs.length=n:=by simpa using mapM_length hm
   have hzl:bs.length=n:=by
    have:=congrArg List.length hxs
    simp at this
    omega
   apply List.ext_getElem?
   intro i
   by_cases hi:i<n
   ·obtain ⟨b,hb,hf⟩:=mapM_at hm i i (by simp [hi])
    obtain ⟨s,hc,rfl,_⟩:=DataW.trod_string he hf
    have h1:cs[i]?=some (.string s):=by
     have:=congrArg (·[0]?) hc
     simpa [List.getElem?_take,List.getElem?_drop] using this
    have h2:(xs.map (·.1))[i]?=some (DataW.lit (.string s.data.toList):DataW H):=by simp [hb]
    rw [hxs] at h2
    simp only [List.getElem?_map,Option.map_eq_some_iff,DataW.lit.injEq,Lit.string.injEq] at h2
    obtain ⟨z',hz',e2⟩:=h2
    simp only [List.getElem?_map,hz',Option.map_some,h1,e2]
    rfl
   ·rw [List.getElem?_eq_none (by omega),List.getElem?_eq_none (by simp; omega)]
  ·cases h

theorem opsTab_of_head {W:World} {rest:List (String × DataW Unit)} {g:Nat} {t e:TypeId}
  (hg:Tryd.prog.globalNamed "ferrule/rangeexpr.ops"=some g) (hgn:g=1) (hty:(Tryd.prog.globals[g]?).map (·.type)=some t) (ht:Tryd.prog.underlying t=some (.array 8 e)) (he:Tryd.prog.underlying e=some .string) (hce:Tryd.prog.cellsOf e=1) (hct:Tryd.prog.cellsOf t=8)
  (h:laidMet Tryd.prog (("ferrule/rangeexpr.ops",.agg (ops.map fun b=>.lit (.string b))) :: rest) W):OpsTab W:=by
 obtain ⟨ps,⟨g',t',cs,fuel,p,q,hg',ht',hvar,hd,_,_⟩,_⟩:=h
 obtain rfl:=Option.some.inj (hg.symm.trans hg')
 obtain rfl:=Option.some.inj (hty.symm.trans ht')
 have hc:=cells_of_strs ht he hce hct hd
 intro i hi
 have:=World.var?_cell hg hvar i
 subst hgn
 rw [this,← Array.getElem?_toList,hc,List.getElem?_map]
 rw [List.getElem?_eq_getElem (show i<ops.length from hi)]
 simp [List.getD,List.getElem?_eq_getElem (show i<ops.length from hi)]
end Go.Proofs.YtgakcdcfblgagaaDoor.Range
namespace Go.Proofs.YtgakcdcfblgagaaDoor.Nrm
open Go.RowKit Num Ident Semver Prec Span
open Range (Rng noRng goodR goodL fits RV RAt)
structure VeAt (w W:World) (x:RV):Prop where
 bel:Below w.heap.size w W
 r:RAt W w.heap.size x
 l:At6B W (w.heap.size+1) (.int .i64 0) (.int .u64 0) (.int .u64 0) (.int .u64 0) (.slice none 0 0) (.slice none 0 0)
 h:At6B W (w.heap.size+1+1) (.int .i64 3) (.int .u64 0) (.int .u64 0) (.int .u64 0) (.slice none 0 0) (.slice none 0 0)
end Go.Proofs.YtgakcdcfblgagaaDoor.Nrm
namespace Go.Proofs.YtgakcdcfblgagaaDoor.Nrm
open Go.RowKit Num Ident Semver
open Range (Rng noRng goodR goodL fits wt wtL RV RAt Keep KeepS LtB zeroRV LenOk)
mutual
def tot:Rng→Nat
 | .mk _ v l=>1+v.pre.length+v.build.length+totL l
def totL:List Rng→Nat
 | []=>0
 | r :: rs=>tot r+totL rs
end
theorem good_modest {r:Rng} {d:Nat} (h:goodR r d=true):r.ver.pre.length≤16∧r.ver.build.length≤16:=by
 obtain ⟨k,v,l⟩:=r
 rw [Range.goodR_eq,Bool.and_eq_true,Bool.and_eq_true] at h
 have h2:=h.1.2
 show v.pre.length≤16∧v.build.length≤16
 cases ho:Range.ofVersion k with
 | true =>
  rw [Range.fits_ver ho,Bool.and_eq_true] at h2
  have h3:=h2.1
  unfold goodV at h3
  rw [Bool.and_eq_true,Bool.and_eq_true] at h3
  have a:=Span.good_len true v.pre 0 (by omega) h3.2.1
  have b:=Span.good_len false v.build 0 (by omega) h3.2.2
  omega
 | false =>
  cases hs:sameV v noVer with
  | false=>rw [Range.fits_un ho hs] at h2; cases h2
  | true=>rw [Span.sameV_none hs]; exact ⟨by decide,by decide⟩
theorem good_sub {r:Rng} {d j:Nat} (h:goodR r d=true) (hj:j<r.subs.length):∃ d',goodR (r.subs.getD j noRng) d'=true:=by
 obtain ⟨k,v,l⟩:=r
 rw [Range.goodR_eq,Bool.and_eq_true] at h
 exact ⟨_,Range.goodL_at.1 h.2 j hj⟩
inductive Slim:Rng→Prop
 | mk (k:Int) (v:Ver) (l:List Rng) (hp:v.pre.length≤8796093022208) (hb:v.build.length≤8796093022208) (hl:∀ y ∈ l,Slim y):Slim (.mk k v l)
theorem slim_of_good:∀ (m:Nat) (r:Rng) (d:Nat),wt r≤m→goodR r d=true→Slim r
 | 0,r,d,hm,_=>by rw [Range.wt_eq] at hm; omega
 | m+1,r,d,hm,h=>by
  have h1:=good_modest h
  have h2:=fun j hj=>good_sub (j:=j) h hj
  rw [Range.wt_eq] at hm
  have h3:∀ y ∈ r.subs,wt y≤m:=fun y hy=>by have:=Range.wt_mem hy; omega
  obtain ⟨k,v,l⟩:=r
  refine .mk k v l (by have:=h1.1; have e:v.pre.length≤16:=this; omega) (by have:=h1.2; have e:v.build.length≤16:=this; omega) fun y hy=>?_
  obtain ⟨j,hj,rfl⟩:=List.getElem_of_mem hy
  obtain ⟨d',hd⟩:=h2 j hj
  have e:(Range.Rng.mk k v l).subs.getD j noRng=l[j]:=by
   show l.getD j noRng=l[j]
   rw [List.getD_eq_getElem?_getD,List.getElem?_eq_getElem hj]; rfl
  rw [e] at hd
  exact slim_of_good m _ d' (h3 _ hy) hd
end Go.Proofs.YtgakcdcfblgagaaDoor.Nrm
namespace Go.Proofs.YtgakcdcfblgagaaDoor.Range
open Go.RowKit Num Ident Semver

theorem rgInfo:(Tryd.prog.info? 51).map (fun i=>(i.zero,i.size,i.bytes))=some (some (.agg #[.int .i64 0,.int .u64 0,.int .u64 0,.int .u64 0,.slice none 0 0,.slice none 0 0,.slice none 0 0]),7,104):=by kernel_rfl
theorem wpList_append_rg (w:World) {ops:Array Oper} {rest:List Oper} {o:Oper} {a:Act} {Q:Exit→Act→World→Prop} (hgd:o.guard=none) (s x:Operand)
  (ho:o.op=.call { callee:=.builtin .append,args:=#[s,x],argTypes:=#[49,49] })
  (base:Nat) (v:Value) (n:Nat) (xs:List RV) (hs:a.eval s=v) (hown:w.ownsRow base 51 7 v n (xs.flatMap RV.vals))
  (ad:Addr) (y:RV) (hx:a.eval x=.slice (some ad) 1 1) (hnews:∀ j u,y.vals[j]?=some u→w.cell? (ad.add j)=some u) (hb:(n+1) * 104≤140737488355328) (hbase:base≤w.heap.size)
  (h:∀ v' w',w'.ownsRow base 51 7 v' (n+1) ((xs ++ [y]).flatMap RV.vals)→w.grownBy w' v.ownBlock→(v'.ownBlock=v.ownBlock∨v'.ownBlock=some w.heap.size)→wpList Tryd.prog ops Q rest (a.put o.dst v') w'):wpList Tryd.prog ops Q (o :: rest) a w:=by
 obtain ⟨i,hi,hz,hsz,hby⟩:=info_parts rgInfo
 refine wpList_append_own_at w hgd s x 49 ho base 51 i _ 7 104 Tryd.underlying49 hi hz hsz hby rfl (by omega) v n _ hs hown ad 1 1 y.vals hx rfl hnews (rv_one y) (by unfold maxLen; omega) hb hbase (fun v' w' h2 h3 _ h5=>?_)
 exact h v' w' (by rw [List.flatMap_append]; simpa using h2) h3 h5
def Elems (B:Nat) (v:Value) (g:Nat):Prop:=B≤g∧some g≠v.ownBlock
structure OwnRg (w:World) (B:Nat) (v:Value) (l:List Rng) (xs:List RV):Prop where
 own:w.ownsRow B 51 7 v l.length (xs.flatMap RV.vals)
 len:xs.length=l.length
 lies:∀ j,j<l.length→Lies w (Elems B v) (l.getD j noRng) (xs.getD j default)
theorem OwnRg.nil (w:World) (B:Nat):OwnRg w B (.slice none 0 0) [] []:=⟨World.ownsRow_nil _ _ _ _,rfl,fun _ hj=>absurd hj (Nat.not_lt_zero _)⟩
theorem OwnRg.kept {w w':World} {B:Nat} {v:Value} {l:List Rng} {xs:List RV} (h:OwnRg w B v l xs) (k:Below w.heap.size w w'):OwnRg w' B v l xs:=⟨own_below h.own k,h.len,fun j hj=>(h.lies j hj).keep (KeepS.of_below k)⟩
theorem OwnRg.moved {w w':World} {B b:Nat} {v:Value} {l:List Rng} {xs:List RV} (h:OwnRg w B v l xs) (k:Moved b w w') (hb:b<B):OwnRg w' B v l xs:=by
 refine ⟨h.own.kept (row:=some b) ⟨k.os,k.tape,k.output,k.size,fun i hi hne=>k.block i hi (fun e=>hne (by rw [e]))⟩ ?_,h.len,fun j hj=>(h.lies j hj).keep (KeepS.moved k (fun e=>by have:=e.1; omega))⟩
 cases hv:v.ownBlock with
 | none=>exact .inl rfl
 | some g=>right; intro e; injection e with e; have:=(h.own.lt g hv).1; omega
theorem OwnRg.more {w w':World} {B:Nat} {v v':Value} {l:List Rng} {xs:List RV} {r:Rng} {x:RV} {W0:Nat} (h:OwnRg w B v l xs) (ho:w'.ownsRow B 51 7 v' (l.length+1) ((xs ++ [x]).flatMap RV.vals)) (hg:w.grownBy w' v.ownBlock) (hat:v'.ownBlock=v.ownBlock∨v'.ownBlock=some w.heap.size) (hx:Lies w (From W0) r x) (hW:B≤W0) (hv:∀ g,v.ownBlock=some g→g<W0):OwnRg w' B v' (l ++ [r]) (xs ++ [x]):=by
 have hel:∀ (q:Rng) (y:RV),Lies w (Elems B v) q y→Lies w' (Elems B v') q y:=fun q y hq=>by
  have h1:Lies w (fun g=>Elems B v g∧Elems B v' g) q y:=hq.mono fun g hS hlt=>⟨hS,hS.1,by
   rcases hat with e | e
   ·rw [e]; exact hS.2
   ·rw [e]; intro h; injection h with h; omega⟩
  exact (h1.keep (KeepS.grown hg fun g hS=>hS.1.2)).mono fun g hS _=>hS.2
 have hnew:Lies w (Elems B v) r x:=hx.mono fun g hS _=>⟨Nat.le_trans hW hS,fun e=>by have:=hv g e.symm; unfold From at hS; omega⟩
 refine ⟨by rw [List.length_append]; exact ho,by rw [List.length_append,List.length_append,h.len]; rfl,fun k hk=>?_⟩
 rw [List.length_append,List.length_singleton] at hk
 by_cases hlt:k<l.length
 ·have e1:(l ++ [r]).getD k noRng=l.getD k noRng:=by simp [List.getD,List.getElem?_append_left hlt]
  have e2:(xs ++ [x]).getD k default=xs.getD k default:=by simp [List.getD,List.getElem?_append_left (show k<xs.length by rw [h.len]; exact hlt)]
  rw [e1,e2]; exact hel _ _ (h.lies k hlt)
 ·have ek:k=l.length:=by omega
  have e1:(l ++ [r]).getD k noRng=r:=by rw [ek]; simp [List.getD]
  have e2:(xs ++ [x]).getD k default=x:=by rw [ek,← h.len]; simp [List.getD]
  rw [e1,e2]; exact hel _ _ hnew
theorem OwnRg.row {w:World} {B:Nat} {v:Value} {l:List Rng} {xs:List RV} (h:OwnRg w B v l xs):∃ L e,v=.slice L l.length e∧l.length≤e∧(L=none→e=0)∧RgRow w (From B) L l.length l :=
 RgRow.of_own h.own (fun _ hg=>hg) h.len rfl fun j hj=>(h.lies j hj).mono fun _ hS _=>hS.1
theorem RgPost.alloc {b:Nat} {A:Option Addr} {n c:Nat} {l:List UInt8} {w W:World} {t:Out} {e:Ending} (h:RgPost b A n c l w t e W) (hb:b<w.heap.size) (o:Obj):RgPost b A n c l w t e (W.alloc o):=by
 obtain ⟨x,q,h1,h2,h3,h4,h5⟩:=h
 exact ⟨x,q,h1,h2.keep (KeepS.alloc _ _),h3,h4.alloc _,h5.alloc hb _⟩
end Go.Proofs.YtgakcdcfblgagaaDoor.Range
namespace Go.Proofs.YtgakcdcfblgagaaDoor.Range
open Go.RowKit Num Ident Semver
theorem rr_start (w:World) (x:RV) (yA:Option Addr) (yc:Nat) (yB:Option Addr) (yd:Nat) (yL:Option Addr) (ye:Nat):∃ W,W=((w.alloc x).alloc (.cells #[x.kind,x.v.a,x.v.b,x.v.c,.slice yA x.v.pre.length yc,.slice yB x.v.build.length yd,.slice yL x.n ye] 51))∧Hid (Below w.heap.size w W)∧Hid (RAt W w.heap.size x)∧Hid (At7 W (w.heap.size+1) x.kind x.v.a x.v.b x.v.c (.slice yA x.v.pre.length yc) (.slice yB x.v.build.length yd) (.slice yL x.n ye)):=by
 refine ⟨_,rfl,((Below.refl _ _).alloc (Nat.le_refl _) _).alloc (by simp) _,(RAt.new w 51 x).kept ((Below.refl _ _).alloc (Nat.le_refl _) _) (by simp),?_⟩
 have h:=At7.new (w.alloc x) 51 x.kind x.v.a x.v.b x.v.c (.slice yA x.v.pre.length yc) (.slice yB x.v.build.length yd) (.slice yL x.n ye)
 rw [size_alloc] at h; exact h
def RefSameAt (m:Nat):Prop:=∀ (r:Rng) (x y:RV) (B:Nat) (w:World),wt r≤m→LenOk r→Weak w (LtB B) r x→Weak w (LtB B) r y→B≤w.heap.size →
  Calls Tryd.prog 12 #[x.agg,y.agg] w fun e w'=>e=.returned (.bool true)∧Below w.heap.size w w'
theorem refSame_step (m:Nat) (ih:RefSameAt m):RefSameAt (m+1):=by
 intro r x y B w hm hlo hx hy hB
 have IH:=Lib.hid ih
 clear ih
 have hs:=hx.says
 have ht:=hy.says
 obtain ⟨yk,yv,yA,yc,yB,yd,yL,yn,ye⟩:=y
 obtain ⟨f,hln,_,_⟩:=hs.subs
 obtain ⟨f2,hln2,_,_⟩:=ht.subs
 obtain rfl:yk=x.kind:=ht.kind.symm.trans hs.kind
 obtain rfl:yv=x.v:=ht.ver.symm.trans hs.ver
 obtain rfl:yn=x.n:=hln2.symm.trans hln
 have HP1:=Lib.hid hs.pre
 have HU1:=Lib.hid hs.build
 have HP2:Hid (SRow w yA x.v.pre.length x.v.pre):=ht.pre
 have HU2:Hid (SRow w yB x.v.build.length x.v.build):=ht.build
 have hfit:=hs.fp
 have hfit2:=hs.fb
 rw [wt_eq] at hm
 have hxn:x.n≤9223372036854775807:=by rw [← hln]; exact hlo.here
 have HLO:=Lib.hid hlo
 have HLN:=Lib.hid hln
 obtain ⟨W,hW,HB0,HR0,HY0⟩:=rr_start w x yA yc yB yd yL ye
 have HLX0:=Lib.hid (hx.keep (KeepS.of_below (S:=LtB B) HB0.out))
 have HLY0:=Lib.hid (hy.keep (KeepS.of_below (S:=LtB B) HB0.out))
 clear hs ht hx hy hln hln2 hlo
 unfold RV.agg
 go_enter Tryd.func12,Tryd.ntmps12
 go_upto_region 1 with (fail)
 rw [← hW]
 clear hW
 have q1:(x.kind != x.kind)=false:=by simp
 have q2:((x.n:Int) != (x.n:Int))=false:=by simp
 obtain ⟨y1,y2,c0,c1,c2,c3,c4,c5,c6⟩:=HR0.out
 obtain ⟨z1,z2,d0,d1,d2,d3,d4,d5,d6⟩:=HY0.out
 go_wp2_with fail
 refine (Semver.refSame_any x.v x.v x.A x.B yA yB x.c x.d yc yd W (HP1.out.kept HB0.out) (HU1.out.kept HB0.out) (HP2.out.kept HB0.out) (HU2.out.kept HB0.out) hfit hfit2 hfit hfit2).mono ?_
 rintro e W2 ⟨rfl,hb⟩
 have HB2:=Lib.hid (HB0.out.trans (hb.mono HB0.out.size))
 have HR2:=Lib.hid (HR0.out.kept hb HR0.out.1)
 have HY2:=Lib.hid (HY0.out.kept hb HY0.out.1)
 have HLX:=Lib.hid (HLX0.out.keep (KeepS.of_below (S:=LtB B) hb))
 have HLY:=Lib.hid (HLY0.out.keep (KeepS.of_below (S:=LtB B) hb))
 have hB2:B≤W2.heap.size:=Nat.le_trans hB HB2.out.size
 rw [sameV_self x.v]
 clear hb y1 y2 c0 c1 c2 c3 c4 c5 c6 z1 z2 d0 d1 d2 d3 d4 d5 d6 HB0 HR0 HY0 HLX0 HLY0 HP1 HU1 HP2 HU2 hfit hfit2
 obtain ⟨y1,y2,c0,c1,c2,c3,c4,c5,c6⟩:=HR2.out
 obtain ⟨z1,z2,d0,d1,d2,d3,d4,d5,d6⟩:=HY2.out
 go_wp2
 clear y1 y2 c0 c1 c2 c3 c4 c5 c6 z1 z2 d0 d1 d2 d3 d4 d5 d6
 go_loopw [5] (fun iv W'=>∃ k:Nat,k≤x.n∧iv=.int .i64 k∧Hid (Below W2.heap.size W2 W')) (fun iv _=>x.n - (intOf iv).toNat)
 case atStart=>exact ⟨0,Nat.zero_le _,rfl,Below.refl _ _⟩
 case round =>
  obtain ⟨k,hk,rfl,HB3⟩:=hrel
  by_cases hlt:k<x.n
  ·obtain ⟨b,o,c1,hLe,hSb,hcl,hcy⟩:=HLX.out.says.subs.one hlt
   obtain ⟨b2,o2,c2,hLe2,hSb2,hcl2,hcy2⟩:=HLY.out.says.subs.one hlt
   simp only at hLe2
   have hll:k<r.subs.length:=by rw [HLN.out]; exact hlt
   have hmem:r.subs.getD k noRng ∈ r.subs:=by
    rw [List.getD_eq_getElem?_getD,List.getElem?_eq_getElem (by omega)]; exact List.getElem_mem _
   have hwt:wt (r.subs.getD k noRng)≤m:=by have:=wt_mem hmem; omega
   have hlo:=HLO.out.sub hmem
   have HC1:Hid (CellsAt wr b (o+k * 7) c1):=hcl.keep (KeepS.of_below (S:=LtB B) HB3.out) hSb
   have HC2:Hid (CellsAt wr b2 (o2+k * 7) c2):=hcl2.keep (KeepS.of_below (S:=LtB B) HB3.out) hSb2
   have HK1:Hid (Weak wr (LtB B) (r.subs.getD k noRng) c1):=hcy.keep (KeepS.of_below (S:=LtB B) HB3.out)
   have HK2:Hid (Weak wr (LtB B) (r.subs.getD k noRng) c2):=hcy2.keep (KeepS.of_below (S:=LtB B) HB3.out)
   have hBx:B≤wr.heap.size:=Nat.le_trans hB2 HB3.out.size
   have HR3:=Lib.hid (HR2.out.kept HB3.out HR2.out.1)
   have HY3:=Lib.hid (HY2.out.kept HB3.out HY2.out.1)
   clear hcl hcy hcl2 hcy2
   generalize r.subs.getD k noRng=u at hwt hlo HK1 HK2
   obtain ⟨y1,y2,c0,c1',c2',c3,c4,c5,c6⟩:=HR3.out
   obtain ⟨z1,z2,d0,d1,d2,d3,d4,d5,d6⟩:=HY3.out
   rw [hLe] at c6 ⊢
   rw [hLe2] at d6 ⊢
   go_upto_region 6 with (fail)
   clear y1 y2 c0 c1' c2' c3 c4 c5 c6 z1 z2 d0 d1 d2 d3 d4 d5 d6
   replace HB3:Hid (Below W2.heap.size W2 wr.drew):=HB3.out.drew
   replace HR3:Hid (RAt wr.drew w.heap.size x):=HR3.out
   replace HY3:Hid (At7 wr.drew (w.heap.size+1) x.kind x.v.a x.v.b x.v.c (.slice yA x.v.pre.length yc) (.slice yB x.v.build.length yd) (.slice yL x.n ye)):=HY3.out
   replace HC1:Hid (CellsAt wr.drew b (o+k * 7) c1):=HC1.out
   replace HC2:Hid (CellsAt wr.drew b2 (o2+k * 7) c2):=HC2.out
   replace HK1:Hid (Weak wr.drew (LtB B) u c1):=HK1.out.keep (KeepS.of_below (S:=LtB B) (Below.refl _ _).drew)
   replace HK2:Hid (Weak wr.drew (LtB B) u c2):=HK2.out.keep (KeepS.of_below (S:=LtB B) (Below.refl _ _).drew)
   refine wp_region_held_drew (S:=fun w'=>RAt w' w.heap.size x∧At7 w' (w.heap.size+1) x.kind x.v.a x.v.b x.v.c (.slice yA x.v.pre.length yc) (.slice yB x.v.build.length yd) (.slice yL x.n ye)∧CellsAt w' b (o+k * 7) c1∧CellsAt w' b2 (o2+k * 7) c2) (by kernel_rfl) ⟨HR3.out,HY3.out,HC1.out,HC2.out⟩ (fun hHeld=>?_)
   have hBV:B≤wr.drew.heap.size:=hBx
   generalize wr.drew=V at HB3 HR3 HY3 HC1 HC2 HK1 HK2 hBV hHeld ⊢
   refine tk 0 rfl (.pointer (some ⟨w.heap.size,6,none⟩)) ?_
   refine tk 1 rfl (.slice (some ⟨b,o,none⟩) x.n x.e) ?_ fun w' hS'=>by obtain ⟨y1,y2,c0,c1,c2,c3,c4,c5,c6⟩:=hS'.1; rw [hLe] at c6; go_simp
   refine tk 2 rfl (.int .i64 k) ?_
   refine tk 3 rfl (.pointer (some ⟨b,o+k * 7,none⟩)) ?_
   refine tk 4 rfl c1 ?_ fun w' hS'=>by obtain ⟨e0,e1,e2,e3,e4,e5,e6⟩:=hS'.2.2.1.cells; go_simp
   refine tk 5 rfl (.pointer (some ⟨w.heap.size+1,6,none⟩)) ?_
   refine tk 6 rfl (.slice (some ⟨b2,o2,none⟩) x.n ye) ?_ fun w' hS'=>by obtain ⟨y1,y2,c0,c1,c2,c3,c4,c5,c6⟩:=hS'.2.1; rw [hLe2] at c6; go_simp
   refine tk 7 rfl (.int .i64 k) ?_
   refine tk 8 rfl (.pointer (some ⟨b2,o2+k * 7,none⟩)) ?_
   refine tk 9 rfl c2 ?_ fun w' hS'=>by obtain ⟨e0,e1,e2,e3,e4,e5,e6⟩:=hS'.2.2.2.cells; go_simp
   refine cl 10 rfl fun K hK=>?_
   go_simp
   refine (IH.out u c1 c2 B V hwt hlo HK1.out HK2.out hBV).mono ?_
   rintro e V1 ⟨rfl,hb⟩
   have HB4:=Lib.hid (HB3.out.trans (hb.mono HB3.out.size))
   have HR4:=Lib.hid (HR3.out.kept hb HR3.out.1)
   have HY4:=Lib.hid (HY3.out.kept hb HY3.out.1)
   have HC3:Hid (CellsAt V1 b (o+k * 7) c1):=HC1.out.keep (KeepS.of_below (S:=fun _=>True) hb) trivial
   have HC4:Hid (CellsAt V1 b2 (o2+k * 7) c2):=HC2.out.keep (KeepS.of_below (S:=fun _=>True) hb) trivial
   clear hb hHeld
   refine hK.out _ _ ⟨HR4.out,HY4.out,HC3.out,HC4.out⟩ (fun hHeld=>?_)
   clear hK K
   try simp only [Act.put,p1,p2,p3]
   refine tk 11 rfl (.bool false) ?_
   refine wpAnyH_done (by kernel_rfl) ?_ _
   go_wp2
   exact ⟨⟨k+1,by omega,by go_num,HB4.out⟩,by simp [intOf]; omega⟩
  ·obtain rfl:k=x.n:=by omega
   have HR3:=Lib.hid (HR2.out.kept HB3.out HR2.out.1)
   obtain ⟨y1,y2,c0,c1,c2,c3,c4,c5,c6⟩:=HR3.out
   go_wp2
   go_ret
   exact ⟨rfl,HB2.out.trans (HB3.out.mono HB2.out.size)⟩
theorem refSame_all:∀ m,RefSameAt m
 | 0=>fun r x y B w hm _ hx _ hB=>by rw [wt_eq] at hm; omega
 | m+1=>refSame_step m (refSame_all m)
end Go.Proofs.YtgakcdcfblgagaaDoor.Range
namespace Go.Proofs.YtgakcdcfblgagaaDoor.Model
open Go.RowKit Num Ident Semver
open Range (Rng noRng goodR)

open Name (isName)


structure PDep where
 name:List UInt8
 r:Rng
instance:Inhabited PDep:=⟨⟨[],noRng⟩⟩
structure PRel where
 v:Ver
 yanked:Bool
 needs:List PDep
 bans:List PDep
instance:Inhabited PRel:=⟨⟨noVer,false,[],[]⟩⟩
structure PPack where
 name:List UInt8
 rels:List PRel
instance:Inhabited PPack:=⟨⟨[],[]⟩⟩
structure PPin where
 name:List UInt8
 v:Ver
instance:Inhabited PPin:=⟨⟨[],noVer⟩⟩

end Go.Proofs.YtgakcdcfblgagaaDoor.Model
