/-
  What the theorem of the last text needs of these: RgVer, SpRefSame, RgTab. Conditions: as each theorem states.
-/
import Derived.Test.YtgfbflnhjpbceaaGreatDoorSetB1
import Derived.Test.YtgfbflnhjpbceaaGreatDoorSetB8
import Derived.Test.YtgfbflnhjpbceaaGreatDoorSetB12
import Derived.Test.YtgfbflnhjpbceaaGreatDoorSetB13
import Derived.Test.YtgfbflnhjpbceaaGreatDoorSetB15
import Derived.Test.YtgfbflnhjpbceaaGreatDoorSetB16
import Derived.Deep.RegionHeld3
import Derived.Lib.LaidTab
set_option maxRecDepth 100000
set_option maxHeartbeats 25600000
namespace Go.Proofs.YtgfbflnhjpbceaaGreatDoor.Range
open Go.RowKit Num Ident Semver

theorem fit_good {v:Ver} (h:goodV v=true):FitV v:=by
 unfold goodV at h
 rw [Bool.and_eq_true,Bool.and_eq_true] at h
 obtain ⟨h1,h2,h3⟩:=h
 have hh:=of_decide_eq_true h1
 unfold maxField at hh
 have b1:=goodFrom_bound _ _ h2
 have b2:=goodFrom_bound _ _ h3
 have l1:v.pre.length≤16:=by
  by_cases e:v.pre=[]
  ·rw [e]; simp
  ·have:=b1.1 e; omega
 have l2:v.build.length≤16:=by
  by_cases e:v.build=[]
  ·rw [e]; simp
  ·have:=b2.1 e; omega
 exact ⟨by omega,by omega,by omega,by unfold maxLen; omega,by unfold maxLen; omega,fun x hx=>by have:=b1.2 x hx; unfold maxLen; omega,fun x hx=>by have:=b2.2 x hx; unfold maxLen; omega⟩
theorem vparse_at (l s:List UInt8) (p:Nat) (h:Pl l p s):vparse l p=((vparse s 0).1,p+(vparse s 0).2.1,(vparse s 0).2.2):=by
 have h1:=vparse_place (l.take p) s
 have h2:(l.take p).length=p:=by rw [List.length_take]; have:=h.le; omega
 have h3:l.take p ++ s=l:=by rw [h.eq,List.take_append_drop]
 rw [h2,h3] at h1
 exact h1
theorem At5.moved {W W':World} {b B:Nat} {u0 u1 u2 u3 u4:Value} (h:At5 W B u0 u1 u2 u3 u4) (hm:Moved b W W') (hne:B≠b):At5 W' B u0 u1 u2 u3 u4:=by
 obtain ⟨h1,h2,c0,c1,c2,c3,c4⟩:=h
 have k:=hm.block B h1 hne
 have kc:∀ o,W'.cell? ⟨B,o,none⟩=W.cell? ⟨B,o,none⟩:=fun o=>World.cell?_of_block (w:=W) (a:=⟨B,o,none⟩) k
 exact ⟨Nat.lt_of_lt_of_le h1 hm.size,fun o=>(World.frozen?_of_block (w:=W) (a:=⟨B,o,none⟩) k).trans (h2 o),(kc 0).trans c0,(kc 1).trans c1,(kc 2).trans c2,(kc 3).trans c3,(kc 4).trans c4⟩
theorem moved_set5 {b bv:Nat} {u w:World} (h:Moved b u w) (hb:b<u.heap.size) (hv:u.heap.size≤bv) (v0 v1 v2 v3 v4:Value):Moved b u (set5 w bv v0 v1 v2 v3 v4):=by
 unfold set5
 exact ((((h.set hb (p:=⟨bv,0,none⟩) hv _).set hb (p:=⟨bv,1,none⟩) hv _).set hb (p:=⟨bv,2,none⟩) hv _).set hb (p:=⟨bv,3,none⟩) hv _).set hb (p:=⟨bv,4,none⟩) hv _
theorem rd_set5 {w:World} {b bv:Nat} {A:Option Addr} {n c p:Nat} (h:Rd w b A n c p) (hv:b<bv) (v0 v1 v2 v3 v4:Value):Rd (set5 w bv v0 v1 v2 v3 v4) b A n c p:=by
 unfold set5
 exact ((((h.set (q:=⟨bv,0,none⟩) hv _).set (q:=⟨bv,1,none⟩) hv _).set (q:=⟨bv,2,none⟩) hv _).set (q:=⟨bv,3,none⟩) hv _).set (q:=⟨bv,4,none⟩) hv _
theorem at7_set5 {w:World} {B bv:Nat} {u0 u1 u2 u3 u4 u5 u6:Value} (h:At7 w B u0 u1 u2 u3 u4 u5 u6) (hv:B<bv) (v0 v1 v2 v3 v4:Value):At7 (set5 w bv v0 v1 v2 v3 v4) B u0 u1 u2 u3 u4 u5 u6:=by
 unfold set5
 exact h.kept (B:=bv) (((((((Below.refl bv w).setCell (p:=⟨bv,0,none⟩) (Nat.le_refl _) _).setCell (p:=⟨bv,1,none⟩) (Nat.le_refl _) _).setCell (p:=⟨bv,2,none⟩) (Nat.le_refl _) _).setCell (p:=⟨bv,3,none⟩) (Nat.le_refl _) _).setCell (p:=⟨bv,4,none⟩) (Nat.le_refl _) _)) hv
theorem ver_block {w W:World} {b bv:Nat} (hbw:b<w.heap.size) {A:Option Addr} {n c p:Nat} {v:Ver} {A1 B1:Option Addr} {c1 d1:Nat} (hR:Rd W b A n c p) (hM:Moved b w W) (hA:SRow W A1 v.pre.length v.pre) (hB:SRow W B1 v.build.length v.build) (h5:At5 W bv (.int .u64 0) (.int .u64 0) (.int .u64 0) (.slice none 0 0) (.slice none 0 0)) (hv:w.heap.size<bv) (h7:At7 W w.heap.size (.int .i64 0) (.int .u64 0) (.int .u64 0) (.int .u64 0) (.slice none 0 0) (.slice none 0 0) (.slice none 0 0)) :
  At5 (set5 W bv v.a v.b v.c (.slice A1 v.pre.length c1) (.slice B1 v.build.length d1)) bv v.a v.b v.c (.slice A1 v.pre.length c1) (.slice B1 v.build.length d1)∧Rd (set5 W bv v.a v.b v.c (.slice A1 v.pre.length c1) (.slice B1 v.build.length d1)) b A n c p∧Moved b w (set5 W bv v.a v.b v.c (.slice A1 v.pre.length c1) (.slice B1 v.build.length d1))∧SRow (set5 W bv v.a v.b v.c (.slice A1 v.pre.length c1) (.slice B1 v.build.length d1)) A1 v.pre.length v.pre∧SRow (set5 W bv v.a v.b v.c (.slice A1 v.pre.length c1) (.slice B1 v.build.length d1)) B1 v.build.length v.build∧At7 (set5 W bv v.a v.b v.c (.slice A1 v.pre.length c1) (.slice B1 v.build.length d1)) w.heap.size (.int .i64 0) (.int .u64 0) (.int .u64 0) (.int .u64 0) (.slice none 0 0) (.slice none 0 0) (.slice none 0 0):=by
 obtain ⟨hvl,hvf,g0,g1,g2,g3,g4⟩:=h5
 have h5:At5 W bv (.int .u64 0) (.int .u64 0) (.int .u64 0) (.slice none 0 0) (.slice none 0 0):=⟨hvl,hvf,g0,g1,g2,g3,g4⟩
 have hb:b<bv:=by
  by_cases h:b<w.heap.size
  ·omega
  ·exact absurd hbw h
 exact ⟨h5.set5 _ _ _ _ _,rd_set5 hR hb _ _ _ _ _,moved_set5 hM hbw (Nat.le_of_lt hv) _ _ _ _ _,hA.set5 g0 g1 g2 g3 g4 (by simp) (by simp) (by simp) (by simp) (by simp) _ _ _ _ _,hB.set5 g0 g1 g2 g3 g4 (by simp) (by simp) (by simp) (by simp) (by simp) _ _ _ _ _,at7_set5 h7 hv _ _ _ _ _⟩
theorem ver_any (b:Nat) (A:Option Addr) (n c p:Nat) (l s:List UInt8) (kind:Int) (w:World) (hR:Rd w b A n c p) (hr:Row w A n l) (hc:n≤c) (hs:Pl l p s) :
  Calls Tryz.prog 160 #[.pointer (some ⟨b,0,none⟩),.int .i64 kind] w (RgPost b A n c l w (verAt kind s)):=by
 have hm:=hr.2.1
 unfold maxLen at hm
 have hbw:=hR.lt
 have HP:=Lib.hid hs
 have HL:=Lib.hid hr.1
 have HRw:=Lib.hid hR
 have HRow:=Lib.hid hr
 have H7:Hid (At7 (w.alloc ()) w.heap.size (.int .i64 0) (.int .u64 0) (.int .u64 0) (.int .u64 0) (.slice none 0 0) (.slice none 0 0) (.slice none 0 0)):=At7.new _ _ _ _ _ _ _ _ _
 have HR0:Hid (Rd (w.alloc ()) b A n c p):=hR.alloc _
 have HM:Hid (Moved b w (w.alloc ())):=(Moved.refl b w).alloc hbw _
 have HRow0:Hid (Row (w.alloc ()) A n l):=hr.kept ((Below.refl _ _).alloc (Nat.le_refl _) _)
 clear hR hr hs
 go_enter Tryz.func160,Tryz.ntmps160
 go_wp2_with fail
 refine (oneOf_any b A n c p l s digits _ HR0.out HRow0.out HP.out).mono ?_
 rintro e W0 ⟨rfl,hR1,hM1⟩
 replace HRow0:=Lib.hid (row_keep HRow0.out (HR0.out.keep hM1))
 replace H7:=Lib.hid (At7.moved H7.out hM1 (by omega))
 replace HM:=Lib.hid (HM.out.trans hM1)
 replace HR0:=Lib.hid hR1
 have hz:w.heap.size<W0.heap.size:=H7.out.1
 clear hR1 hM1
 cases hst:oneOf digits s with
 | false =>
  have HV:Hid (verAt kind s=(lackN s,s,noRng)):=by unfold Hid verAt; rw [hst]; rfl
  go_wp2_with fail
  refine (lack_any b A n c p l s _ HR0.out HRow0.out HP.out).mono ?_
  rintro e W1 ⟨rfl,hR1,hM1⟩
  have H71:=Lib.hid (At7.moved H7.out hM1 (by omega))
  have HMM:=Lib.hid (HM.out.trans hM1)
  have HRR:=Lib.hid hR1
  have hne:=Nat.ne_of_gt hbw
  clear hR1 hM1
  obtain ⟨y1,y2,c0,c1,c2,c3,c4,c5,c6⟩:=H71.out
  go_wp2
  exact bodyPost_ret (v:=.tuple #[.agg #[.int .i64 0,.int .u64 0,.int .u64 0,.int .u64 0,.slice none 0 0,.slice none 0 0,.slice none 0 0],.int .i64 (lackN s)]) (by simp [results,Tryz.results160,go_sem,c0,c1,c2,c3,c4,c5,c6]) rfl (by rw [HV.out]; exact rg_end (x:=zeroRV 0) hbw (Lies.zero _ _ 0) HP.out HRR.out HMM.out)
 | true =>
  have HPA:Hid (∀ W,Row W A n l→Calls Tryz.prog 171 #[.slice A n c,.int .i64 p] W (VerPostF W ((vparse s 0).1,p+(vparse s 0).2.1,(vparse s 0).2.2))):=fun W hW=>by
   have:=Semver.parse_anyF A n c l (p:Int) W hW hc
   rw [vparse_at l s p HP.out] at this
   exact this
  have HQ:=Lib.hid (vparse_end s 0)
  have HV:Hid (verAt kind s=if (vparse s 0).1≠0 then ((vparse s 0).1,s.drop (vparse s 0).2.1,noRng) else (0,blanks (s.drop (vparse s 0).2.1),.mk kind (vparse s 0).2.2 [])):=by
   unfold Hid verAt; rw [if_pos hst]
  have HG:Hid (∀ q v,vparse s 0=(0,q,v)→FitV v):=fun q v h=>fit_good (vparse_read h).1
  obtain ⟨⟨f,q,v⟩,hk⟩:∃ t,vparse s 0=t:=⟨_,rfl⟩
  rw [hk] at HPA HV HQ HG
  simp only at HPA HV HQ
  clear hk
  go_upto_region 3 with (fail)
  go_cut [6,7,8] (fun v6 v7 v8 wx=>∃ bv A1 c1 B1 d1,v6=.pointer (some ⟨bv,0,none⟩)∧v7=.int .i64 ((p+q:Nat):Int)∧v8=.int .i64 f∧w.heap.size<bv∧v.pre.length≤c1∧v.build.length≤d1∧At5 wx bv v.a v.b v.c (.slice A1 v.pre.length c1) (.slice B1 v.build.length d1)∧Rd wx b A n c p∧Moved b w wx∧SRow wx A1 v.pre.length v.pre∧SRow wx B1 v.build.length v.build∧At7 wx w.heap.size (.int .i64 0) (.int .u64 0) (.int .u64 0) (.int .u64 0) (.slice none 0 0) (.slice none 0 0) (.slice none 0 0)∧Fresh (w.heap.size+1) A1 v.pre.length∧Fresh (w.heap.size+1) B1 v.build.length)
  case first =>
   have H0:Hid (Rd W0.drew b A n c p):=HR0.out.drew
   have HW0:Hid (Row W0.drew A n l):=HRow0.out
   have HM0:Hid (Moved b w W0.drew):=HM.out.drew
   have H70:Hid (At7 W0.drew w.heap.size (.int .i64 0) (.int .u64 0) (.int .u64 0) (.int .u64 0) (.slice none 0 0) (.slice none 0 0) (.slice none 0 0)):=H7.out
   have hz0:w.heap.size<W0.drew.heap.size:=hz
   refine wp_region_held_drew (S:=fun w'=>w'.cell? ⟨b,0,none⟩=some (.slice A n c)∧w'.cell? ⟨b,1,none⟩=some (.int .i64 p)) (by kernel_rfl) ⟨H0.out.row,H0.out.at_⟩ (fun hHeld=>?_)
   refine tk 0 rfl (.pointer (some ⟨b,0,none⟩)) ?_
   refine tk 1 rfl (.pointer (some ⟨b,0,none⟩)) ?_
   refine tk 2 rfl (.pointer (some ⟨b,0,none⟩)) ?_
   refine tk 3 rfl (.slice A n c) ?_ fun w' hS'=>by have x:=hS'.1; go_simp
   refine tk 4 rfl (.pointer (some ⟨b,0,none⟩)) ?_
   refine tk 5 rfl (.pointer (some ⟨b,0,none⟩)) ?_
   refine tk 6 rfl (.pointer (some ⟨b,1,none⟩)) ?_
   refine tk 7 rfl (.int .i64 p) ?_ fun w' hS'=>by have x:=hS'.2; go_simp
   refine wpAnyH_ready (rs:=[8,13]) (by kernel_rfl) (by simp) ?_
   refine AllReadyH.cons (nth_ops (i:=8) rfl) (fun K hK=>?_) (AllReadyH.cons (nth_ops (i:=13) rfl) (fun K hK=>?_) AllReadyH.nil)
   ·go_simp
    refine (HPA.out _ HW0.out).mono ?_
    rintro e W1 ⟨A1,c1,B1,d1,rfl,hc1,hd1,hr1,hr2,hb1,hf1,hf2⟩
    simp only at hc1 hd1 hr1 hr2 hf1 hf2 ⊢
    have HR1:Hid (Rd W1 b A n c p):=H0.out.kept hb1 H0.out.lt
    have HM1:Hid (Moved b w W1):=HM0.out.below hb1 HM0.out.size hbw
    have HA1:=Lib.hid hr1
    have HB1:=Lib.hid hr2
    have H71:=Lib.hid (H70.out.kept hb1 hz0)
    have hz1:w.heap.size<W1.heap.size:=Nat.lt_of_lt_of_le hz0 hb1.size
    have HF1:Hid (Fresh (w.heap.size+1) A1 v.pre.length):=hf1.mono hz0
    have HF2:Hid (Fresh (w.heap.size+1) B1 v.build.length):=hf2.mono hz0
    clear hr1 hr2 hb1 hf1 hf2
    clear hHeld
    refine hK.out _ _ ⟨HR1.out.row,HR1.out.at_⟩ (fun hHeld=>?_)
    clear hK K
    try simp only [Act.put,p1,p2,p3]
    refine tk 9 rfl (.tuple #[.agg #[v.a,v.b,v.c,.slice A1 v.pre.length c1,.slice B1 v.build.length d1],.int .i64 ((p+q:Nat):Int),.int .i64 f]) ?_
    refine tk 10 rfl (.agg #[v.a,v.b,v.c,.slice A1 v.pre.length c1,.slice B1 v.build.length d1]) ?_
    refine tk 11 rfl (.int .i64 ((p+q:Nat):Int)) ?_
    refine tk 12 rfl (.int .i64 f) ?_
    refine cl 13 rfl fun K hK=>?_
    go_simp
    have H5:Hid (At5 (W1.alloc (.cells #[v.a,v.b,v.c,.slice A1 v.pre.length c1,.slice B1 v.build.length d1] 25)) W1.heap.size v.a v.b v.c (.slice A1 v.pre.length c1) (.slice B1 v.build.length d1)):=At5.new _ _ _ _ _ _ _
    have HV2:Hid (w.heap.size<W1.heap.size):=hz1
    clear hHeld
    refine hK.out _ _ ⟨(HR1.out.alloc false).row,(HR1.out.alloc false).at_⟩ (fun hHeld=>?_)
    clear hK K
    try simp only [Act.put,p1,p2,p3]
    refine cl 14 rfl fun K hK=>?_
    go_simp
    have HR2:Hid (Rd (W1.alloc (.cells #[v.a,v.b,v.c,.slice A1 v.pre.length c1,.slice B1 v.build.length d1] 25)) b A n c p):=HR1.out.alloc _
    have HM2:Hid (Moved b w (W1.alloc (.cells #[v.a,v.b,v.c,.slice A1 v.pre.length c1,.slice B1 v.build.length d1] 25))):=HM1.out.alloc hbw _
    have HA2:=Lib.hid (HA1.out.kept ((Below.refl W1.heap.size W1).alloc (Nat.le_refl _) (.cells #[v.a,v.b,v.c,.slice A1 v.pre.length c1,.slice B1 v.build.length d1] 25)))
    have HB2:=Lib.hid (HB1.out.kept ((Below.refl W1.heap.size W1).alloc (Nat.le_refl _) (.cells #[v.a,v.b,v.c,.slice A1 v.pre.length c1,.slice B1 v.build.length d1] 25)))
    have H72:=Lib.hid (H71.out.kept ((Below.refl W1.heap.size W1).alloc (Nat.le_refl _) (.cells #[v.a,v.b,v.c,.slice A1 v.pre.length c1,.slice B1 v.build.length d1] 25)) hz1)
    clear hHeld
    refine hK.out _ _ ⟨HR2.out.row,HR2.out.at_⟩ (fun hHeld=>?_)
    clear hK K
    try simp only [Act.put,p1,p2,p3]
    refine tk 15 rfl (.int .i64 ((p+q:Nat):Int)) ?_
    refine tk 16 rfl (.int .i64 f) ?_
    refine wpAnyH_done (by kernel_rfl) ?_ _
    go_wp2
    go_meet
    exact ⟨_,A1,c1,B1,d1,rfl,rfl,rfl,HV2.out,hc1,hd1,H5.out,HR2.out,HM2.out,HA2.out,HB2.out,H72.out,HF1.out,HF2.out⟩
   ·go_simp
    have H5a:Hid (At5 ((W0.alloc false).drew) W0.heap.size (.int .u64 0) (.int .u64 0) (.int .u64 0) (.slice none 0 0) (.slice none 0 0)):=(At5.new W0 25 (.int .u64 0) (.int .u64 0) (.int .u64 0) (.slice none 0 0) (.slice none 0 0))
    have HV2:Hid (w.heap.size<W0.heap.size):=hz
    have HRa:Hid (Rd ((W0.alloc false).drew) b A n c p):=(HR0.out.alloc _).drew
    have HMa:Hid (Moved b w ((W0.alloc false).drew)):=(HM.out.alloc hbw _).drew
    have HWa:Hid (Row ((W0.alloc false).drew) A n l):=row_keep (HRow0.out.kept ((Below.refl _ _).alloc (Nat.le_refl _) _)) (Keep.drew _)
    have H7a:Hid (At7 ((W0.alloc false).drew) w.heap.size (.int .i64 0) (.int .u64 0) (.int .u64 0) (.int .u64 0) (.slice none 0 0) (.slice none 0 0) (.slice none 0 0)):=H7.out.kept ((Below.refl W0.heap.size W0).alloc (Nat.le_refl _) false).drew hz
    have hza:W0.heap.size<((W0.alloc false).drew).heap.size:=by show _<(W0.heap.push _).size; simp
    clear hHeld
    refine hK.out _ _ ⟨HRa.out.row,HRa.out.at_⟩ (fun hHeld=>?_)
    clear hK K
    try simp only [Act.put,p1,p2,p3]
    refine cl 8 rfl fun K hK=>?_
    go_simp
    refine (HPA.out _ HWa.out).mono ?_
    rintro e W1 ⟨A1,c1,B1,d1,rfl,hc1,hd1,hr1,hr2,hb1,hf1,hf2⟩
    simp only at hc1 hd1 hr1 hr2 hf1 hf2 ⊢
    have HR2:Hid (Rd W1 b A n c p):=HRa.out.kept hb1 HRa.out.lt
    have HM2:Hid (Moved b w W1):=HMa.out.below hb1 HMa.out.size hbw
    have HA2:=Lib.hid hr1
    have HB2:=Lib.hid hr2
    have H72:=Lib.hid (H7a.out.kept hb1 (Nat.lt_trans HV2.out hza))
    have H5:=Lib.hid (H5a.out.kept hb1 hza)
    have HF1:Hid (Fresh (w.heap.size+1) A1 v.pre.length):=hf1.mono (Nat.le_trans HV2.out (Nat.le_of_lt hza))
    have HF2:Hid (Fresh (w.heap.size+1) B1 v.build.length):=hf2.mono (Nat.le_trans HV2.out (Nat.le_of_lt hza))
    clear hr1 hr2 hb1 hf1 hf2
    clear hHeld
    refine hK.out _ _ ⟨HR2.out.row,HR2.out.at_⟩ (fun hHeld=>?_)
    clear hK K
    try simp only [Act.put,p1,p2,p3]
    refine tk 9 rfl (.tuple #[.agg #[v.a,v.b,v.c,.slice A1 v.pre.length c1,.slice B1 v.build.length d1],.int .i64 ((p+q:Nat):Int),.int .i64 f]) ?_
    refine tk 10 rfl (.agg #[v.a,v.b,v.c,.slice A1 v.pre.length c1,.slice B1 v.build.length d1]) ?_
    refine tk 11 rfl (.int .i64 ((p+q:Nat):Int)) ?_
    refine tk 12 rfl (.int .i64 f) ?_
    obtain ⟨hvl,hvf,g0,g1,g2,g3,g4⟩:=H5.out
    refine cl 14 rfl fun K hK=>?_
    go_simp
    obtain ⟨k1,k2,k3,k4,k5,k6⟩:=ver_block hbw (v:=v) (c1:=c1) (d1:=d1) HR2.out HM2.out HA2.out HB2.out H5.out HV2.out H72.out
    have HK5:=Lib.hid k1
    have HKR:=Lib.hid k2
    have HKM:=Lib.hid k3
    have HKA:=Lib.hid k4
    have HKB:=Lib.hid k5
    have HK7:=Lib.hid k6
    clear k1 k2 k3 k4 k5 k6
    clear hHeld
    refine hK.out _ _ ⟨HKR.out.row,HKR.out.at_⟩ (fun hHeld=>?_)
    clear hK K
    try simp only [Act.put,p1,p2,p3]
    refine tk 15 rfl (.int .i64 ((p+q:Nat):Int)) ?_
    refine tk 16 rfl (.int .i64 f) ?_
    refine wpAnyH_done (by kernel_rfl) ?_ _
    go_wp2
    go_meet
    exact ⟨_,A1,c1,B1,d1,rfl,rfl,rfl,HV2.out,hc1,hd1,HK5.out,HKR.out,HKM.out,HKA.out,HKB.out,HK7.out,HF1.out,HF2.out⟩
  case rest =>
   obtain ⟨bv,A1,c1,B1,d1,rfl,rfl,rfl,hbv,hc1,hd1,h5,hR2,hM2,hA2,hB2,h72,hf1,hf2⟩:=hcut
   have HF1:Hid (InS (From (w.heap.size+1)) A1 v.pre.length):=hf1
   have HF2:Hid (InS (From (w.heap.size+1)) B1 v.build.length):=hf2
   clear hf1 hf2
   have HA2:=Lib.hid hA2
   have HB2:=Lib.hid hB2
   have H52:=Lib.hid h5
   have H72:=Lib.hid h72
   have HR2:=Lib.hid hR2
   have HM2:=Lib.hid hM2
   clear hA2 hB2 h5 h72 hR2 hM2
   have HPQ:Hid (Pl l (p+q) (s.drop q)):=HP.out.drop (by have:=HP.out.len; have h2:=HP.out.le; have h3:=HQ.out; omega)
   have hpq:p+q≤n:=by have:=HPQ.out.le; rw [HL.out] at this; exact this
   have hne:w.heap.size≠b:=by omega
   obtain ⟨r1,r2,r3,r4,_⟩:=HR2.out
   obtain ⟨y1,y2,c0,c1',c2,c3,c4,c5,c6⟩:=H72.out
   by_cases h0:f=0
   ·subst h0
    have HV2:Hid (verAt kind s=(0,blanks (s.drop q),.mk kind v [])):=HV.out.trans (if_neg (by simp))
    have HG2:Hid (FitV v):=HG.out q v rfl
    clear HV HG
    have HR3:Hid (Rd (wc.setCell ⟨b,1,none⟩ (.int .i64 ((p:Int)+(q:Int)))) b A n c (p+q)):=HR2.out.move (p+q)
    have HM3:Hid (Moved b w (wc.setCell ⟨b,1,none⟩ (.int .i64 ((p:Int)+(q:Int))))):=HM2.out.move _
    have HK3:Hid (KeepS (From (w.heap.size+1)) wc (wc.setCell ⟨b,1,none⟩ (.int .i64 ((p:Int)+(q:Int))))):=KeepS.moved (Moved.at_ _) (fun h=>by unfold From at h; omega)
    have HRow3:Hid (Row (wc.setCell ⟨b,1,none⟩ (.int .i64 ((p:Int)+(q:Int)))) A n l):=row_keep HRow.out (HRw.out.keep HM3.out)
    go_wp2_with fail
    refine (pass_any b A n c (p+q) 0 l (s.drop q) _ HR3.out HRow3.out HPQ.out hpq).mono ?_
    rintro e W4 ⟨rfl,q4,hq4,hR4,hM4⟩
    rw [List.drop_zero] at hq4
    have HP4:=Lib.hid hq4
    have HM4:=Lib.hid (HM3.out.trans hM4)
    have HK4:=Lib.hid (HK3.out.trans (KeepS.moved hM4 (fun h=>by unfold From at h; omega)))
    have HR4:=Lib.hid hR4
    have HA4:=Lib.hid (srow_keepS HA2.out HK4.out HF1.out)
    have HB4:=Lib.hid (srow_keepS HB2.out HK4.out HF2.out)
    have H54:=Lib.hid (At5.moved (At5.moved H52.out (Moved.at_ (.int .i64 ((p:Int)+(q:Int)))) (by omega)) hM4 (by omega))
    have H74:Hid (RAt W4 w.heap.size (zeroRV 0)):=RAt.moved (RAt.moved (x:=zeroRV 0) H72.out (Moved.at_ (.int .i64 ((p:Int)+(q:Int)))) hne) hM4 hne
    clear hq4 hR4 hM4 HR3 HM3 HK3 HRow3 HR2 HM2 HA2 HB2 H52 H72 r1 r2 r3 r4 y1 y2 c0 c1' c2 c3 c4 c5 c6
    obtain ⟨y1,y2,c0,c1',c2,c3,c4,c5,c6⟩:=H74.out
    obtain ⟨_,_,g0,g1,g2,g3,g4⟩:=H54.out
    have hbe:=Nat.ne_of_gt hbv
    go_wp2
    exact bodyPost_ret (v:=.tuple #[.agg #[.int .i64 kind,v.a,v.b,v.c,.slice A1 v.pre.length c1,.slice B1 v.build.length d1,.slice none 0 0],.int .i64 0]) (by simp [results,Tryz.results160,go_sem,c0,c1',c2,c3,c4,c5,c6]) rfl (by rw [HV2.out]; exact rg_end (x:=⟨kind,v,A1,c1,B1,d1,none,0,0⟩) hbw (Lies.version kind v A1 c1 B1 d1 HA4.out HB4.out HF1.out HF2.out hc1 hd1 HG2.out) HP4.out HR4.out HM4.out)
   ·have hb1:((f:Int) != 0)=true:=by simp [h0]
    have hb2:((f:Int) == 0)=false:=by simp [h0]
    have HV2:Hid (verAt kind s=(f,s.drop q,noRng)):=HV.out.trans (if_pos h0)
    clear h0
    go_wp2
    exact bodyPost_ret (v:=.tuple #[.agg #[.int .i64 0,.int .u64 0,.int .u64 0,.int .u64 0,.slice none 0 0,.slice none 0 0,.slice none 0 0],.int .i64 f]) (by simp [results,Tryz.results160,go_sem,c0,c1',c2,c3,c4,c5,c6]) rfl (by rw [HV2.out]; exact rg_end (x:=zeroRV 0) hbw (Lies.zero _ _ 0) HPQ.out (HR2.out.move (p+q)) (HM2.out.move _))
end Go.Proofs.YtgfbflnhjpbceaaGreatDoor.Range
namespace Go.Proofs.YtgfbflnhjpbceaaGreatDoor.Span
open Go.RowKit Num Ident Semver Prec

theorem refSameS_any (A:Option Addr) (n ca:Nat) (l:List RSp) (B:Option Addr) (cb:Nat) (r:List RSp) (w:World) (hr:SpRow w A n l) (hr2:SpRow w B n r) (hn:n≤100000) (he:Zero l r n) :
  Calls Tryz.prog 13 #[.slice A n ca,.slice B n cb] w fun e w'=>e=.returned (.bool true)∧Below w.heap.size w w':=by
 have HR:=Lib.hid hr
 have HR2:=Lib.hid hr2
 have HE:=Lib.hid he
 clear hr hr2 he
 go_enter Tryz.func13,Tryz.ntmps13
 go_wp2
 go_loopw [5] (fun i W=>∃ k:Nat,k≤n∧i=.int .i64 k∧Below w.heap.size w W) (fun i _=>n - (intOf i).toNat)
 case atStart=>exact ⟨0,Nat.zero_le _,rfl,Below.refl _ _⟩
 case round =>
  obtain ⟨k,hk,rfl,hbel⟩:=hrel
  have HW:=Lib.hid hbel
  clear hbel
  by_cases hlt:k<n
  ·have R1:=Lib.hid (HR.out.kept HW.out)
   have R2:=Lib.hid (HR2.out.kept HW.out)
   obtain ⟨b,o,rfl,hb1,hc⟩:=R1.out.2.2 (by omega)
   obtain ⟨b2,o2,rfl,hb2,hc2⟩:=R2.out.2.2 (by omega)
   have C1:Hid (SpAt wr b (o+k * 12) (l.getD k default)):=hc k hlt
   have D1:Hid (SpAt wr b2 (o2+k * 12) (r.getD k default)):=hc2 k hlt
   have LS:=Lib.hid (R1.out.lies hlt)
   have LT:=Lib.hid (R2.out.lies hlt)
   have HZ:=Lib.hid (HE.out k hlt)
   clear hc hc2
   generalize l.getD k default=s at C1 LS HZ
   generalize r.getD k default=t at D1 LT HZ
   go_upto_region 6 with (fail)
   replace C1:Hid (SpAt wr.drew b (o+k * 12) s):=C1.out
   replace D1:Hid (SpAt wr.drew b2 (o2+k * 12) t):=D1.out
   replace LS:Hid (LiesS wr.drew s):=LS.out.kept (Below.refl _ _).drew
   replace LT:Hid (LiesS wr.drew t):=LT.out.kept (Below.refl _ _).drew
   replace HW:=Lib.hid HW.out.drew
   replace hb1:b<wr.drew.heap.size:=hb1
   replace hb2:b2<wr.drew.heap.size:=hb2
   refine wp_region_held_drew (S:=fun w'=>SpAt w' b (o+k * 12) s∧SpAt w' b2 (o2+k * 12) t) (by kernel_rfl) ⟨C1.out,D1.out⟩ (fun hHeld=>?_)
   refine tk 0 rfl (.slice (some ⟨b,o,none⟩) n ca) ?_
   refine tk 1 rfl (.int .i64 k) ?_
   refine tk 2 rfl (.pointer (some ⟨b,o+k * 12,none⟩)) ?_
   refine tk 3 rfl (.pointer (some ⟨b,o+k * 12,none⟩)) ?_
   refine tk 4 rfl s.lo ?_ fun w' hS'=>by obtain ⟨q0,q1,q2,q3,q4,q5,q6,q7,q8,q9,q10,q11⟩:=hS'.1.cells; go_simp
   refine tk 5 rfl (.slice (some ⟨b2,o2,none⟩) n cb) ?_
   refine tk 6 rfl (.int .i64 k) ?_
   refine tk 7 rfl (.pointer (some ⟨b2,o2+k * 12,none⟩)) ?_
   refine tk 8 rfl (.pointer (some ⟨b2,o2+k * 12,none⟩)) ?_
   refine tk 9 rfl t.lo ?_ fun w' hS'=>by obtain ⟨q0,q1,q2,q3,q4,q5,q6,q7,q8,q9,q10,q11⟩:=hS'.2.cells; go_simp
   refine cl 10 rfl fun K hK=>?_
   go_simp
   refine (refCompareC_any s.lo t.lo _ LS.out.lo LT.out.lo).mono ?_
   rintro e wq1 ⟨he,hb⟩
   rw [HZ.out.1] at he
   subst he
   replace C1:=Lib.hid (C1.out.kept hb hb1)
   replace D1:=Lib.hid (D1.out.kept hb hb2)
   replace LS:=Lib.hid (LS.out.kept hb)
   replace LT:=Lib.hid (LT.out.kept hb)
   replace HW:=Lib.hid (HW.out.trans (hb.mono HW.out.size))
   replace hb1:=Nat.lt_of_lt_of_le hb1 hb.size
   replace hb2:=Nat.lt_of_lt_of_le hb2 hb.size
   clear hb hHeld
   refine hK.out _ _ ⟨C1.out,D1.out⟩ (fun hHeld=>?_)
   clear hK K
   try simp only [Act.put,p1,p2,p3]
   refine tk 11 rfl (.bool false) ?_
   refine tk 12 rfl (.bool false) ?_
   refine tk 13 rfl (.slice (some ⟨b,o,none⟩) n ca) ?_
   refine tk 14 rfl (.int .i64 k) ?_
   refine tk 15 rfl (.pointer (some ⟨b,o+k * 12,none⟩)) ?_
   refine tk 16 rfl (.pointer (some ⟨b,o+k * 12+6,none⟩)) ?_
   refine tk 17 rfl s.hi ?_ fun w' hS'=>by obtain ⟨q0,q1,q2,q3,q4,q5,q6,q7,q8,q9,q10,q11⟩:=hS'.1.cells; go_simp
   refine tk 18 rfl (.slice (some ⟨b2,o2,none⟩) n cb) ?_
   refine tk 19 rfl (.int .i64 k) ?_
   refine tk 20 rfl (.pointer (some ⟨b2,o2+k * 12,none⟩)) ?_
   refine tk 21 rfl (.pointer (some ⟨b2,o2+k * 12+6,none⟩)) ?_
   refine tk 22 rfl t.hi ?_ fun w' hS'=>by obtain ⟨q0,q1,q2,q3,q4,q5,q6,q7,q8,q9,q10,q11⟩:=hS'.2.cells; go_simp
   refine cl 23 rfl fun K hK=>?_
   go_simp
   refine (refCompareC_any s.hi t.hi _ LS.out.hi LT.out.hi).mono ?_
   rintro e wq2 ⟨he,hb⟩
   rw [HZ.out.2] at he
   subst he
   replace C1:=Lib.hid (C1.out.kept hb hb1)
   replace D1:=Lib.hid (D1.out.kept hb hb2)
   replace LS:=Lib.hid (LS.out.kept hb)
   replace LT:=Lib.hid (LT.out.kept hb)
   replace HW:=Lib.hid (HW.out.trans (hb.mono HW.out.size))
   replace hb1:=Nat.lt_of_lt_of_le hb1 hb.size
   replace hb2:=Nat.lt_of_lt_of_le hb2 hb.size
   clear hb hHeld
   refine hK.out _ _ ⟨C1.out,D1.out⟩ (fun hHeld=>?_)
   clear hK K
   try simp only [Act.put,p1,p2,p3]
   refine tk 24 rfl (.bool false) ?_
   refine tk 25 rfl (.bool false) ?_
   refine wpAnyH_done (by kernel_rfl) ?_ _
   go_wp2
   exact ⟨⟨k+1,by omega,by go_num,HW.out⟩,by simp [intOf]; omega⟩
  ·go_wp2
   go_ret
   exact ⟨rfl,HW.out⟩
end Go.Proofs.YtgfbflnhjpbceaaGreatDoor.Span
namespace Go.Proofs.YtgfbflnhjpbceaaGreatDoor.Range
open Go.Lib Num Ident
variable {H:Type}
theorem cells_of_strs {enc:TypeId × Value→H} {P:Program} {w:World} {base:Nat} {sp:Nat→Bool} {held:Bool} {fuel:Nat} {t e:TypeId} {n:Nat} {cs:List Value} {bs:List (List UInt8)} {p:List MemPlace}
  (ht:P.underlying t=some (.array n e)) (he:P.underlying e=some .string) (hce:P.cellsOf e=1) (hct:P.cellsOf t=n)
  (h:DataW.trod enc P w base sp held fuel t cs=some (.agg (bs.map fun b=>.lit (.string b)),p)):cs=bs.map fun b=>Value.string (mk b):=by
 cases fuel with
 | zero=>simp [DataW.trod] at h
 | succ fuel =>
  simp only [DataW.trod,ht,hce,hct,Nat.mul_one] at h
  split at h
  ·rename_i hl
   obtain ⟨xs,hm,hx⟩:=Option.map_eq_some_iff.1 h
   have hxs:xs.map (·.1)=bs.map fun b=>(DataW.lit (.string b):DataW H):=by
    have:=congrArg Prod.fst hx
    simpa using this
   have hxl:xs.length=n:=by simpa using mapM_length hm
   have hzl:bs.length=n:=by
    have:=congrArg List.length hxs
    simp at this
    omega
   apply List.ext_getElem?
   intro i
   by_cases hi:i<n
   ·obtain ⟨b,hb,hf⟩:=mapM_at hm i i (by simp [hi])
    obtain ⟨s,hc,rfl,_⟩:=DataW.trod_string he hf
    have h1:cs[i]?=some (.string s):=by
     have:=congrArg (·[0]?) hc
     simpa [List.getElem?_take,List.getElem?_drop] using this
    have h2:(xs.map (·.1))[i]?=some (DataW.lit (.string s.data.toList):DataW H):=by simp [hb]
    rw [hxs] at h2
    simp only [List.getElem?_map,Option.map_eq_some_iff,DataW.lit.injEq,Lit.string.injEq] at h2
    obtain ⟨z',hz',e2⟩:=h2
    simp only [List.getElem?_map,hz',Option.map_some,h1,e2]
    rfl
   ·rw [List.getElem?_eq_none (by omega),List.getElem?_eq_none (by simp; omega)]
  ·cases h

theorem opsTab_of_head {W:World} {rest:List (String × DataW Unit)} {g:Nat} {t e:TypeId}
  (hg:Tryz.prog.globalNamed "ferrule/rangeexpr.ops"=some g) (hgn:g=0) (hty:(Tryz.prog.globals[g]?).map (·.type)=some t) (ht:Tryz.prog.underlying t=some (.array 8 e)) (he:Tryz.prog.underlying e=some .string) (hce:Tryz.prog.cellsOf e=1) (hct:Tryz.prog.cellsOf t=8)
  (h:laidMet Tryz.prog (("ferrule/rangeexpr.ops",.agg (ops.map fun b=>.lit (.string b))) :: rest) W):OpsTab W:=by
 obtain ⟨ps,⟨g',t',cs,fuel,p,q,hg',ht',hvar,hd,_,_⟩,_⟩:=h
 obtain rfl:=Option.some.inj (hg.symm.trans hg')
 obtain rfl:=Option.some.inj (hty.symm.trans ht')
 have hc:=cells_of_strs ht he hce hct hd
 intro i hi
 have:=World.var?_cell hg hvar i
 subst hgn
 rw [this,← Array.getElem?_toList,hc,List.getElem?_map]
 rw [List.getElem?_eq_getElem (show i<ops.length from hi)]
 simp [List.getD,List.getElem?_eq_getElem (show i<ops.length from hi)]
end Go.Proofs.YtgfbflnhjpbceaaGreatDoor.Range
