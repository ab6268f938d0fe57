/-
  What the theorem of the last text needs of these: IdGood, SvRefSmall, IdTexts, SvGood, PrCores. Conditions: as each theorem states.
-/
import Derived.Test.YtnpjklaaokiikaaGreatDoorSvA1
import Derived.Test.YtnpjklaaokiikaaGreatDoorSvA2
import Derived.Test.YtnpjklaaokiikaaGreatDoorSvA4
import Derived.Test.YtnpjklaaokiikaaGreatDoorSvA5
import Derived.Test.YtnpjklaaokiikaaGreatDoorSvA6
import Derived.Test.YtnpjklaaokiikaaGreatDoorSvA7
import Derived.StillTailTactics
import Derived.Deep.CutBlock
import Derived.Deep.DeepCutAuto
import Derived.Deep.RegionHeld3
import Derived.Test.YtnpjklaaokiikaaGreatDoorShelfJoin
set_option maxRecDepth 100000
set_option maxHeartbeats 25600000
namespace Go.Proofs.YtnpjklaaokiikaaGreatDoor.Ident
open Go.RowKit Num

def GoodJ (w:World) (A:Option Addr) (n c:Nat) (pre:Bool) (xs:List (List UInt8)) (a':Act) (w':World):Prop :=
 ∃ (k:Nat) (u6 u7 u8 u9 u10 u11 u12 u13 u14 u15 u16 u17 u18 u19 u20 u21 u22 u23 u24 u25 u26 u27 u28 u29 u30 u31 u32 u33:Value),Below w.heap.size w w'∧k≤n∧goodFrom pre (xs.drop k) k=goodFrom pre xs 0 ∧
  a'={ tmps:=#[.slice A n c,.bool pre,undef,undef,.bool false,.int .i64 k,u6,u7,u8,u9,u10,u11,u12,u13,u14,u15,u16,u17,u18,u19,u20,u21,u22,u23,u24,u25,u26,u27,u28,u29,u30,u31,u32,u33],defers:=[] }
def GoodM (n:Nat) (a':Act) (_:World):Nat:=n - (intOf (a'.tmps.getD 5 undef)).toNat
theorem good_any (A:Option Addr) (n c:Nat) (xs:List (List UInt8)) (pre:Bool) (w:World) (hr:SRow w A n xs) (hn:n≤maxLen) (hx:∀ x ∈ xs,x.length≤maxLen) :
  Calls Tryz.prog 125 #[.slice A n c,.bool pre] w fun e w'=>e=.returned (.bool (goodFrom pre xs 0))∧Below w.heap.size w w':=by
 have HN:=Lib.hid hn
 unfold maxLen at hn
 have HR:=Lib.hid hr
 have HLX:=Lib.hid hr.1
 have HX:=Lib.hid hx
 clear hr hx
 go_enter Tryz.func125,Tryz.ntmps125
 go_wp2
 refine wp_scope_back 0 (GoodJ w A n c pre xs) (GoodM n) rfl ?_ ?_
 ·rintro a' w1 ⟨k,u6,u7,u8,u9,u10,u11,u12,u13,u14,u15,u16,u17,u18,u19,u20,u21,u22,u23,u24,u25,u26,u27,u28,u29,u30,u31,u32,u33,hb1,hk,hgo,rfl⟩
  have HB1:=Lib.hid hb1
  have HG:=Lib.hid hgo
  clear hb1 hgo
  have hz1:=HB1.out.size
  by_cases h1:k=n
  ·have HF:Hid (goodFrom pre xs 0=true):=by
    unfold Hid
    rw [← HG.out,List.drop_eq_nil_of_le (by rw [HLX.out,h1]; exact Nat.le_refl _),goodFrom]
   have hb:((k:Int) == (n:Int))=true:=by simp [h1]
   clear h1
   go_wp2
   simp only [Exit.jump]
   go_ret
   exact ⟨by rw [HF.out]; rfl,HB1.out⟩
  have hlt:k<n:=by omega
  have hb:((k:Int) == (n:Int))=false:=by simp; omega
  clear h1
  obtain ⟨g,o,rfl,hg,hc1⟩:=(HR.out.kept HB1.out).2 (by omega)
  have hx1:=hc1 k hlt
  clear hc1
  have HKL:Hid (k<xs.length):=by unfold Hid; rw [HLX.out]; exact hlt
  have HST:=Lib.hid (fun h1 h2=>goodFrom_step (pre:=pre) HKL.out h1 h2)
  have HSP:=Lib.hid (fun h=>goodFrom_stop (pre:=pre) HKL.out h)
  have HZ:=Lib.hid (HX.out (xs.getD k []) (by have h:=HKL.out; simp [List.getD,List.getElem?_eq_getElem h]))
  have HKM:Hid (k≤maxLen):=by have:=HN.out; unfold Hid; omega
  generalize xs.getD k []=s at hx1 HST HSP HZ
  obtain ⟨f,hf⟩:∃ f,fault s k pre=f:=⟨_,rfl⟩
  have HFA:Hid (∀ W,Calls Tryz.prog 175 #[.string (mk s),.int .i64 k,.bool pre] W fun e w'=>e=.returned (.int .i64 f)∧Below W.heap.size W w'):=fun W=>by
   have:=fault_any (mk s) k pre W HZ.out HKM.out
   rw [mk_list,hf] at this; exact this
  rw [hf] at HST HSP
  clear hf
  go_upto_region 4 with (fail)
  go_cut [31] (fun x wx=>x=.bool (!(f == 0 && lead s == s.length))∧Below w.heap.size w wx)
  case first =>
   by_cases hf0:f=0
   ·subst hf0
    have HF:Hid ((!((0:Nat) == 0 && lead s == s.length))=(((lead s:Nat):Int) != (s.length:Int))):=by
     unfold Hid
     rw [Bool.eq_iff_iff]; simp; omega
    refine wp_region_held_drew (S:=fun w'=>w'.cell? ⟨g,o+k,none⟩=some (.string (mk s))) (by kernel_rfl) hx1 (fun hHeld=>?_)
    refine tk 0 rfl (.slice (some ⟨g,o,none⟩) n c) ?_
    refine tk 1 rfl (.int .i64 k) ?_
    refine tk 2 rfl (.pointer (some ⟨g,o+k,none⟩)) ?_
    refine tk 3 rfl (.string (mk s)) ?_
    refine tk 4 rfl (.int .i64 k) ?_
    refine tk 5 rfl (.bool pre) ?_
    refine cl 6 rfl fun K hK=>?_
    go_simp
    refine (HFA.out _).mono ?_
    rintro e w2 ⟨rfl,hb2⟩
    have hx2:w2.cell? ⟨g,o+k,none⟩=some (.string (mk s)):=(hb2.cell (p:=⟨g,o+k,none⟩) (by simpa using hg)).trans (by simpa using hx1)
    obtain ⟨cc,W,hcc,hcv,hrr,hbW⟩:=run_bytes w2 (mk s) HZ.out
    have hxW:W.cell? ⟨g,o+k,none⟩=some (.string (mk s)):=(hbW.cell (p:=⟨g,o+k,none⟩) (Nat.lt_of_lt_of_le (by simpa using hg) hb2.size)).trans hx2
    have HBB:=Lib.hid ((HB1.out.drew.trans (hb2.mono hz1)).trans (hbW.mono (Nat.le_trans hz1 hb2.size)))
    have HRR:=Lib.hid hrr
    clear hb2 hrr hbW
    refine hK.out _ _ hx2 (fun hHeld=>?_)
    clear hK K
    try simp only [Act.put,p1,p2,p3]
    refine tk 7 rfl (.bool false) ?_
    refine tk 8 rfl (.bool false) ?_
    refine tk 9 rfl (.slice (some ⟨g,o,none⟩) n c) ?_
    refine tk 10 rfl (.int .i64 k) ?_
    refine tk 11 rfl (.pointer (some ⟨g,o+k,none⟩)) ?_
    refine tk 12 rfl (.string (mk s)) ?_
    refine tk 15 rfl (.slice (some ⟨g,o,none⟩) n c) ?_
    refine tk 16 rfl (.int .i64 k) ?_
    refine tk 17 rfl (.pointer (some ⟨g,o+k,none⟩)) ?_
    refine tk 18 rfl (.string (mk s)) ?_
    refine tk 19 rfl (.int .i64 (mk s).size) ?_
    refine cl 13 rfl fun K hK=>?_
    go_simp
    refine hK.out _ _ hxW (fun hHeld=>?_)
    clear hK K
    try simp only [Act.put,p1,p2,p3]
    refine cl 14 rfl fun K hK=>?_
    go_simp
    refine (length_any _ _ _ _ _ HRR.out).mono ?_
    rintro e w3 ⟨rfl,rfl⟩
    refine hK.out _ _ hxW (fun hHeld=>?_)
    clear hK K
    try simp only [Act.put,p1,p2,p3]
    refine tk 20 rfl (.bool (((lead s:Nat):Int) != (s.length:Int))) ?_ fun w' hS'=>by (go_simp; rfl)
    refine tk 21 rfl (.bool (((lead s:Nat):Int) != (s.length:Int))) ?_
    refine wpAnyH_done (by kernel_rfl) ?_ _
    go_wp2
    go_meet
    exact ⟨by rw [HF.out],HBB.out⟩
   ·have hn1:((f:Int) == 0)=false:=by simp [hf0]
    have hn2:((f:Int) != 0)=true:=by simp [hf0]
    have HF:Hid ((!(f == 0 && lead s == s.length))=true):=by unfold Hid; simp [hf0]
    refine wp_region_held_drew (S:=fun w'=>w'.cell? ⟨g,o+k,none⟩=some (.string (mk s))) (by kernel_rfl) hx1 (fun hHeld=>?_)
    refine tk 0 rfl (.slice (some ⟨g,o,none⟩) n c) ?_
    refine tk 1 rfl (.int .i64 k) ?_
    refine tk 2 rfl (.pointer (some ⟨g,o+k,none⟩)) ?_
    refine tk 3 rfl (.string (mk s)) ?_
    refine tk 4 rfl (.int .i64 k) ?_
    refine tk 5 rfl (.bool pre) ?_
    refine cl 6 rfl fun K hK=>?_
    go_simp
    refine (HFA.out _).mono ?_
    rintro e w2 ⟨rfl,hb2⟩
    have hx2:w2.cell? ⟨g,o+k,none⟩=some (.string (mk s)):=(hb2.cell (p:=⟨g,o+k,none⟩) (by simpa using hg)).trans (by simpa using hx1)
    have HBB:=Lib.hid (HB1.out.drew.trans (hb2.mono hz1))
    clear hb2
    refine hK.out _ _ hx2 (fun hHeld=>?_)
    clear hK K
    try simp only [Act.put,p1,p2,p3]
    refine tk 7 rfl (.bool true) ?_
    refine tk 8 rfl (.bool true) ?_
    refine sk 9 rfl ?_
    refine sk 10 rfl ?_
    refine sk 11 rfl ?_
    refine sk 12 rfl ?_
    refine sk 13 rfl ?_
    refine sk 14 rfl ?_
    refine sk 15 rfl ?_
    refine sk 16 rfl ?_
    refine sk 17 rfl ?_
    refine sk 18 rfl ?_
    refine sk 19 rfl ?_
    refine sk 20 rfl ?_
    refine tk 21 rfl (.bool true) ?_
    refine wpAnyH_done (by kernel_rfl) ?_ _
    go_wp2
    go_meet
    exact ⟨by rw [HF.out],HBB.out⟩
  case rest =>
   obtain ⟨rfl,hbx⟩:=hcut
   have HBX:=Lib.hid hbx; clear hbx
   cases hq:(f == 0 && lead s == s.length)
   ·have HF:Hid (goodFrom pre xs 0=false):=by
     unfold Hid
     rw [← HG.out]
     apply HSP.out
     rw [Bool.and_eq_false_iff] at hq
     rcases hq with h | h
     ·exact .inl (by simpa using h)
     ·exact .inr (by simpa using h)
    clear hq
    simp only [Bool.not_false]
    go_wp2
    simp only [Exit.jump]
    go_ret
    exact ⟨by rw [HF.out]; rfl,HBX.out⟩
   ·have HF:Hid (goodFrom pre (xs.drop (k+1)) (k+1)=goodFrom pre xs 0):=by
     unfold Hid
     rw [Bool.and_eq_true,beq_iff_eq,beq_iff_eq] at hq
     rw [← HG.out,← HST.out hq.1 hq.2]
    clear hq
    simp only [Bool.not_true]
    go_wp2
    go_step3
    rw [show ((k:Int)+1)=((k+1:Nat):Int) from rfl]
    refine ⟨rfl,⟨k+1,_,_,_,_,_,_,_,_,_,_,_,_,_,_,_,_,_,_,_,_,_,_,_,_,_,_,_,_,HBX.out,by omega,HF.out,rfl⟩,?_⟩
    simp [GoodM,intOf]; omega
 ·intro HP
  go_wp2
  go_step3
  rename_i hK
  exact hK _ _ (HP.out _ _ ⟨0,_,_,_,_,_,_,_,_,_,_,_,_,_,_,_,_,_,_,_,_,_,_,_,_,_,_,_,_,Below.refl _ _,by omega,rfl,rfl⟩)
end Go.Proofs.YtnpjklaaokiikaaGreatDoor.Ident
namespace Go.Proofs.YtnpjklaaokiikaaGreatDoor.Semver
open Go.RowKit Num Ident

theorem refGood_all (v:Ver) (A:Option Addr) (c:Nat) (B:Option Addr) (d:Nat) (w:World) (hr1:SRow w A v.pre.length v.pre) (hr2:SRow w B v.build.length v.build) (hn1:v.pre.length≤maxLen) (hn2:v.build.length≤maxLen) (hs1:∀ x ∈ v.pre,x.length≤maxLen) (hs2:∀ x ∈ v.build,x.length≤maxLen) :
  Calls Tryz.prog 76 #[.agg #[v.a,v.b,v.c,.slice A v.pre.length c,.slice B v.build.length d]] w fun e w'=>e=.returned (.bool (goodV v))∧Below w.heap.size w w':=by
 have HBa:Hid (Below w.heap.size w (w.alloc (.cells #[v.a,v.b,v.c,.slice A v.pre.length c,.slice B v.build.length d] 34))):=(Below.refl _ _).alloc (Nat.le_refl _) _
 have R1:=Lib.hid (hr1.kept HBa.out)
 have R2:=Lib.hid (hr2.kept HBa.out)
 have S1:=Lib.hid hs1
 have S2:=Lib.hid hs2
 have N1:=Lib.hid hn1
 have N2:=Lib.hid hn2
 have HG:Hid (goodV v=(heldB v.a v.b v.c && (goodFrom true v.pre 0 && goodFrom false v.build 0))):=rfl
 clear hr1 hr2 hs1 hs2 hn1 hn2
 by_cases h1:(v.a:Int)<9223372036854775808
 ·by_cases h2:(v.b:Int)<9223372036854775808
  ·by_cases h3:(v.c:Int)<9223372036854775808
   ·have HH:=Lib.hid (held_all h1 h2 h3)
    go_enter Tryz.func76,Tryz.ntmps76
    go_wp2_with fail
    refine (ref_good_all _ _ _ v.pre true _ R1.out N1.out S1.out).mono ?_
    rintro e w' ⟨rfl,rfl⟩
    generalize goodFrom true v.pre 0=g2 at HG ⊢
    cases g2
    ·go_wp2
     go_ret
     exact ⟨by rw [HG.out,HH.out]; rfl,HBa.out⟩
    go_wp2_with fail
    refine (ref_good_all _ _ _ v.build false _ R2.out N2.out S2.out).mono ?_
    rintro e w' ⟨rfl,rfl⟩
    go_wp2
    go_ret
    exact ⟨by rw [HG.out,HH.out]; simp,HBa.out⟩
   ·have HH:=Lib.hid (held_not3 (x:=v.a) (y:=v.b) h3)
    go_enter Tryz.func76,Tryz.ntmps76
    go_wp2
    go_ret
    exact ⟨by rw [HG.out,HH.out]; rfl,HBa.out⟩
  ·have HH:=Lib.hid (held_not2 (x:=v.a) (z:=v.c) h2)
   go_enter Tryz.func76,Tryz.ntmps76
   go_wp2
   go_ret
   exact ⟨by rw [HG.out,HH.out]; rfl,HBa.out⟩
 ·have HH:=Lib.hid (held_not1 (y:=v.b) (z:=v.c) h1)
  go_enter Tryz.func76,Tryz.ntmps76
  go_wp2
  go_ret
  exact ⟨by rw [HG.out,HH.out]; rfl,HBa.out⟩
theorem refSame_any (u v:Ver) (A1 A2 B1 B2:Option Addr) (c1 c2 d1 d2:Nat) (w:World) (r1:SRow w A1 u.pre.length u.pre) (r2:SRow w A2 u.build.length u.build) (q1:SRow w B1 v.pre.length v.pre) (q2:SRow w B2 v.build.length v.build)
  (hn1:u.pre.length≤maxLen) (hn2:u.build.length≤maxLen) (hn3:v.pre.length≤maxLen) (hn4:v.build.length≤maxLen) :
  Calls Tryz.prog 42 #[.agg #[u.a,u.b,u.c,.slice A1 u.pre.length c1,.slice A2 u.build.length c2],.agg #[v.a,v.b,v.c,.slice B1 v.pre.length d1,.slice B2 v.build.length d2]] w fun e w'=>e=.returned (.bool (sameV u v))∧Below w.heap.size w w':=by
 have HBa:Hid (Below w.heap.size w ((w.alloc (.cells #[u.a,u.b,u.c,.slice A1 u.pre.length c1,.slice A2 u.build.length c2] 34)).alloc (.cells #[v.a,v.b,v.c,.slice B1 v.pre.length d1,.slice B2 v.build.length d2] 34))):=((Below.refl _ _).alloc (Nat.le_refl _) _).alloc (by simp) _
 have R1:=Lib.hid (r1.kept HBa.out)
 have R2:=Lib.hid (r2.kept HBa.out)
 have Q1:=Lib.hid (q1.kept HBa.out)
 have Q2:=Lib.hid (q2.kept HBa.out)
 have N1:=Lib.hid hn1
 have N2:=Lib.hid hn2
 have N3:=Lib.hid hn3
 have N4:=Lib.hid hn4
 have K1:Hid (At5 ((w.alloc (.cells #[u.a,u.b,u.c,.slice A1 u.pre.length c1,.slice A2 u.build.length c2] 34)).alloc (.cells #[v.a,v.b,v.c,.slice B1 v.pre.length d1,.slice B2 v.build.length d2] 34)) w.heap.size u.a u.b u.c (.slice A1 u.pre.length c1) (.slice A2 u.build.length c2)):=(At5.new w 34 _ _ _ _ _).kept ((Below.refl _ _).alloc (Nat.le_refl _) _) (by simp)
 have K2:Hid (At5 ((w.alloc (.cells #[u.a,u.b,u.c,.slice A1 u.pre.length c1,.slice A2 u.build.length c2] 34)).alloc (.cells #[v.a,v.b,v.c,.slice B1 v.pre.length d1,.slice B2 v.build.length d2] 34)) (w.heap.size+1) v.a v.b v.c (.slice B1 v.pre.length d1) (.slice B2 v.build.length d2)):=by
  have:=At5.new (w.alloc (.cells #[u.a,u.b,u.c,.slice A1 u.pre.length c1,.slice A2 u.build.length c2] 34)) 34 v.a v.b v.c (.slice B1 v.pre.length d1) (.slice B2 v.build.length d2)
  rw [size_alloc] at this; exact this
 clear r1 r2 q1 q2 hn1 hn2 hn3 hn4
 by_cases h1:u.a=v.a
 ·have e1:((u.a:Int) == (v.a:Int))=true:=by simp [h1]
  by_cases h2:u.b=v.b
  ·have e2:((u.b:Int) == (v.b:Int))=true:=by simp [h2]
   by_cases h3:u.c=v.c
   ·have e3:((u.c:Int) == (v.c:Int))=true:=by simp [h3]
    have HF:Hid (sameV u v=(sameB u.pre v.pre && sameB u.build v.build)):=by unfold Hid sameV; rw [decide_eq_true ⟨h1,h2,h3⟩]; rfl
    clear h1 h2 h3
    go_enter Tryz.func42,Tryz.ntmps42
    go_upto_region 1 with (fail)
    generalize ((w.alloc (.cells #[u.a,u.b,u.c,.slice A1 u.pre.length c1,.slice A2 u.build.length c2] 34)).alloc (.cells #[v.a,v.b,v.c,.slice B1 v.pre.length d1,.slice B2 v.build.length d2] 34))=W at HBa R1 R2 Q1 Q2 K1 K2 ⊢
    have hz:=K2.out.1
    have hzw:=HBa.out.size
    obtain ⟨_,_,x0,x1,x2,x3,x4⟩:=K1.out
    obtain ⟨_,_,y0,y1,y2,y3,y4⟩:=K2.out
    go_wp2_with fail
    refine (same_any _ _ _ u.pre _ _ _ v.pre _ R1.out Q1.out N1.out N3.out).mono ?_
    rintro e w1 ⟨rfl,hb1⟩
    have L1:=Lib.hid (K1.out.kept hb1 (by omega))
    have L2:=Lib.hid (K2.out.kept hb1 (by omega))
    have R2':=Lib.hid (R2.out.kept hb1)
    have Q2':=Lib.hid (Q2.out.kept hb1)
    have HB1:=Lib.hid (HBa.out.trans (hb1.mono hzw))
    have hz1:=HB1.out.size
    clear hb1 x0 x1 x2 x3 x4 y0 y1 y2 y3 y4
    obtain ⟨_,_,x0,x1,x2,x3,x4⟩:=L1.out
    obtain ⟨_,_,y0,y1,y2,y3,y4⟩:=L2.out
    generalize sameB u.pre v.pre=g1 at HF ⊢
    cases g1
    ·go_wp2
     go_ret
     exact ⟨by rw [HF.out]; rfl,HB1.out⟩
    go_wp2_with fail
    refine (same_any _ _ _ u.build _ _ _ v.build _ R2'.out Q2'.out N2.out N4.out).mono ?_
    rintro e w2 ⟨rfl,hb2⟩
    have HB2:=Lib.hid (HB1.out.trans (hb2.mono hz1))
    clear hb2 x0 x1 x2 x3 x4 y0 y1 y2 y3 y4
    go_wp2
    go_ret
    exact ⟨by rw [HF.out]; simp,HB2.out⟩
   ·have e3:((u.c:Int) == (v.c:Int))=false:=by simp; omega
    have HF:=Lib.hid (sameV_no (u:=u) (v:=v) fun h=>h3 h.2.2)
    clear h1 h2 h3
    go_enter Tryz.func42,Tryz.ntmps42
    go_wp2
    go_ret
    exact ⟨by rw [HF.out]; rfl,HBa.out⟩
  ·have e2:((u.b:Int) == (v.b:Int))=false:=by simp; omega
   have HF:=Lib.hid (sameV_no (u:=u) (v:=v) fun h=>h2 h.2.1)
   clear h1 h2
   go_enter Tryz.func42,Tryz.ntmps42
   go_wp2
   go_ret
   exact ⟨by rw [HF.out]; rfl,HBa.out⟩
 ·have e1:((u.a:Int) == (v.a:Int))=false:=by simp; omega
  have HF:=Lib.hid (sameV_no (u:=u) (v:=v) fun h=>h1 h.1)
  clear h1
  go_enter Tryz.func42,Tryz.ntmps42
  go_wp2
  go_ret
  exact ⟨by rw [HF.out]; rfl,HBa.out⟩
end Go.Proofs.YtnpjklaaokiikaaGreatDoor.Semver
namespace Go.Proofs.YtnpjklaaokiikaaGreatDoor.Ident
open Go.RowKit Num

theorem text_any (A:Option Addr) (n c:Nat) (xs:List (List UInt8)) (w:World) (hr:SRow w A n xs) (hc:n≤c) (hs:shortB xs=true) :
  Calls Tryz.prog 169 #[.slice A n c] w fun e w'=>e=.returned (.string (mk (joined xs)))∧Below w.heap.size w w':=by
 have HJ:Hid (∀ W,W=w→Calls Tryz.prog 210 #[.slice A n c,.string ⟨#[46]⟩] W fun e w'=>e=.returned (.string (mk (joined xs)))∧Below w.heap.size w w'):=by
  rintro W rfl
  have hn:=hr.1
  rw [shortB_iff] at hs
  have hle:=joined_le xs hs.2
  rcases Nat.eq_zero_or_pos n with h0 | h0
  ·subst h0
   have e:xs=[]:=List.eq_nil_of_length_eq_zero hn
   subst e
   refine (Tryz.strings_Join_none A c ⟨#[46]⟩ W).mono ?_
   rintro e w' ⟨rfl,rfl⟩
   exact ⟨rfl,Below.refl _ _⟩
  ·obtain ⟨b,o,rfl,hb,hcell⟩:=hr.2 h0
   have e1:(xs.map mk).map (fun x:ByteArray=>x.data.toList)=xs:=by
    rw [List.map_map]; exact List.map_id xs
   have:=Tryz.strings_Join b o c (xs.map mk) ⟨#[46]⟩ W (fun j x hx=>by
    have hj:j<xs.length:=by have:=(List.getElem?_eq_some_iff.1 hx).1; rwa [List.length_map] at this
    have hx2:x=mk (xs.getD j []):=by
     rw [List.getElem?_map,List.getElem?_eq_getElem hj] at hx
     simp at hx
     rw [← hx]; simp [List.getD,List.getElem?_eq_getElem hj]
    rw [hx2]; exact hcell j (by omega)) hb (by rw [List.length_map]; omega) (by rw [List.length_map]; omega) (by
     rw [e1]
     show (joined xs).length≤_
     omega)
   rw [e1,List.length_map,hn] at this
   exact this
 clear hr hs
 go_enter Tryz.func169,Tryz.ntmps169
 go_wp2_with fail
 refine (HJ.out _ rfl).mono ?_
 rintro e w1 ⟨rfl,hb1⟩
 go_wp2
 go_ret
 exact ⟨rfl,hb1⟩
end Go.Proofs.YtnpjklaaokiikaaGreatDoor.Ident
namespace Go.Proofs.YtnpjklaaokiikaaGreatDoor.Semver
open Go.RowKit Num Ident

def HeldAt (x y z i:Nat):Prop:=i=0∨(i=1∧x≤maxField)∨(i=2∧x≤maxField∧y≤maxField)∨(i=3∧x≤maxField∧y≤maxField∧z≤maxField)
def HeldJ (w:World) (x y z:Nat) (a':Act) (w':World):Prop :=
 ∃ (i:Nat) (u4 u5 u6 u7 u8 u9 u10 u11:Value),w'=w.alloc (.cells #[.int .u64 x,.int .u64 y,.int .u64 z] 174)∧HeldAt x y z i ∧
  a'={ tmps:=#[.agg #[.int .u64 x,.int .u64 y,.int .u64 z],.pointer (some ⟨w.heap.size,0,none⟩),.bool false,.int .i64 i,u4,u5,u6,u7,u8,u9,u10,u11],defers:=[] }
def HeldM (a':Act) (_:World):Nat:=4 - (intOf (a'.tmps.getD 3 undef)).toNat
theorem held_any (x y z:Nat) (w:World) :
  Calls Tryz.prog 124 #[.agg #[.int .u64 x,.int .u64 y,.int .u64 z]] w fun e w'=>e=.returned (.bool (heldB x y z))∧Below w.heap.size w w':=by
 have HB:Hid (Below w.heap.size w (w.alloc (.cells #[.int .u64 x,.int .u64 y,.int .u64 z] 174))):=(Below.refl _ _).alloc (Nat.le_refl _) _
 go_enter Tryz.func124,Tryz.ntmps124
 go_wp2
 refine wp_scope_back 0 (HeldJ w x y z) HeldM rfl ?_ ?_
 ·rintro a' w1 ⟨i,u4,u5,u6,u7,u8,u9,u10,u11,rfl,hat,rfl⟩
  rcases hat with rfl | ⟨rfl,h1⟩ | ⟨rfl,h1,h2⟩ | ⟨rfl,h1,h2,h3⟩
  ·by_cases hx:(x:Int)≤9223372036854775807
   ·have HX:=Lib.hid (field_le hx)
    go_wp2
    go_step3
    refine ⟨rfl,⟨1,_,_,_,_,_,_,_,_,rfl,.inr (.inl ⟨rfl,HX.out⟩),rfl⟩,?_⟩
    simp [HeldM,intOf]
   ·have HF:Hid (heldB x y z=false):=heldB_no fun hh=>field_no hx hh.1
    have hx2:(9223372036854775807:Int)<(x:Int):=by omega
    clear hx
    go_wp2
    simp only [Exit.jump]
    go_ret
    exact ⟨by rw [HF.out]; rfl,HB.out⟩
  ·have H1:=Lib.hid h1; clear h1
   by_cases hx:(y:Int)≤9223372036854775807
   ·have HX:=Lib.hid (field_le hx)
    go_wp2
    go_step3
    refine ⟨rfl,⟨2,_,_,_,_,_,_,_,_,rfl,.inr (.inr (.inl ⟨rfl,H1.out,HX.out⟩)),rfl⟩,?_⟩
    simp [HeldM,intOf]
   ·have HF:Hid (heldB x y z=false):=heldB_no fun hh=>field_no hx hh.2.1
    have hx2:(9223372036854775807:Int)<(y:Int):=by omega
    clear hx
    go_wp2
    simp only [Exit.jump]
    go_ret
    exact ⟨by rw [HF.out]; rfl,HB.out⟩
  ·have H1:=Lib.hid h1; clear h1; have H2:=Lib.hid h2; clear h2
   by_cases hx:(z:Int)≤9223372036854775807
   ·have HX:=Lib.hid (field_le hx)
    go_wp2
    go_step3
    refine ⟨rfl,⟨3,_,_,_,_,_,_,_,_,rfl,.inr (.inr (.inr ⟨rfl,H1.out,H2.out,HX.out⟩)),rfl⟩,?_⟩
    simp [HeldM,intOf]
   ·have HF:Hid (heldB x y z=false):=heldB_no fun hh=>field_no hx hh.2.2
    have hx2:(9223372036854775807:Int)<(z:Int):=by omega
    clear hx
    go_wp2
    simp only [Exit.jump]
    go_ret
    exact ⟨by rw [HF.out]; rfl,HB.out⟩
  ·have HF:=Lib.hid (heldB_yes h1 h2 h3)
   clear h1 h2 h3
   go_wp2
   simp only [Exit.jump]
   go_ret
   exact ⟨by rw [HF.out]; rfl,HB.out⟩
 ·intro HP
  go_wp2
  go_step3
  rename_i hK
  exact hK _ _ (HP.out _ _ ⟨0,_,_,_,_,_,_,_,_,rfl,.inl rfl,rfl⟩)
theorem vgood_any (v:Ver) (A:Option Addr) (c:Nat) (B:Option Addr) (d:Nat) (w:World) (hr1:SRow w A v.pre.length v.pre) (hr2:SRow w B v.build.length v.build)
  (hn1:v.pre.length≤maxLen) (hn2:v.build.length≤maxLen) (hx1:∀ x ∈ v.pre,x.length≤maxLen) (hx2:∀ x ∈ v.build,x.length≤maxLen) :
  Calls Tryz.prog 67 #[.agg #[v.a,v.b,v.c,.slice A v.pre.length c,.slice B v.build.length d]] w fun e w'=>e=.returned (.bool (goodV v))∧Below w.heap.size w w':=by
 have R1:=Lib.hid hr1
 have R2:=Lib.hid hr2
 have N1:=Lib.hid hn1
 have N2:=Lib.hid hn2
 have X1:=Lib.hid hx1
 have X2:=Lib.hid hx2
 clear hr1 hr2 hn1 hn2 hx1 hx2
 have HBa:=Lib.hid ((Below.refl w.heap.size w).alloc (Nat.le_refl _) (.cells #[v.a,v.b,v.c,.slice A v.pre.length c,.slice B v.build.length d] 34))
 have K0:=Lib.hid (At5.new w 34 v.a v.b v.c (.slice A v.pre.length c) (.slice B v.build.length d))
 have HG:Hid (goodV v=(heldB v.a v.b v.c && (goodFrom true v.pre 0 && goodFrom false v.build 0))):=rfl
 go_enter Tryz.func67,Tryz.ntmps67
 go_wp2_with fail
 refine (coreOf_any _ _ _ _ _ _).mono ?_
 rintro e w1 ⟨rfl,hb1⟩
 have K1:=Lib.hid (K0.out.kept hb1 (by simp))
 have B1:=Lib.hid (HBa.out.trans (hb1.mono (by simp)))
 have hz1:=K1.out.1
 clear hb1 K0 HBa
 go_wp2_with fail
 refine (held_any _ _ _ _).mono ?_
 rintro e w2 ⟨rfl,hb2⟩
 have K2:=Lib.hid (K1.out.kept hb2 (by omega))
 have B2:=Lib.hid (B1.out.trans (hb2.mono (by omega)))
 have hz2:=K2.out.1
 clear hb2 K1 B1
 generalize heldB v.a v.b v.c=g1 at HG ⊢
 obtain ⟨_,_,x0,x1,x2,x3,x4⟩:=K2.out
 cases g1
 ·go_wp2
  go_ret
  exact ⟨by rw [HG.out]; rfl,B2.out⟩
 go_wp2_with fail
 refine (good_any _ _ _ v.pre true _ (R1.out.kept B2.out) N1.out X1.out).mono ?_
 rintro e w3 ⟨rfl,hb3⟩
 have K3:=Lib.hid (K2.out.kept hb3 (by omega))
 have B3:=Lib.hid (B2.out.trans (hb3.mono (by omega)))
 clear hb3 x0 x1 x2 x3 x4
 generalize goodFrom true v.pre 0=g2 at HG ⊢
 obtain ⟨hz3,_,x0,x1,x2,x3,x4⟩:=K3.out
 cases g2
 ·go_wp2
  go_ret
  exact ⟨by rw [HG.out]; rfl,B3.out⟩
 go_wp2_with fail
 refine (good_any _ _ _ v.build false _ (R2.out.kept B3.out) N2.out X2.out).mono ?_
 rintro e w4 ⟨rfl,hb4⟩
 have B4:=Lib.hid (B3.out.trans (hb4.mono (by omega)))
 clear hb4 x0 x1 x2 x3 x4
 go_wp2
 go_ret
 exact ⟨by rw [HG.out]; simp,B4.out⟩
end Go.Proofs.YtnpjklaaokiikaaGreatDoor.Semver
namespace Go.Proofs.YtnpjklaaokiikaaGreatDoor.Prec
open Go.RowKit Num Ident Semver

theorem cmpU_any (x y:Nat) (w:World) :
  Calls Tryz.prog 232 #[.int .u64 x,.int .u64 y] w fun e w'=>e=.returned (.int .i64 (ordN x y))∧w=w':=by
 rcases Nat.lt_trichotomy x y with h | h | h
 ·have HF:=Lib.hid (ordN_lt h)
  go_enter Tryz.func232,Tryz.ntmps232
  go_wp2
  go_ret
  exact ⟨by rw [HF.out]; rfl,rfl⟩
 ·have HF:=Lib.hid (ordN_eq h)
  subst h
  go_enter Tryz.func232,Tryz.ntmps232
  go_wp2
  go_ret
  exact ⟨by rw [HF.out]; rfl,rfl⟩
 ·have HF:=Lib.hid (ordN_gt h)
  go_enter Tryz.func232,Tryz.ntmps232
  go_wp2
  go_ret
  exact ⟨by rw [HF.out]; rfl,rfl⟩

theorem coreOf_anyD (a b c:Int) (x y:Value) (w:World) :
  Calls Tryz.prog 196 #[.agg #[.int .u64 a,.int .u64 b,.int .u64 c,x,y]] w fun e w'=>e=.returned (.agg #[.int .u64 a,.int .u64 b,.int .u64 c])∧BelowD w.heap.size w w':=by
 go_enter Tryz.func196,Tryz.ntmps196
 go_wp2
 exact bodyPost_ret (v:=.agg #[.int .u64 a,.int .u64 b,.int .u64 c]) (by simp [results,Tryz.results196,go_sem]) rfl ⟨rfl,((BelowD.refl _ _).alloc (Nat.le_refl _) _).alloc (by simp) _⟩
theorem coreOf_any (a b c:Int) (x y:Value) (w:World) :
  Calls Tryz.prog 196 #[.agg #[.int .u64 a,.int .u64 b,.int .u64 c,x,y]] w fun e w'=>e=.returned (.agg #[.int .u64 a,.int .u64 b,.int .u64 c])∧Below w.heap.size w w':=dropD (coreOf_anyD a b c x y w)

def CoresAt (u v:Ver) (i:Nat):Prop:=i=0∨(i=1∧u.a=v.a)∨(i=2∧u.a=v.a∧u.b=v.b)
def CoresJ (w:World) (u v:Ver) (a':Act) (w':World):Prop :=
 ∃ (i:Nat) (u6 u7 u8 u9 u10 u11 u12 u13 u14 u15 u16 u17 u18 u19 u20 u21 u22 u23 u24:Value),BelowD w.heap.size w w'∧At3 w' w.heap.size u.a u.b u.c∧At3 w' (w.heap.size+1) v.a v.b v.c∧CoresAt u v i∧¬ (u.a=v.a∧u.b=v.b∧u.c=v.c) ∧
  a'={ tmps:=#[.agg #[u.a,u.b,u.c],.agg #[v.a,v.b,v.c],.pointer (some ⟨w.heap.size,0,none⟩),.pointer (some ⟨w.heap.size+1,0,none⟩),.int .i64 0,.int .i64 i,u6,u7,u8,u9,u10,u11,u12,u13,u14,u15,u16,u17,u18,u19,u20,u21,u22,u23,u24],defers:=[] }
def CoresM (a':Act) (_:World):Nat:=4 - (intOf (a'.tmps.getD 5 undef)).toNat
theorem beq_no {x y:Nat} (h:x≠y):((x:Int) == (y:Int))=false:=by simp; omega
theorem beq_yes {x y:Nat} (h:x=y):((x:Int) == (y:Int))=true:=by simp [h]

theorem cores_anyD (u v:Ver) (w:World) :
  Calls Tryz.prog 195 #[.agg #[u.a,u.b,u.c],.agg #[v.a,v.b,v.c]] w fun e w'=>e=.returned (.int .i64 (cmpCore u v))∧BelowD w.heap.size w w':=by
 have HBa:Hid (BelowD w.heap.size w ((w.alloc (.cells #[u.a,u.b,u.c] 248)).alloc (.cells #[v.a,v.b,v.c] 248))):=((BelowD.refl _ _).alloc (Nat.le_refl _) _).alloc (by simp) _
 have K1:Hid (At3 ((w.alloc (.cells #[u.a,u.b,u.c] 248)).alloc (.cells #[v.a,v.b,v.c] 248)) w.heap.size u.a u.b u.c):=(At3.new w 248 _ _ _).kept ((Below.refl _ _).alloc (Nat.le_refl _) _) (by simp)
 have K2:Hid (At3 ((w.alloc (.cells #[u.a,u.b,u.c] 248)).alloc (.cells #[v.a,v.b,v.c] 248)) (w.heap.size+1) v.a v.b v.c):=by
  have:=At3.new (w.alloc (.cells #[u.a,u.b,u.c] 248)) 248 v.a v.b v.c
  rw [size_alloc] at this; exact this
 go_enter Tryz.func195,Tryz.ntmps195
 go_wp2
 refine wp_scope_back 0 (CoresJ w u v) CoresM rfl ?_ ?_
 ·rintro a' w1 ⟨i,u6,u7,u8,u9,u10,u11,u12,u13,u14,u15,u16,u17,u18,u19,u20,u21,u22,u23,u24,hb1,k1,k2,hat,hne,rfl⟩
  have HB1:=Lib.hid hb1
  have L1:=Lib.hid k1
  have L2:=Lib.hid k2
  have hz1:=k2.1
  obtain ⟨_,_,x0,x1,x2⟩:=k1
  obtain ⟨_,_,y0,y1,y2⟩:=k2
  clear hb1
  rcases hat with rfl | ⟨rfl,h1⟩ | ⟨rfl,h1,h2⟩
  ·by_cases h:u.a=v.a
   ·have e1:=beq_yes h
    have HH:=Lib.hid h
    have HN:=Lib.hid hne
    clear h hne
    go_wp2
    go_still (by kernel_rfl)
    have HB2:=Lib.hid HB1.out.drew
    have M1:=Lib.hid (L1.out.kept (B:=w1.heap.size) (Below.refl _ _).drew (by omega))
    have M2:=Lib.hid (L2.out.kept (B:=w1.heap.size) (Below.refl _ _).drew (by omega))
    go_wp2
    go_step3
    refine ⟨rfl,⟨1,_,_,_,_,_,_,_,_,_,_,_,_,_,_,_,_,_,_,_,HB2.out,M1.out,M2.out,.inr (.inl ⟨rfl,HH.out⟩),HN.out,rfl⟩,?_⟩
    simp [CoresM,intOf]
   ·have e1:=beq_no h
    have HF:Hid (cmpCore u v=ordN u.a v.a):=cmpCore_1 h
    clear h hne
    go_wp2
    go_still (by kernel_rfl)
    have HB2:=Lib.hid HB1.out.drew
    have M1:=Lib.hid (L1.out.kept (B:=w1.heap.size) (Below.refl _ _).drew (by omega))
    have M2:=Lib.hid (L2.out.kept (B:=w1.heap.size) (Below.refl _ _).drew (by omega))
    clear x0 x1 x2 y0 y1 y2
    change Exit.then _ _ _ _ w1.drew
    generalize w1.drew=w2 at HB2 M1 M2 ⊢
    obtain ⟨_,_,x0,x1,x2⟩:=M1.out
    obtain ⟨_,_,y0,y1,y2⟩:=M2.out
    go_wp2
    go_still_tail 6,(by kernel_rfl)
    change wpList _ _ _ _ _ w2.drew
    have HB3:=Lib.hid HB2.out.drew
    generalize w2.drew=w3 at HB3 ⊢
    go_wp2_with fail
    refine (cmpU_any _ _ _).mono ?_
    rintro e w' ⟨rfl,rfl⟩
    go_wp2
    simp only [Exit.jump]
    go_ret
    exact ⟨by rw [HF.out]; rfl,HB3.out⟩
  ·have H1:=Lib.hid h1
   clear h1
   by_cases h:u.b=v.b
   ·have e1:=beq_yes h
    have HH:=Lib.hid h
    have HN:=Lib.hid hne
    clear h hne
    go_wp2
    go_still (by kernel_rfl)
    have HB2:=Lib.hid HB1.out.drew
    have M1:=Lib.hid (L1.out.kept (B:=w1.heap.size) (Below.refl _ _).drew (by omega))
    have M2:=Lib.hid (L2.out.kept (B:=w1.heap.size) (Below.refl _ _).drew (by omega))
    go_wp2
    go_step3
    refine ⟨rfl,⟨2,_,_,_,_,_,_,_,_,_,_,_,_,_,_,_,_,_,_,_,HB2.out,M1.out,M2.out,.inr (.inr ⟨rfl,H1.out,HH.out⟩),HN.out,rfl⟩,?_⟩
    simp [CoresM,intOf]
   ·have e1:=beq_no h
    have HF:Hid (cmpCore u v=ordN u.b v.b):=cmpCore_2 H1.out h
    clear h hne
    go_wp2
    go_still (by kernel_rfl)
    have HB2:=Lib.hid HB1.out.drew
    have M1:=Lib.hid (L1.out.kept (B:=w1.heap.size) (Below.refl _ _).drew (by omega))
    have M2:=Lib.hid (L2.out.kept (B:=w1.heap.size) (Below.refl _ _).drew (by omega))
    clear x0 x1 x2 y0 y1 y2
    change Exit.then _ _ _ _ w1.drew
    generalize w1.drew=w2 at HB2 M1 M2 ⊢
    obtain ⟨_,_,x0,x1,x2⟩:=M1.out
    obtain ⟨_,_,y0,y1,y2⟩:=M2.out
    go_wp2
    go_still_tail 6,(by kernel_rfl)
    change wpList _ _ _ _ _ w2.drew
    have HB3:=Lib.hid HB2.out.drew
    generalize w2.drew=w3 at HB3 ⊢
    go_wp2_with fail
    refine (cmpU_any _ _ _).mono ?_
    rintro e w' ⟨rfl,rfl⟩
    go_wp2
    simp only [Exit.jump]
    go_ret
    exact ⟨by rw [HF.out]; rfl,HB3.out⟩
  ·have H1:=Lib.hid h1
   have H2:=Lib.hid h2
   clear h1 h2
   by_cases h:u.c=v.c
   ·exact absurd ⟨H1.out,H2.out,h⟩ hne
   ·have e1:=beq_no h
    have HF:Hid (cmpCore u v=ordN u.c v.c):=cmpCore_3 H1.out H2.out
    clear h hne
    go_wp2
    go_still (by kernel_rfl)
    have HB2:=Lib.hid HB1.out.drew
    have M1:=Lib.hid (L1.out.kept (B:=w1.heap.size) (Below.refl _ _).drew (by omega))
    have M2:=Lib.hid (L2.out.kept (B:=w1.heap.size) (Below.refl _ _).drew (by omega))
    clear x0 x1 x2 y0 y1 y2
    change Exit.then _ _ _ _ w1.drew
    generalize w1.drew=w2 at HB2 M1 M2 ⊢
    obtain ⟨_,_,x0,x1,x2⟩:=M1.out
    obtain ⟨_,_,y0,y1,y2⟩:=M2.out
    go_wp2
    go_still_tail 6,(by kernel_rfl)
    change wpList _ _ _ _ _ w2.drew
    have HB3:=Lib.hid HB2.out.drew
    generalize w2.drew=w3 at HB3 ⊢
    go_wp2_with fail
    refine (cmpU_any _ _ _).mono ?_
    rintro e w' ⟨rfl,rfl⟩
    go_wp2
    simp only [Exit.jump]
    go_ret
    exact ⟨by rw [HF.out]; rfl,HB3.out⟩
 ·intro HP
  by_cases hn:u.a=v.a∧u.b=v.b∧u.c=v.c
  ·have HF:Hid (cmpCore u v=0):=by
    unfold Hid
    rw [cmpCore_3 hn.1 hn.2.1]; exact ordN_eq hn.2.2
   have kq:=fun W=>run_eq3 u.a u.b u.c v.a v.b v.c W
   rw [beq_yes hn.1,beq_yes hn.2.1,beq_yes hn.2.2] at kq
   clear hn
   go_wp2
   simp only [Exit.jump]
   go_ret
   exact ⟨by rw [HF.out]; rfl,HBa.out⟩
  ·have HN:=Lib.hid hn
   have hq:(((u.a:Int) == (v.a:Int)) && (((u.b:Int) == (v.b:Int)) && ((u.c:Int) == (v.c:Int))))=false:=by
    rw [← Bool.not_eq_true]; simp only [Bool.and_eq_true,beq_iff_eq]; omega
   have kq:=fun W=>run_eq3 u.a u.b u.c v.a v.b v.c W
   rw [hq] at kq
   clear hn hq
   go_wp2
   go_step3
   rename_i hK
   exact hK _ _ (HP.out _ _ ⟨0,_,_,_,_,_,_,_,_,_,_,_,_,_,_,_,_,_,_,_,HBa.out,K1.out,K2.out,.inl rfl,HN.out,rfl⟩)
end Go.Proofs.YtnpjklaaokiikaaGreatDoor.Prec
