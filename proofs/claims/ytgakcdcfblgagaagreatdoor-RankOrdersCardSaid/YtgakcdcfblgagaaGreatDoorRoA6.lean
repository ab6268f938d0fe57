/-
  What the theorem of the last text needs of these: SvSame, IdGood, PrMath, IdRows. Conditions: as each theorem states.
-/
import Derived.Test.YtgakcdcfblgagaaGreatDoorRoA1
import Derived.Test.YtgakcdcfblgagaaGreatDoorRoA2
import Derived.Test.YtgakcdcfblgagaaGreatDoorRoA4
import Derived.Test.YtgakcdcfblgagaaGreatDoorRoA5
import Derived.StillTailTactics
import Derived.Deep.CutBlock
import Derived.Deep.DeepCutAuto
import Derived.Deep.RegionHeld3
set_option maxRecDepth 100000
set_option maxHeartbeats 25600000
namespace Go.Proofs.YtgakcdcfblgagaaGreatDoor.Semver
open Go.RowKit Num Ident

theorem equal_any (A:Option Addr) (a ca:Nat) (xs:List (List UInt8)) (B:Option Addr) (b cb:Nat) (ys:List (List UInt8)) (w:World) (hA:SRow w A a xs) (hB:SRow w B b ys) (ha:a≤maxLen) (hb:b≤maxLen) :
  Calls Tryz.prog 240 #[.slice A a ca,.slice B b cb] w fun e w'=>e=.returned (.bool (sameB xs ys))∧Below w.heap.size w w':=by
 unfold maxLen at ha hb
 have HA:=Lib.hid hA
 have HB:=Lib.hid hB
 have HLA:=Lib.hid hA.1
 have HLB:=Lib.hid hB.1
 clear hA hB
 by_cases hab:a=b
 ·subst hab
  go_enter Tryz.func240,Tryz.ntmps240
  go_wp2
  go_loopw [13] (fun i W=>∃ k:Nat,k≤a∧i=.int .i64 k∧Hid (∀ j,j<k→xs.getD j []=ys.getD j [])∧Hid (Below w.heap.size w W)) (fun i _=>a - (intOf i).toNat)
  case atStart=>exact ⟨0,Nat.zero_le _,rfl,(fun j hj=>by omega),Below.refl _ _⟩
  case round =>
   obtain ⟨k,hk,rfl,HD,HW⟩:=hrel
   by_cases hlt:k<a
   ·obtain ⟨g1,o1,rfl,hg1,hc1⟩:=(HA.out.kept HW.out).2 (by omega)
    obtain ⟨g2,o2,rfl,hg2,hc2⟩:=(HB.out.kept HW.out).2 (by omega)
    have hx1:=hc1 k hlt
    have hx2:=hc2 k hlt
    clear hc1 hc2
    obtain ⟨s,hs⟩:∃ s,mk (xs.getD k [])=s:=⟨_,rfl⟩
    obtain ⟨t,ht⟩:∃ t,mk (ys.getD k [])=t:=⟨_,rfl⟩
    have HS:Hid (s=t→xs.getD k []=ys.getD k []):=fun h=>by rw [← hs,← ht] at h; have:=congrArg (fun z:ByteArray=>z.data.toList) h; exact this
    have HS2:Hid (s≠t→xs≠ys):=fun h h2=>h (by rw [← hs,← ht,h2])
    rw [hs] at hx1
    rw [ht] at hx2
    clear hs ht
    by_cases hst:s=t
    ·have HS3:=Lib.hid (HS.out hst)
     subst hst
     have hq:(s.toList == s.toList)=true:=by simp
     have hq2:(s.toList != s.toList)=false:=by simp
     go_wp2
     go_still (by kernel_rfl)
     have HW2:=Lib.hid HW.out.drew
     go_wp2
     refine ⟨⟨k+1,by omega,by go_num,(fun j hj=>?_),HW2.out⟩,by simp [intOf]; omega⟩
     rcases Nat.lt_or_ge j k with hj1 | hj1
     ·exact HD.out j hj1
     ·obtain rfl:j=k:=by omega
      exact HS3.out
    ·have HS3:=Lib.hid (HS2.out hst)
     have hq:(s.toList == t.toList)=false:=by
      rw [Lib.toList_data,Lib.toList_data,beq_eq_false_iff_ne]
      exact fun h=>hst (by have:=congrArg mk h; exact this)
     have hq2:(s.toList != t.toList)=true:=by rw [bne,hq]; rfl
     clear hst
     go_wp2
     go_still (by kernel_rfl)
     have HW2:=Lib.hid HW.out.drew
     go_wp2
     go_ret
     exact ⟨by rw [sameB_no HS3.out]; rfl,HW2.out⟩
   ·have HF:Hid (sameB xs ys=true):=(sameB_iff xs ys).2 (List.ext_getElem (by rw [HLA.out,HLB.out]) fun j h1 h2=>by
     have:=HD.out j (by rw [HLA.out] at h1; omega)
     simpa [List.getD,List.getElem?_eq_getElem h1,List.getElem?_eq_getElem h2] using this)
    go_wp2
    go_ret
    exact ⟨by rw [HF.out]; rfl,HW.out⟩
 ·have HF:Hid (sameB xs ys=false):=sameB_no fun h=>hab (by rw [← HLA.out,← HLB.out,h])
  have hq:((a:Int) == (b:Int))=false:=by simp; omega
  have hq2:((a:Int) != (b:Int))=true:=by simp; omega
  go_enter Tryz.func240,Tryz.ntmps240
  go_wp2
  go_ret
  exact ⟨by rw [HF.out]; rfl,Below.refl _ _⟩
theorem coreOf_any (a b c:Int) (x y:Value) (w:World) :
  Calls Tryz.prog 92 #[.agg #[.int .u64 a,.int .u64 b,.int .u64 c,x,y]] w fun e w'=>e=.returned (.agg #[.int .u64 a,.int .u64 b,.int .u64 c])∧Below w.heap.size w w':=by
 go_enter Tryz.func92,Tryz.ntmps92
 go_wp2
 exact bodyPost_ret (v:=.agg #[.int .u64 a,.int .u64 b,.int .u64 c]) (by simp [results,Tryz.results92,go_sem]) rfl ⟨rfl,((Below.refl _ _).alloc (Nat.le_refl _) _).alloc (by simp) _⟩
theorem same_parts (A1:Option Addr) (a1 c1:Nat) (xs1:List (List UInt8)) (A2:Option Addr) (a2 c2:Nat) (xs2:List (List UInt8)) (B1:Option Addr) (b1 d1:Nat) (ys1:List (List UInt8)) (B2:Option Addr) (b2 d2:Nat) (ys2:List (List UInt8)) (n0 n1 n2 m0 m1 m2:Nat) (w:World)
  (r1:SRow w A1 a1 xs1) (r2:SRow w A2 a2 xs2) (q1:SRow w B1 b1 ys1) (q2:SRow w B2 b2 ys2) (ha1:a1≤maxLen) (ha2:a2≤maxLen) (hb1:b1≤maxLen) (hb2:b2≤maxLen) :
  Calls Tryz.prog 207 #[.agg #[.int .u64 n0,.int .u64 n1,.int .u64 n2,.slice A1 a1 c1,.slice A2 a2 c2],.agg #[.int .u64 m0,.int .u64 m1,.int .u64 m2,.slice B1 b1 d1,.slice B2 b2 d2]] w fun e w'=>e=.returned (.bool (sameV ⟨n0,n1,n2,xs1,xs2⟩ ⟨m0,m1,m2,ys1,ys2⟩))∧Below w.heap.size w w':=by
 have R1:=Lib.hid r1
 have R2:=Lib.hid r2
 have Q1:=Lib.hid q1
 have Q2:=Lib.hid q2
 have HA1:=Lib.hid ha1
 have HA2:=Lib.hid ha2
 have HB1:=Lib.hid hb1
 have HB2s:=Lib.hid hb2
 clear r1 r2 q1 q2 ha1 ha2 hb1 hb2
 have HB0:Hid (Below w.heap.size w ((w.alloc (.cells #[.int .u64 n0,.int .u64 n1,.int .u64 n2,.slice A1 a1 c1,.slice A2 a2 c2] 37)).alloc (.cells #[.int .u64 m0,.int .u64 m1,.int .u64 m2,.slice B1 b1 d1,.slice B2 b2 d2] 37))):=((Below.refl _ _).alloc (Nat.le_refl _) _).alloc (by simp) _
 have HP1:Hid (At5 ((w.alloc (.cells #[.int .u64 n0,.int .u64 n1,.int .u64 n2,.slice A1 a1 c1,.slice A2 a2 c2] 37)).alloc (.cells #[.int .u64 m0,.int .u64 m1,.int .u64 m2,.slice B1 b1 d1,.slice B2 b2 d2] 37)) w.heap.size (.int .u64 n0) (.int .u64 n1) (.int .u64 n2) (.slice A1 a1 c1) (.slice A2 a2 c2)):=(At5.new w 37 _ _ _ _ _).kept ((Below.refl _ _).alloc (Nat.le_refl _) _) (by simp)
 have HP2:Hid (At5 ((w.alloc (.cells #[.int .u64 n0,.int .u64 n1,.int .u64 n2,.slice A1 a1 c1,.slice A2 a2 c2] 37)).alloc (.cells #[.int .u64 m0,.int .u64 m1,.int .u64 m2,.slice B1 b1 d1,.slice B2 b2 d2] 37)) (w.heap.size+1) (.int .u64 m0) (.int .u64 m1) (.int .u64 m2) (.slice B1 b1 d1) (.slice B2 b2 d2)):=by
  have:=At5.new (w.alloc (.cells #[.int .u64 n0,.int .u64 n1,.int .u64 n2,.slice A1 a1 c1,.slice A2 a2 c2] 37)) 37 (.int .u64 m0) (.int .u64 m1) (.int .u64 m2) (.slice B1 b1 d1) (.slice B2 b2 d2)
  rw [size_alloc] at this; exact this
 have HD:=Lib.hid ((Below.refl ((w.alloc (.cells #[.int .u64 n0,.int .u64 n1,.int .u64 n2,.slice A1 a1 c1,.slice A2 a2 c2] 37)).alloc (.cells #[.int .u64 m0,.int .u64 m1,.int .u64 m2,.slice B1 b1 d1,.slice B2 b2 d2] 37)).heap.size ((w.alloc (.cells #[.int .u64 n0,.int .u64 n1,.int .u64 n2,.slice A1 a1 c1,.slice A2 a2 c2] 37)).alloc (.cells #[.int .u64 m0,.int .u64 m1,.int .u64 m2,.slice B1 b1 d1,.slice B2 b2 d2] 37))).drew)
 have HDw:=Lib.hid (HD.out.mono (B':=w.heap.size) (by simp; omega))
 by_cases hn:n0=m0∧n1=m1∧n2=m2
 ·obtain ⟨rfl,rfl,rfl⟩:=hn
  have kq:=fun W=>run_eq3 n0 n1 n2 n0 n1 n2 W
  rw [show ((((n0:Int) == (n0:Int)) && (((n1:Int) == (n1:Int)) && ((n2:Int) == (n2:Int)))))=true by simp] at kq
  have HF:Hid (sameV ⟨n0,n1,n2,xs1,xs2⟩ ⟨n0,n1,n2,ys1,ys2⟩=(sameB xs1 ys1 && sameB xs2 ys2)):=by unfold Hid sameV; simp
  go_enter Tryz.func207,Tryz.ntmps207
  go_upto_region 1 with (fail)
  refine wp_region_held_drew (S:=fun w'=>(w'.cell? ⟨w.heap.size,0,none⟩=some (.int .u64 n0)∧w'.cell? ⟨w.heap.size,1,none⟩=some (.int .u64 n1)∧w'.cell? ⟨w.heap.size,2,none⟩=some (.int .u64 n2)∧w'.cell? ⟨w.heap.size,3,none⟩=some (.slice A1 a1 c1)∧w'.cell? ⟨w.heap.size,4,none⟩=some (.slice A2 a2 c2))∧(w'.cell? ⟨(w.heap.size+1),0,none⟩=some (.int .u64 n0)∧w'.cell? ⟨(w.heap.size+1),1,none⟩=some (.int .u64 n1)∧w'.cell? ⟨(w.heap.size+1),2,none⟩=some (.int .u64 n2)∧w'.cell? ⟨(w.heap.size+1),3,none⟩=some (.slice B1 b1 d1)∧w'.cell? ⟨(w.heap.size+1),4,none⟩=some (.slice B2 b2 d2))) (by kernel_rfl) ⟨HP1.out.2.2,HP2.out.2.2⟩ (fun hHeld=>?_)
  refine tk 0 rfl (.agg #[.int .u64 n0,.int .u64 n1,.int .u64 n2,.slice A1 a1 c1,.slice A2 a2 c2]) ?_
  refine tk 2 rfl (.agg #[.int .u64 n0,.int .u64 n1,.int .u64 n2,.slice B1 b1 d1,.slice B2 b2 d2]) ?_
  refine cl 1 rfl fun K hK=>?_
  go_simp
  refine (coreOf_any _ _ _ _ _ _).mono ?_
  rintro e w2 ⟨rfl,hb2⟩
  have HK1:=Lib.hid ((HP1.out.kept HD.out (by simp; omega)).kept hb2 (by simp; omega))
  have HK2:=Lib.hid ((HP2.out.kept HD.out (by simp)).kept hb2 (by simp))
  have HB2:=Lib.hid ((HB0.out.trans HDw.out).trans (hb2.mono (by simp; omega)))
  have hz2:w.heap.size+2≤w2.heap.size:=by have:=hb2.size; simpa using this
  clear hb2
  refine hK.out _ _ ⟨HK1.out.2.2,HK2.out.2.2⟩ (fun hHeld=>?_)
  clear hK K
  try simp only [Act.put,p1,p2,p3]
  refine cl 3 rfl fun K hK=>?_
  go_simp
  refine (coreOf_any _ _ _ _ _ _).mono ?_
  rintro e w3 ⟨rfl,hb3⟩
  have HM1:=Lib.hid (HK1.out.kept hb3 (by omega))
  have HM2:=Lib.hid (HK2.out.kept hb3 (by omega))
  have HB3:=Lib.hid (HB2.out.trans (hb3.mono (by omega)))
  have hz3:=hb3.size
  clear hb3
  refine hK.out _ _ ⟨HM1.out.2.2,HM2.out.2.2⟩ (fun hHeld=>?_)
  clear hK K
  try simp only [Act.put,p1,p2,p3]
  refine tk 4 rfl (.bool true) ?_
  refine tk 5 rfl (.bool true) ?_
  refine tk 6 rfl (.pointer (some ⟨w.heap.size,3,none⟩)) ?_
  refine tk 7 rfl (.slice A1 a1 c1) ?_
  refine tk 8 rfl (.pointer (some ⟨w.heap.size+1,3,none⟩)) ?_
  refine tk 9 rfl (.slice B1 b1 d1) ?_
  refine cl 10 rfl fun K hK=>?_
  go_simp
  refine (equal_any _ _ _ xs1 _ _ _ ys1 _ (R1.out.kept HB3.out) (Q1.out.kept HB3.out) HA1.out HB1.out).mono ?_
  rintro e w4 ⟨rfl,hb4⟩
  have HN1:=Lib.hid (HM1.out.kept hb4 (by omega))
  have HN2:=Lib.hid (HM2.out.kept hb4 (by omega))
  have HB4:=Lib.hid (HB3.out.trans (hb4.mono (by omega)))
  have hz4:=hb4.size
  clear hb4
  refine hK.out _ _ ⟨HN1.out.2.2,HN2.out.2.2⟩ (fun hHeld=>?_)
  clear hK K
  try simp only [Act.put,p1,p2,p3]
  generalize sameB xs1 ys1=s1 at HF ⊢
  cases s1
  ·refine tk 11 rfl (.bool false) ?_
   refine tk 12 rfl (.bool false) ?_
   refine sk 13 rfl ?_
   refine sk 14 rfl ?_
   refine sk 15 rfl ?_
   refine sk 16 rfl ?_
   refine sk 17 rfl ?_
   refine tk 18 rfl (.bool false) ?_
   refine tk 19 rfl (.bool false) ?_
   refine wpAnyH_done (by kernel_rfl) ?_ _
   go_wp2
   go_ret
   exact ⟨by rw [HF.out]; rfl,HB4.out⟩
  ·refine tk 11 rfl (.bool true) ?_
   refine tk 12 rfl (.bool true) ?_
   refine tk 13 rfl (.pointer (some ⟨w.heap.size,4,none⟩)) ?_
   refine tk 14 rfl (.slice A2 a2 c2) ?_
   refine tk 15 rfl (.pointer (some ⟨w.heap.size+1,4,none⟩)) ?_
   refine tk 16 rfl (.slice B2 b2 d2) ?_
   refine cl 17 rfl fun K hK=>?_
   go_simp
   refine (equal_any _ _ _ xs2 _ _ _ ys2 _ (R2.out.kept HB4.out) (Q2.out.kept HB4.out) HA2.out HB2s.out).mono ?_
   rintro e w5 ⟨rfl,hb5⟩
   have HO1:=Lib.hid (HN1.out.kept hb5 (by omega))
   have HO2:=Lib.hid (HN2.out.kept hb5 (by omega))
   have HB5:=Lib.hid (HB4.out.trans (hb5.mono (by omega)))
   clear hb5
   refine hK.out _ _ ⟨HO1.out.2.2,HO2.out.2.2⟩ (fun hHeld=>?_)
   clear hK K
   try simp only [Act.put,p1,p2,p3]
   refine tk 18 rfl (.bool (sameB xs2 ys2)) ?_
   refine tk 19 rfl (.bool (sameB xs2 ys2)) ?_
   refine wpAnyH_done (by kernel_rfl) ?_ _
   go_wp2
   go_ret
   exact ⟨by rw [HF.out]; rfl,HB5.out⟩
 ·have HF:Hid (sameV ⟨n0,n1,n2,xs1,xs2⟩ ⟨m0,m1,m2,ys1,ys2⟩=false):=by unfold Hid sameV; rw [decide_eq_false hn]; rfl
  have hq:(((n0:Int) == (m0:Int)) && (((n1:Int) == (m1:Int)) && ((n2:Int) == (m2:Int))))=false:=by
   rw [← Bool.not_eq_true]; simp only [Bool.and_eq_true,beq_iff_eq]; omega
  have kq:=fun W=>run_eq3 n0 n1 n2 m0 m1 m2 W
  rw [hq] at kq
  clear hn hq
  go_enter Tryz.func207,Tryz.ntmps207
  go_upto_region 1 with (fail)
  refine wp_region_held_drew (S:=fun w'=>(w'.cell? ⟨w.heap.size,0,none⟩=some (.int .u64 n0)∧w'.cell? ⟨w.heap.size,1,none⟩=some (.int .u64 n1)∧w'.cell? ⟨w.heap.size,2,none⟩=some (.int .u64 n2)∧w'.cell? ⟨w.heap.size,3,none⟩=some (.slice A1 a1 c1)∧w'.cell? ⟨w.heap.size,4,none⟩=some (.slice A2 a2 c2))∧(w'.cell? ⟨(w.heap.size+1),0,none⟩=some (.int .u64 m0)∧w'.cell? ⟨(w.heap.size+1),1,none⟩=some (.int .u64 m1)∧w'.cell? ⟨(w.heap.size+1),2,none⟩=some (.int .u64 m2)∧w'.cell? ⟨(w.heap.size+1),3,none⟩=some (.slice B1 b1 d1)∧w'.cell? ⟨(w.heap.size+1),4,none⟩=some (.slice B2 b2 d2))) (by kernel_rfl) ⟨HP1.out.2.2,HP2.out.2.2⟩ (fun hHeld=>?_)
  refine tk 0 rfl (.agg #[.int .u64 n0,.int .u64 n1,.int .u64 n2,.slice A1 a1 c1,.slice A2 a2 c2]) ?_
  refine tk 2 rfl (.agg #[.int .u64 m0,.int .u64 m1,.int .u64 m2,.slice B1 b1 d1,.slice B2 b2 d2]) ?_
  refine cl 1 rfl fun K hK=>?_
  go_simp
  refine (coreOf_any _ _ _ _ _ _).mono ?_
  rintro e w2 ⟨rfl,hb2⟩
  have HK1:=Lib.hid ((HP1.out.kept HD.out (by simp; omega)).kept hb2 (by simp; omega))
  have HK2:=Lib.hid ((HP2.out.kept HD.out (by simp)).kept hb2 (by simp))
  have HB2:=Lib.hid ((HB0.out.trans HDw.out).trans (hb2.mono (by simp; omega)))
  have hz2:w.heap.size+2≤w2.heap.size:=by have:=hb2.size; simpa using this
  clear hb2
  refine hK.out _ _ ⟨HK1.out.2.2,HK2.out.2.2⟩ (fun hHeld=>?_)
  clear hK K
  try simp only [Act.put,p1,p2,p3]
  refine cl 3 rfl fun K hK=>?_
  go_simp
  refine (coreOf_any _ _ _ _ _ _).mono ?_
  rintro e w3 ⟨rfl,hb3⟩
  have HM1:=Lib.hid (HK1.out.kept hb3 (by omega))
  have HM2:=Lib.hid (HK2.out.kept hb3 (by omega))
  have HB3:=Lib.hid (HB2.out.trans (hb3.mono (by omega)))
  have hz3:=hb3.size
  clear hb3
  refine hK.out _ _ ⟨HM1.out.2.2,HM2.out.2.2⟩ (fun hHeld=>?_)
  clear hK K
  try simp only [Act.put,p1,p2,p3]
  refine tk 4 rfl (.bool false) ?_
  refine tk 5 rfl (.bool false) ?_
  refine sk 6 rfl ?_
  refine sk 7 rfl ?_
  refine sk 8 rfl ?_
  refine sk 9 rfl ?_
  refine sk 10 rfl ?_
  refine tk 11 rfl (.bool false) ?_
  refine tk 12 rfl (.bool false) ?_
  refine sk 13 rfl ?_
  refine sk 14 rfl ?_
  refine sk 15 rfl ?_
  refine sk 16 rfl ?_
  refine sk 17 rfl ?_
  refine tk 18 rfl (.bool false) ?_
  refine tk 19 rfl (.bool false) ?_
  refine wpAnyH_done (by kernel_rfl) ?_ _
  go_wp2
  go_ret
  exact ⟨by rw [HF.out]; rfl,HB3.out⟩
end Go.Proofs.YtgakcdcfblgagaaGreatDoor.Semver
namespace Go.Proofs.YtgakcdcfblgagaaGreatDoor.Ident
open Go.RowKit Num

def GoodJ (w:World) (A:Option Addr) (n c:Nat) (pre:Bool) (xs:List (List UInt8)) (a':Act) (w':World):Prop :=
 ∃ (k:Nat) (u6 u7 u8 u9 u10 u11 u12 u13 u14 u15 u16 u17 u18 u19 u20 u21 u22 u23 u24 u25 u26 u27 u28 u29 u30 u31 u32 u33:Value),Below w.heap.size w w'∧k≤n∧goodFrom pre (xs.drop k) k=goodFrom pre xs 0 ∧
  a'={ tmps:=#[.slice A n c,.bool pre,undef,undef,.bool false,.int .i64 k,u6,u7,u8,u9,u10,u11,u12,u13,u14,u15,u16,u17,u18,u19,u20,u21,u22,u23,u24,u25,u26,u27,u28,u29,u30,u31,u32,u33],defers:=[] }
def GoodM (n:Nat) (a':Act) (_:World):Nat:=n - (intOf (a'.tmps.getD 5 undef)).toNat
theorem good_any (A:Option Addr) (n c:Nat) (xs:List (List UInt8)) (pre:Bool) (w:World) (hr:SRow w A n xs) (hn:n≤maxLen) (hx:∀ x ∈ xs,x.length≤maxLen) :
  Calls Tryz.prog 200 #[.slice A n c,.bool pre] w fun e w'=>e=.returned (.bool (goodFrom pre xs 0))∧Below w.heap.size w w':=by
 have HN:=Lib.hid hn
 unfold maxLen at hn
 have HR:=Lib.hid hr
 have HLX:=Lib.hid hr.1
 have HX:=Lib.hid hx
 clear hr hx
 go_enter Tryz.func200,Tryz.ntmps200
 go_wp2
 refine wp_scope_back 0 (GoodJ w A n c pre xs) (GoodM n) rfl ?_ ?_
 ·rintro a' w1 ⟨k,u6,u7,u8,u9,u10,u11,u12,u13,u14,u15,u16,u17,u18,u19,u20,u21,u22,u23,u24,u25,u26,u27,u28,u29,u30,u31,u32,u33,hb1,hk,hgo,rfl⟩
  have HB1:=Lib.hid hb1
  have HG:=Lib.hid hgo
  clear hb1 hgo
  have hz1:=HB1.out.size
  by_cases h1:k=n
  ·have HF:Hid (goodFrom pre xs 0=true):=by
    unfold Hid
    rw [← HG.out,List.drop_eq_nil_of_le (by rw [HLX.out,h1]; exact Nat.le_refl _),goodFrom]
   have hb:((k:Int) == (n:Int))=true:=by simp [h1]
   clear h1
   go_wp2
   simp only [Exit.jump]
   go_ret
   exact ⟨by rw [HF.out]; rfl,HB1.out⟩
  have hlt:k<n:=by omega
  have hb:((k:Int) == (n:Int))=false:=by simp; omega
  clear h1
  obtain ⟨g,o,rfl,hg,hc1⟩:=(HR.out.kept HB1.out).2 (by omega)
  have hx1:=hc1 k hlt
  clear hc1
  have HKL:Hid (k<xs.length):=by unfold Hid; rw [HLX.out]; exact hlt
  have HST:=Lib.hid (fun h1 h2=>goodFrom_step (pre:=pre) HKL.out h1 h2)
  have HSP:=Lib.hid (fun h=>goodFrom_stop (pre:=pre) HKL.out h)
  have HZ:=Lib.hid (HX.out (xs.getD k []) (by have h:=HKL.out; simp [List.getD,List.getElem?_eq_getElem h]))
  have HKM:Hid (k≤maxLen):=by have:=HN.out; unfold Hid; omega
  generalize xs.getD k []=s at hx1 HST HSP HZ
  obtain ⟨f,hf⟩:∃ f,fault s k pre=f:=⟨_,rfl⟩
  have HFA:Hid (∀ W,Calls Tryz.prog 238 #[.string (mk s),.int .i64 k,.bool pre] W fun e w'=>e=.returned (.int .i64 f)∧Below W.heap.size W w'):=fun W=>by
   have:=fault_any (mk s) k pre W HZ.out HKM.out
   rw [mk_list,hf] at this; exact this
  rw [hf] at HST HSP
  clear hf
  go_upto_region 4 with (fail)
  go_cut [31] (fun x wx=>x=.bool (!(f == 0 && lead s == s.length))∧Below w.heap.size w wx)
  case first =>
   by_cases hf0:f=0
   ·subst hf0
    have HF:Hid ((!((0:Nat) == 0 && lead s == s.length))=(((lead s:Nat):Int) != (s.length:Int))):=by
     unfold Hid
     rw [Bool.eq_iff_iff]; simp; omega
    refine wp_region_held_drew (S:=fun w'=>w'.cell? ⟨g,o+k,none⟩=some (.string (mk s))) (by kernel_rfl) hx1 (fun hHeld=>?_)
    refine tk 0 rfl (.slice (some ⟨g,o,none⟩) n c) ?_
    refine tk 1 rfl (.int .i64 k) ?_
    refine tk 2 rfl (.pointer (some ⟨g,o+k,none⟩)) ?_
    refine tk 3 rfl (.string (mk s)) ?_
    refine tk 4 rfl (.int .i64 k) ?_
    refine tk 5 rfl (.bool pre) ?_
    refine cl 6 rfl fun K hK=>?_
    go_simp
    refine (HFA.out _).mono ?_
    rintro e w2 ⟨rfl,hb2⟩
    have hx2:w2.cell? ⟨g,o+k,none⟩=some (.string (mk s)):=(hb2.cell (p:=⟨g,o+k,none⟩) (by simpa using hg)).trans (by simpa using hx1)
    obtain ⟨cc,W,hcc,hcv,hrr,hbW⟩:=run_bytes w2 (mk s) HZ.out
    have hxW:W.cell? ⟨g,o+k,none⟩=some (.string (mk s)):=(hbW.cell (p:=⟨g,o+k,none⟩) (Nat.lt_of_lt_of_le (by simpa using hg) hb2.size)).trans hx2
    have HBB:=Lib.hid ((HB1.out.drew.trans (hb2.mono hz1)).trans (hbW.mono (Nat.le_trans hz1 hb2.size)))
    have HRR:=Lib.hid hrr
    clear hb2 hrr hbW
    refine hK.out _ _ hx2 (fun hHeld=>?_)
    clear hK K
    try simp only [Act.put,p1,p2,p3]
    refine tk 7 rfl (.bool false) ?_
    refine tk 8 rfl (.bool false) ?_
    refine tk 9 rfl (.slice (some ⟨g,o,none⟩) n c) ?_
    refine tk 10 rfl (.int .i64 k) ?_
    refine tk 11 rfl (.pointer (some ⟨g,o+k,none⟩)) ?_
    refine tk 12 rfl (.string (mk s)) ?_
    refine tk 15 rfl (.slice (some ⟨g,o,none⟩) n c) ?_
    refine tk 16 rfl (.int .i64 k) ?_
    refine tk 17 rfl (.pointer (some ⟨g,o+k,none⟩)) ?_
    refine tk 18 rfl (.string (mk s)) ?_
    refine tk 19 rfl (.int .i64 (mk s).size) ?_
    refine cl 13 rfl fun K hK=>?_
    go_simp
    refine hK.out _ _ hxW (fun hHeld=>?_)
    clear hK K
    try simp only [Act.put,p1,p2,p3]
    refine cl 14 rfl fun K hK=>?_
    go_simp
    refine (length_any _ _ _ _ _ HRR.out).mono ?_
    rintro e w3 ⟨rfl,rfl⟩
    refine hK.out _ _ hxW (fun hHeld=>?_)
    clear hK K
    try simp only [Act.put,p1,p2,p3]
    refine tk 20 rfl (.bool (((lead s:Nat):Int) != (s.length:Int))) ?_ fun w' hS'=>by (go_simp; rfl)
    refine tk 21 rfl (.bool (((lead s:Nat):Int) != (s.length:Int))) ?_
    refine wpAnyH_done (by kernel_rfl) ?_ _
    go_wp2
    go_meet
    exact ⟨by rw [HF.out],HBB.out⟩
   ·have hn1:((f:Int) == 0)=false:=by simp [hf0]
    have hn2:((f:Int) != 0)=true:=by simp [hf0]
    have HF:Hid ((!(f == 0 && lead s == s.length))=true):=by unfold Hid; simp [hf0]
    refine wp_region_held_drew (S:=fun w'=>w'.cell? ⟨g,o+k,none⟩=some (.string (mk s))) (by kernel_rfl) hx1 (fun hHeld=>?_)
    refine tk 0 rfl (.slice (some ⟨g,o,none⟩) n c) ?_
    refine tk 1 rfl (.int .i64 k) ?_
    refine tk 2 rfl (.pointer (some ⟨g,o+k,none⟩)) ?_
    refine tk 3 rfl (.string (mk s)) ?_
    refine tk 4 rfl (.int .i64 k) ?_
    refine tk 5 rfl (.bool pre) ?_
    refine cl 6 rfl fun K hK=>?_
    go_simp
    refine (HFA.out _).mono ?_
    rintro e w2 ⟨rfl,hb2⟩
    have hx2:w2.cell? ⟨g,o+k,none⟩=some (.string (mk s)):=(hb2.cell (p:=⟨g,o+k,none⟩) (by simpa using hg)).trans (by simpa using hx1)
    have HBB:=Lib.hid (HB1.out.drew.trans (hb2.mono hz1))
    clear hb2
    refine hK.out _ _ hx2 (fun hHeld=>?_)
    clear hK K
    try simp only [Act.put,p1,p2,p3]
    refine tk 7 rfl (.bool true) ?_
    refine tk 8 rfl (.bool true) ?_
    refine sk 9 rfl ?_
    refine sk 10 rfl ?_
    refine sk 11 rfl ?_
    refine sk 12 rfl ?_
    refine sk 13 rfl ?_
    refine sk 14 rfl ?_
    refine sk 15 rfl ?_
    refine sk 16 rfl ?_
    refine sk 17 rfl ?_
    refine sk 18 rfl ?_
    refine sk 19 rfl ?_
    refine sk 20 rfl ?_
    refine tk 21 rfl (.bool true) ?_
    refine wpAnyH_done (by kernel_rfl) ?_ _
    go_wp2
    go_meet
    exact ⟨by rw [HF.out],HBB.out⟩
  case rest =>
   obtain ⟨rfl,hbx⟩:=hcut
   have HBX:=Lib.hid hbx; clear hbx
   cases hq:(f == 0 && lead s == s.length)
   ·have HF:Hid (goodFrom pre xs 0=false):=by
     unfold Hid
     rw [← HG.out]
     apply HSP.out
     rw [Bool.and_eq_false_iff] at hq
     rcases hq with h | h
     ·exact .inl (by simpa using h)
     ·exact .inr (by simpa using h)
    clear hq
    simp only [Bool.not_false]
    go_wp2
    simp only [Exit.jump]
    go_ret
    exact ⟨by rw [HF.out]; rfl,HBX.out⟩
   ·have HF:Hid (goodFrom pre (xs.drop (k+1)) (k+1)=goodFrom pre xs 0):=by
     unfold Hid
     rw [Bool.and_eq_true,beq_iff_eq,beq_iff_eq] at hq
     rw [← HG.out,← HST.out hq.1 hq.2]
    clear hq
    simp only [Bool.not_true]
    go_wp2
    go_step3
    rw [show ((k:Int)+1)=((k+1:Nat):Int) from rfl]
    refine ⟨rfl,⟨k+1,_,_,_,_,_,_,_,_,_,_,_,_,_,_,_,_,_,_,_,_,_,_,_,_,_,_,_,_,HBX.out,by omega,HF.out,rfl⟩,?_⟩
    simp [GoodM,intOf]; omega
 ·intro HP
  go_wp2
  go_step3
  rename_i hK
  exact hK _ _ (HP.out _ _ ⟨0,_,_,_,_,_,_,_,_,_,_,_,_,_,_,_,_,_,_,_,_,_,_,_,_,_,_,_,_,Below.refl _ _,by omega,rfl,rfl⟩)
end Go.Proofs.YtgakcdcfblgagaaGreatDoor.Ident
namespace Go.Proofs.YtgakcdcfblgagaaGreatDoor.Prec
open Go.RowKit Num Ident Semver

structure Ordr {T:Type} (f:T→T→Int):Prop where
 flip:∀ x y,f y x=0 - f x y
 trans:∀ x y z,f x y≤0→f y z≤0→f x z≤0
theorem Ordr.self {T:Type} {f:T→T→Int} (h:Ordr f) (x:T):f x x=0:=by have:=h.flip x x; omega
def lex {T:Type} (f g:T→T→Int) (x y:T):Int:=if f x y=0 then g x y else f x y
theorem lex_no {T:Type} {f g:T→T→Int} {x y:T} (h:f x y≠0):lex f g x y=f x y:=by unfold lex; rw [if_neg h]
theorem lex_yes {T:Type} {f g:T→T→Int} {x y:T} (h:f x y=0):lex f g x y=g x y:=by unfold lex; rw [if_pos h]
theorem Ordr.lex {T:Type} {f g:T→T→Int} (hf:Ordr f) (hg:Ordr g):Ordr (lex f g):=by
 refine ⟨fun x y=>?_,fun x y z h1 h2=>?_⟩
 ·have e:=hf.flip x y
  by_cases h:f x y=0
  ·rw [lex_yes h,lex_yes (by omega)]; exact hg.flip x y
  ·rw [lex_no h,lex_no (by omega)]; exact e
 ·have a1:f x y≤0:=by
   by_cases h:f x y=0
   ·omega
   ·rw [lex_no h] at h1; exact h1
  have a2:f y z≤0:=by
   by_cases h:f y z=0
   ·omega
   ·rw [lex_no h] at h2; exact h2
  have a3:=hf.trans x y z a1 a2
  by_cases h:f x z=0
  ·have e1:=hf.flip x z
   have e2:=hf.flip x y
   have e3:=hf.flip y z
   have b1:=hf.trans z x y (by omega) a1
   have b2:=hf.trans y z x a2 (by omega)
   rw [lex_yes h]
   rw [lex_yes (show f x y=0 by omega)] at h1
   rw [lex_yes (show f y z=0 by omega)] at h2
   exact hg.trans x y z h1 h2
  ·rw [lex_no h]; exact a3
theorem Ordr.on {T U:Type} {f:T→T→Int} (h:Ordr f) (k:U→T):Ordr fun x y=>f (k x) (k y):=⟨fun _ _=>h.flip _ _,fun _ _ _=>h.trans _ _ _⟩

theorem ordN_ordr:Ordr ordN:=by
 refine ⟨fun x y=>ordN_flip x y,fun x y z h1 h2=>?_⟩
 rcases ordN_cases x y with ⟨a,b⟩ | ⟨a,b⟩ | ⟨a,b⟩ <;> rcases ordN_cases y z with ⟨c,d⟩ | ⟨c,d⟩ | ⟨c,d⟩ <;> rcases ordN_cases x z with ⟨e,f⟩ | ⟨e,f⟩ | ⟨e,f⟩ <;> omega
theorem bytes_flip:∀ a b:List UInt8,Lib.compareBytes b a=0 - Lib.compareBytes a b
 | [],[]=>rfl
 | [],_ :: _=>rfl
 | _ :: _,[]=>rfl
 | x :: a,y :: b=>by
  unfold Lib.compareBytes
  simp only [UInt8.lt_iff_toNat_lt]
  by_cases h1:x.toNat<y.toNat
  ·rw [if_pos h1,if_neg (show ¬ y.toNat<x.toNat by omega),if_pos h1]; rfl
  ·by_cases h2:y.toNat<x.toNat
   ·rw [if_pos h2,if_neg h1,if_pos h2]; rfl
   ·rw [if_neg h2,if_neg h1,if_neg h1,if_neg h2]; exact bytes_flip a b
theorem cmpId_flip (a b:List UInt8):cmpId b a=0 - cmpId a b:=by
 unfold cmpId
 by_cases ha:numeric a=true
 ·by_cases hb:numeric b=true
  ·have e1:=ordN_flip (val a) (val b)
   have e2:=ordN_flip a.length b.length
   simp only [if_pos ha,if_pos hb]
   by_cases h:ordN (val a) (val b)=0
   ·rw [if_pos h,if_pos (by omega)]; exact e2
   ·rw [if_neg h,if_neg (by omega)]; exact e1
  ·simp only [if_pos ha,if_neg hb]; rfl
 ·by_cases hb:numeric b=true
  ·simp only [if_neg ha,if_pos hb]; rfl
  ·simp only [if_neg ha,if_neg hb]; exact bytes_flip a b

theorem rows_flip:∀ r s:List (List UInt8),cmpRows s r=0 - cmpRows r s
 | [],s=>by rw [cmpRows_nil,cmpRows_nil']; exact ordN_flip 0 s.length
 | a :: r,[]=>by rw [cmpRows_nil,cmpRows_nil']; exact ordN_flip _ 0
 | a :: r,b :: s=>by
  have e:=cmpId_flip a b
  by_cases h:cmpId a b=0
  ·rw [cmpRows_same h,cmpRows_same (by omega)]; exact rows_flip r s
  ·rw [cmpRows_diff h,cmpRows_diff (by omega)]; exact e
theorem rows_nil_le (s:List (List UInt8)):cmpRows [] s≤0:=by
 rw [cmpRows_nil]; rcases ordN_cases 0 s.length with h | h | h <;> omega
theorem rows_trans:∀ r s t:List (List UInt8),cmpRows r s≤0→cmpRows s t≤0→cmpRows r t≤0
 | [],_,t,_,_=>rows_nil_le t
 | a :: r,[],_,h,_=>by
  rw [cmpRows_nil'] at h
  rcases ordN_cases (a :: r).length 0 with h2 | h2 | h2
  ·exact absurd h2.1 (by simp)
  ·exact absurd h2.1 (by simp)
  ·omega
 | a :: r,b :: s,[],_,h=>by
  rw [cmpRows_nil'] at h
  rcases ordN_cases (b :: s).length 0 with h2 | h2 | h2
  ·exact absurd h2.1 (by simp)
  ·exact absurd h2.1 (by simp)
  ·omega
 | a :: r,b :: s,c :: t,h1,h2=>by
  have a1:cmpId a b≤0:=by
   by_cases h:cmpId a b=0
   ·omega
   ·rw [cmpRows_diff h] at h1; exact h1
  have a2:cmpId b c≤0:=by
   by_cases h:cmpId b c=0
   ·omega
   ·rw [cmpRows_diff h] at h2; exact h2
  have a3:=cmpId_trans a b c a1 a2
  by_cases h:cmpId a c=0
  ·have e1:=cmpId_flip a c
   have e2:=cmpId_flip a b
   have e3:=cmpId_flip b c
   have b1:=cmpId_trans c a b (by omega) a1
   have b2:=cmpId_trans b c a a2 (by omega)
   rw [cmpRows_same h]
   rw [cmpRows_same (show cmpId a b=0 by omega)] at h1
   rw [cmpRows_same (show cmpId b c=0 by omega)] at h2
   exact rows_trans r s t h1 h2
  ·rw [cmpRows_diff h]; exact a3
theorem rows_ordr:Ordr cmpRows:=⟨rows_flip,rows_trans⟩

def noneN (x:List (List UInt8)):Nat:=if x.length=0 then 1 else 0
def cmpPre:List (List UInt8)→List (List UInt8)→Int:=lex (fun x y=>ordN (noneN x) (noneN y)) cmpRows
theorem cmpPre_one {x y:List (List UInt8)} (h1:x.length=0) (h2:y.length≠0):cmpPre x y=1:=by
 have e:ordN (noneN x) (noneN y)=1:=by unfold noneN; rw [if_pos h1,if_neg h2]; rfl
 unfold cmpPre; rw [lex_no (by rw [e]; omega)]; exact e
theorem cmpPre_two {x y:List (List UInt8)} (h1:x.length≠0) (h2:y.length=0):cmpPre x y=-1:=by
 have e:ordN (noneN x) (noneN y)=-1:=by unfold noneN; rw [if_neg h1,if_pos h2]; rfl
 unfold cmpPre; rw [lex_no (by rw [e]; omega)]; exact e
theorem cmpPre_rows {x y:List (List UInt8)} (h:x.length=0↔y.length=0):cmpPre x y=cmpRows x y:=by
 have e:ordN (noneN x) (noneN y)=0:=by
  unfold noneN
  by_cases h1:x.length=0
  ·rw [if_pos h1,if_pos (h.1 h1)]; rfl
  ·rw [if_neg h1,if_neg (fun h2=>h1 (h.2 h2))]; rfl
 unfold cmpPre; exact lex_yes e
def cmpCore:Ver→Ver→Int:=lex (fun u v=>ordN u.a v.a) (lex (fun u v=>ordN u.b v.b) fun u v=>ordN u.c v.c)
theorem ordN_zero_iff (x y:Nat):ordN x y=0↔x=y:=by rcases ordN_cases x y with h | h | h <;> omega
theorem cmpCore_1 {u v:Ver} (h:u.a≠v.a):cmpCore u v=ordN u.a v.a:=by
 unfold cmpCore; exact lex_no (fun e=>h ((ordN_zero_iff _ _).1 e))
theorem cmpCore_2 {u v:Ver} (h1:u.a=v.a) (h:u.b≠v.b):cmpCore u v=ordN u.b v.b:=by
 unfold cmpCore; refine (lex_yes (f:=fun u v:Ver=>ordN u.a v.a) ((ordN_zero_iff _ _).2 h1)).trans ?_; exact lex_no (fun e=>h ((ordN_zero_iff _ _).1 e))
theorem cmpCore_3 {u v:Ver} (h1:u.a=v.a) (h2:u.b=v.b):cmpCore u v=ordN u.c v.c:=by
 unfold cmpCore; refine (lex_yes (f:=fun u v:Ver=>ordN u.a v.a) ((ordN_zero_iff _ _).2 h1)).trans ?_; exact lex_yes ((ordN_zero_iff _ _).2 h2)
def cmpV:Ver→Ver→Int:=lex cmpCore fun u v=>cmpPre u.pre v.pre
def fullV:Ver→Ver→Int:=lex cmpV fun u v=>cmpRows u.build v.build
theorem core_ordr:Ordr cmpCore:=(ordN_ordr.on Ver.a).lex ((ordN_ordr.on Ver.b).lex (ordN_ordr.on Ver.c))
theorem pre_ordr:Ordr cmpPre:=(ordN_ordr.on noneN).lex rows_ordr
theorem cmpV_ordr:Ordr cmpV:=core_ordr.lex (pre_ordr.on Ver.pre)
theorem fullV_ordr:Ordr fullV:=cmpV_ordr.lex (rows_ordr.on Ver.build)

def bare (v:Ver):Ver:={ v with build:=[] }

def firstV (x y z:Nat):Ver:=⟨x,y,z,[[48]],[]⟩
def endV (x y z i:Nat):Option Ver :=
 if i=0 then (if 9223372036854775807≤x then none else some (firstV (x+1) 0 0))
 else if i=1 then (if 9223372036854775807≤y then none else some (firstV x (y+1) 0))
 else if 9223372036854775807≤z then none else some (firstV x y (z+1))
def placeV (x y:Nat):Nat:=if x≠0 then 0 else if y≠0 then 1 else 2
def caretV (v:Ver):Option Ver:=endV v.a v.b v.c (placeV v.a v.b)
def tildeV (v:Ver):Option Ver:=endV v.a v.b v.c 1
def verOf (o:Option Ver):Ver:=o.getD noVer
theorem end_ahead {v e:Ver} {i:Nat} (h:endV v.a v.b v.c i=some e):cmpV v e=-1:=by
 have k:cmpCore v e=-1:=by
  unfold endV at h
  split at h
  ·split at h
   ·cases h
   ·cases h
    rw [cmpCore_1 (by show v.a≠v.a+1; omega)]; exact ordN_lt (Nat.lt_succ_self v.a)
  ·split at h
   ·split at h
    ·cases h
    ·cases h
     exact (cmpCore_2 (u:=v) (v:=firstV v.a (v.b+1) 0) rfl (by show v.b≠v.b+1; omega)).trans (ordN_lt (Nat.lt_succ_self v.b))
   ·split at h
    ·cases h
    ·cases h
     exact (cmpCore_3 (u:=v) (v:=firstV v.a v.b (v.c+1)) rfl rfl).trans (ordN_lt (Nat.lt_succ_self v.c))
 unfold cmpV
 rw [lex_no (by rw [k]; omega)]; exact k
end Go.Proofs.YtgakcdcfblgagaaGreatDoor.Prec
namespace Go.Proofs.YtgakcdcfblgagaaGreatDoor.Ident
open Go.RowKit Num

theorem drop_texts (xs:List (List UInt8)) (k:Nat) (h:k<xs.length):xs.drop k=xs.getD k [] :: xs.drop (k+1):=by
 rw [List.drop_eq_getElem_cons h]; simp [List.getD,List.getElem?_eq_getElem h]
theorem getD_mem (xs:List (List UInt8)) (k:Nat) (h:k<xs.length):xs.getD k [] ∈ xs:=by
 simp [List.getD,List.getElem?_eq_getElem h]
theorem ordN_zero {a b:Nat} (h:a≤b):ordN 0 (b - a)=ordN a b:=by
 rcases Nat.lt_or_ge a b with h1 | h1
 ·rw [ordN_lt h1,ordN_lt (by omega)]
 ·rw [ordN_eq (by omega),ordN_eq (by omega)]
theorem ordN_zero' {a b:Nat} (h:b≤a):ordN (a - b) 0=ordN a b:=by
 rcases Nat.lt_or_ge b a with h1 | h1
 ·rw [ordN_gt h1,ordN_gt (by omega)]
 ·rw [ordN_eq (by omega),ordN_eq (by omega)]
theorem rows_end {xs ys:List (List UInt8)} {k:Nat} (h1:k≤xs.length) (h2:k≤ys.length) (h:k=xs.length∨k=ys.length):cmpRows (xs.drop k) (ys.drop k)=ordN xs.length ys.length:=by
 rcases h with h | h
 ·subst h
  rw [List.drop_eq_nil_of_le (Nat.le_refl _),cmpRows_nil,List.length_drop]; exact ordN_zero h2
 ·subst h
  rw [List.drop_eq_nil_of_le (Nat.le_refl ys.length),cmpRows_nil',List.length_drop]; exact ordN_zero' h1

def RowsJ (w:World) (A:Option Addr) (a ca:Nat) (B:Option Addr) (b cb:Nat) (g:Value) (xs ys:List (List UInt8)) (a':Act) (w':World):Prop :=
 ∃ (k:Nat) (u8 u9 u10 u11 u12 u13 u14 u15 u16 u17 u18 u19 u20 u21 u22 u23 u24 u25 u26 u27 u28 u29 u30 u31 u32 u33 u34 u35 u36 u37 u38:Value),BelowD w.heap.size w w'∧k≤a∧k≤b∧cmpRows (xs.drop k) (ys.drop k)=cmpRows xs ys ∧
  a'={ tmps:=#[.slice A a ca,.slice B b cb,g,undef,undef,undef,.int .i64 0,.int .i64 k,u8,u9,u10,u11,u12,u13,u14,u15,u16,u17,u18,u19,u20,u21,u22,u23,u24,u25,u26,u27,u28,u29,u30,u31,u32,u33,u34,u35,u36,u37,u38],defers:=[] }
def RowsM (n:Nat) (a':Act) (_:World):Nat:=n - (intOf (a'.tmps.getD 7 undef)).toNat

theorem rowsG_anyD (A:Option Addr) (a ca:Nat) (xs:List (List UInt8)) (B:Option Addr) (b cb:Nat) (ys:List (List UInt8)) (w:World) (hA:SRow w A a xs) (hB:SRow w B b ys)
  (ha:a≤maxLen) (hb:b≤maxLen) (hx:∀ x ∈ xs,x.length≤maxLen) (hy:∀ y ∈ ys,y.length≤maxLen) :
  Calls Tryz.prog 171 #[.slice A a ca,.slice B b cb,.func (.func 172) #[] #[]] w fun e w'=>e=.returned (.int .i64 (cmpRows xs ys))∧BelowD w.heap.size w w':=by
 unfold maxLen at ha hb
 have HA:=Lib.hid hA
 have HB:=Lib.hid hB
 have HX:=Lib.hid hx
 have HY:=Lib.hid hy
 have HLA:=Lib.hid hA.1
 have HLB:=Lib.hid hB.1
 clear hA hB hx hy
 go_enter Tryz.func171,Tryz.ntmps171
 go_wp2
 refine wp_scope_back 0 (RowsJ w A a ca B b cb (.func (.func 172) #[] #[]) xs ys) (RowsM a) rfl ?_ ?_
 ·rintro a' w1 ⟨k,u8,u9,u10,u11,u12,u13,u14,u15,u16,u17,u18,u19,u20,u21,u22,u23,u24,u25,u26,u27,u28,u29,u30,u31,u32,u33,u34,u35,u36,u37,u38,hb1,hk1,hk2,hgo,rfl⟩
  have HB1:=Lib.hid hb1
  have HG:=Lib.hid hgo
  clear hb1 hgo
  have hz1:=HB1.out.size
  have HE:Hid (k=a∨k=b→cmpRows xs ys=ordN a b):=fun h=>by
   rw [← HG.out,rows_end (by rw [HLA.out]; exact hk1) (by rw [HLB.out]; exact hk2) (by rw [HLA.out,HLB.out]; exact h),HLA.out,HLB.out]
  by_cases h1:k=a
  ·have HE2:=Lib.hid (HE.out (.inl h1))
   have hb1:((k:Int) == (a:Int))=true:=by simp [h1]
   clear h1 HE
   go_wp2_with fail
   refine (cmp_any _ _ _).mono ?_
   rintro e w' ⟨rfl,rfl⟩
   go_wp2
   simp only [Exit.jump]
   go_ret
   exact ⟨by rw [HE2.out]; rfl,HB1.out⟩
  by_cases h2:k=b
  ·have HE2:=Lib.hid (HE.out (.inr h2))
   have hb1:((k:Int) == (a:Int))=false:=by simp; omega
   have hb2:((k:Int) == (b:Int))=true:=by simp [h2]
   clear h1 h2 HE
   go_wp2_with fail
   refine (cmp_any _ _ _).mono ?_
   rintro e w' ⟨rfl,rfl⟩
   go_wp2
   simp only [Exit.jump]
   go_ret
   exact ⟨by rw [HE2.out]; rfl,HB1.out⟩
  have hb1:((k:Int) == (a:Int))=false:=by simp; omega
  have hb2:((k:Int) == (b:Int))=false:=by simp; omega
  have hka:k<a:=by omega
  have hkb:k<b:=by omega
  clear h1 h2 HE
  obtain ⟨g1,o1,rfl,hg1,hc1⟩:=(HA.out.kept HB1.out.toBelow).2 (by omega)
  obtain ⟨g2,o2,rfl,hg2,hc2⟩:=(HB.out.kept HB1.out.toBelow).2 (by omega)
  have hx1:=hc1 k hka
  have hx2:=hc2 k hkb
  clear hc1 hc2
  have HZ1:=Lib.hid (HX.out _ (getD_mem xs k (by rw [HLA.out]; exact hka)))
  have HZ2:=Lib.hid (HY.out _ (getD_mem ys k (by rw [HLB.out]; exact hkb)))
  have HD:Hid (cmpRows xs ys=if cmpId (xs.getD k []) (ys.getD k [])=0 then cmpRows (xs.drop (k+1)) (ys.drop (k+1)) else cmpId (xs.getD k []) (ys.getD k [])):=by
   unfold Hid
   rw [← HG.out,drop_texts xs k (by rw [HLA.out]; exact hka),drop_texts ys k (by rw [HLB.out]; exact hkb),cmpRows]
  generalize xs.getD k []=s at hx1 HZ1 HD
  generalize ys.getD k []=t at hx2 HZ2 HD
  go_wp2
  go_still_tail 9,(by kernel_rfl)
  change wpList _ _ _ _ _ w1.drew
  have HW:=Lib.hid HB1.out.drew
  generalize w1.drew=w2 at HW
  have hz2:=HW.out.size
  obtain ⟨c,hc⟩:∃ c,cmpId s t=c:=⟨_,rfl⟩
  rw [hc] at HD
  have HC:=Lib.hid hc; clear hc
  go_wp2_with fail
  refine (idcmp_anyD (mk s) (mk t) _ (by rw [mk_size]; exact HZ1.out) (by rw [mk_size]; exact HZ2.out)).mono ?_
  rw [mk_list,mk_list,HC.out]
  rintro e w3 ⟨rfl,hb3⟩
  have HB3:=Lib.hid (HW.out.trans (hb3.mono hz2))
  clear hb3
  by_cases hc0:c=0
  ·have HD2:Hid (cmpRows (xs.drop (k+1)) (ys.drop (k+1))=cmpRows xs ys):=by have:=HD.out; rw [if_pos hc0] at this; exact this.symm
   subst hc0
   clear HD
   go_wp2
   go_step3
   rw [show ((k:Int)+1)=((k+1:Nat):Int) from rfl]
   refine ⟨rfl,⟨k+1,_,_,_,_,_,_,_,_,_,_,_,_,_,_,_,_,_,_,_,_,_,_,_,_,_,_,_,_,_,_,_,HB3.out,by omega,by omega,HD2.out,rfl⟩,?_⟩
   simp [RowsM,intOf]; omega
  ·have HD2:Hid (cmpRows xs ys=c):=by have:=HD.out; rw [if_neg hc0] at this; exact this
   have hn:(c == 0)=false:=by simp [hc0]
   have hn2:(c != 0)=true:=by simp [hc0]
   clear HD hc0
   go_wp2
   simp only [Exit.jump]
   go_ret
   exact ⟨by rw [HD2.out]; rfl,HB3.out⟩
 ·intro HP
  go_wp2
  go_step3
  rename_i hK
  exact hK _ _ (HP.out _ _ ⟨0,_,_,_,_,_,_,_,_,_,_,_,_,_,_,_,_,_,_,_,_,_,_,_,_,_,_,_,_,_,_,_,BelowD.refl _ _,by omega,by omega,rfl,rfl⟩)
theorem rows_anyD (A:Option Addr) (a ca:Nat) (xs:List (List UInt8)) (B:Option Addr) (b cb:Nat) (ys:List (List UInt8)) (w:World) (hA:SRow w A a xs) (hB:SRow w B b ys)
  (ha:a≤maxLen) (hb:b≤maxLen) (hx:∀ x ∈ xs,x.length≤maxLen) (hy:∀ y ∈ ys,y.length≤maxLen) :
  Calls Tryz.prog 114 #[.slice A a ca,.slice B b cb] w fun e w'=>e=.returned (.int .i64 (cmpRows xs ys))∧BelowD w.heap.size w w':=by
 have HA:=Lib.hid hA
 have HB:=Lib.hid hB
 have HX:=Lib.hid hx
 have HY:=Lib.hid hy
 have HM:=Lib.hid ha
 have HN:=Lib.hid hb
 clear hA hB hx hy ha hb
 go_enter Tryz.func114,Tryz.ntmps114
 go_wp2_with fail
 refine (rowsG_anyD A a ca xs B b cb ys _ HA.out HB.out HM.out HN.out HX.out HY.out).mono ?_
 rintro e w1 ⟨rfl,hb1⟩
 go_wp2
 go_ret
 exact ⟨rfl,hb1⟩
end Go.Proofs.YtgakcdcfblgagaaGreatDoor.Ident
