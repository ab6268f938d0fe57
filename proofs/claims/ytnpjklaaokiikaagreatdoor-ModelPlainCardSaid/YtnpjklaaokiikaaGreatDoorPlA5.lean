/-
  What the theorem of the last text needs of these: SvSame, PrMath, RgMem. Conditions: as each theorem states.
-/
import Derived.Test.YtnpjklaaokiikaaGreatDoorPlA1
import Derived.Test.YtnpjklaaokiikaaGreatDoorPlA2
import Derived.Test.YtnpjklaaokiikaaGreatDoorPlA3
import Derived.Test.YtnpjklaaokiikaaGreatDoorPlA4
import Derived.StillTailTactics
import Derived.Deep.CutBlock
import Derived.Deep.DeepCutAuto
import Derived.Deep.RegionHeld3
import Derived.Deep.Draws
set_option maxRecDepth 100000
set_option maxHeartbeats 25600000
namespace Go.Proofs.YtnpjklaaokiikaaGreatDoor.Semver
open Go.RowKit Num Ident

theorem equal_any (A:Option Addr) (a ca:Nat) (xs:List (List UInt8)) (B:Option Addr) (b cb:Nat) (ys:List (List UInt8)) (w:World) (hA:SRow w A a xs) (hB:SRow w B b ys) (ha:a≤maxLen) (hb:b≤maxLen) :
  Calls Tryz.prog 187 #[.slice A a ca,.slice B b cb] w fun e w'=>e=.returned (.bool (sameB xs ys))∧Below w.heap.size w w':=by
 unfold maxLen at ha hb
 have HA:=Lib.hid hA
 have HB:=Lib.hid hB
 have HLA:=Lib.hid hA.1
 have HLB:=Lib.hid hB.1
 clear hA hB
 by_cases hab:a=b
 ·subst hab
  go_enter Tryz.func187,Tryz.ntmps187
  go_wp2
  go_loopw [13] (fun i W=>∃ k:Nat,k≤a∧i=.int .i64 k∧Hid (∀ j,j<k→xs.getD j []=ys.getD j [])∧Hid (Below w.heap.size w W)) (fun i _=>a - (intOf i).toNat)
  case atStart=>exact ⟨0,Nat.zero_le _,rfl,(fun j hj=>by omega),Below.refl _ _⟩
  case round =>
   obtain ⟨k,hk,rfl,HD,HW⟩:=hrel
   by_cases hlt:k<a
   ·obtain ⟨g1,o1,rfl,hg1,hc1⟩:=(HA.out.kept HW.out).2 (by omega)
    obtain ⟨g2,o2,rfl,hg2,hc2⟩:=(HB.out.kept HW.out).2 (by omega)
    have hx1:=hc1 k hlt
    have hx2:=hc2 k hlt
    clear hc1 hc2
    obtain ⟨s,hs⟩:∃ s,mk (xs.getD k [])=s:=⟨_,rfl⟩
    obtain ⟨t,ht⟩:∃ t,mk (ys.getD k [])=t:=⟨_,rfl⟩
    have HS:Hid (s=t→xs.getD k []=ys.getD k []):=fun h=>by rw [← hs,← ht] at h; have:=congrArg (fun z:ByteArray=>z.data.toList) h; exact this
    have HS2:Hid (s≠t→xs≠ys):=fun h h2=>h (by rw [← hs,← ht,h2])
    rw [hs] at hx1
    rw [ht] at hx2
    clear hs ht
    by_cases hst:s=t
    ·have HS3:=Lib.hid (HS.out hst)
     subst hst
     have hq:(s.toList == s.toList)=true:=by simp
     have hq2:(s.toList != s.toList)=false:=by simp
     go_wp2
     go_still (by kernel_rfl)
     have HW2:=Lib.hid HW.out.drew
     go_wp2
     refine ⟨⟨k+1,by omega,by go_num,(fun j hj=>?_),HW2.out⟩,by simp [intOf]; omega⟩
     rcases Nat.lt_or_ge j k with hj1 | hj1
     ·exact HD.out j hj1
     ·obtain rfl:j=k:=by omega
      exact HS3.out
    ·have HS3:=Lib.hid (HS2.out hst)
     have hq:(s.toList == t.toList)=false:=by
      rw [Lib.toList_data,Lib.toList_data,beq_eq_false_iff_ne]
      exact fun h=>hst (by have:=congrArg mk h; exact this)
     have hq2:(s.toList != t.toList)=true:=by rw [bne,hq]; rfl
     clear hst
     go_wp2
     go_still (by kernel_rfl)
     have HW2:=Lib.hid HW.out.drew
     go_wp2
     go_ret
     exact ⟨by rw [sameB_no HS3.out]; rfl,HW2.out⟩
   ·have HF:Hid (sameB xs ys=true):=(sameB_iff xs ys).2 (List.ext_getElem (by rw [HLA.out,HLB.out]) fun j h1 h2=>by
     have:=HD.out j (by rw [HLA.out] at h1; omega)
     simpa [List.getD,List.getElem?_eq_getElem h1,List.getElem?_eq_getElem h2] using this)
    go_wp2
    go_ret
    exact ⟨by rw [HF.out]; rfl,HW.out⟩
 ·have HF:Hid (sameB xs ys=false):=sameB_no fun h=>hab (by rw [← HLA.out,← HLB.out,h])
  have hq:((a:Int) == (b:Int))=false:=by simp; omega
  have hq2:((a:Int) != (b:Int))=true:=by simp; omega
  go_enter Tryz.func187,Tryz.ntmps187
  go_wp2
  go_ret
  exact ⟨by rw [HF.out]; rfl,Below.refl _ _⟩
theorem coreOf_any (a b c:Int) (x y:Value) (w:World) :
  Calls Tryz.prog 115 #[.agg #[.int .u64 a,.int .u64 b,.int .u64 c,x,y]] w fun e w'=>e=.returned (.agg #[.int .u64 a,.int .u64 b,.int .u64 c])∧Below w.heap.size w w':=by
 go_enter Tryz.func115,Tryz.ntmps115
 go_wp2
 exact bodyPost_ret (v:=.agg #[.int .u64 a,.int .u64 b,.int .u64 c]) (by simp [results,Tryz.results115,go_sem]) rfl ⟨rfl,((Below.refl _ _).alloc (Nat.le_refl _) _).alloc (by simp) _⟩
theorem same_parts (A1:Option Addr) (a1 c1:Nat) (xs1:List (List UInt8)) (A2:Option Addr) (a2 c2:Nat) (xs2:List (List UInt8)) (B1:Option Addr) (b1 d1:Nat) (ys1:List (List UInt8)) (B2:Option Addr) (b2 d2:Nat) (ys2:List (List UInt8)) (n0 n1 n2 m0 m1 m2:Nat) (w:World)
  (r1:SRow w A1 a1 xs1) (r2:SRow w A2 a2 xs2) (q1:SRow w B1 b1 ys1) (q2:SRow w B2 b2 ys2) (ha1:a1≤maxLen) (ha2:a2≤maxLen) (hb1:b1≤maxLen) (hb2:b2≤maxLen) :
  Calls Tryz.prog 132 #[.agg #[.int .u64 n0,.int .u64 n1,.int .u64 n2,.slice A1 a1 c1,.slice A2 a2 c2],.agg #[.int .u64 m0,.int .u64 m1,.int .u64 m2,.slice B1 b1 d1,.slice B2 b2 d2]] w fun e w'=>e=.returned (.bool (sameV ⟨n0,n1,n2,xs1,xs2⟩ ⟨m0,m1,m2,ys1,ys2⟩))∧Below w.heap.size w w':=by
 have R1:=Lib.hid r1
 have R2:=Lib.hid r2
 have Q1:=Lib.hid q1
 have Q2:=Lib.hid q2
 have HA1:=Lib.hid ha1
 have HA2:=Lib.hid ha2
 have HB1:=Lib.hid hb1
 have HB2s:=Lib.hid hb2
 clear r1 r2 q1 q2 ha1 ha2 hb1 hb2
 have HB0:Hid (Below w.heap.size w ((w.alloc (.cells #[.int .u64 n0,.int .u64 n1,.int .u64 n2,.slice A1 a1 c1,.slice A2 a2 c2] 34)).alloc (.cells #[.int .u64 m0,.int .u64 m1,.int .u64 m2,.slice B1 b1 d1,.slice B2 b2 d2] 34))):=((Below.refl _ _).alloc (Nat.le_refl _) _).alloc (by simp) _
 have HP1:Hid (At5 ((w.alloc (.cells #[.int .u64 n0,.int .u64 n1,.int .u64 n2,.slice A1 a1 c1,.slice A2 a2 c2] 34)).alloc (.cells #[.int .u64 m0,.int .u64 m1,.int .u64 m2,.slice B1 b1 d1,.slice B2 b2 d2] 34)) w.heap.size (.int .u64 n0) (.int .u64 n1) (.int .u64 n2) (.slice A1 a1 c1) (.slice A2 a2 c2)):=(At5.new w 34 _ _ _ _ _).kept ((Below.refl _ _).alloc (Nat.le_refl _) _) (by simp)
 have HP2:Hid (At5 ((w.alloc (.cells #[.int .u64 n0,.int .u64 n1,.int .u64 n2,.slice A1 a1 c1,.slice A2 a2 c2] 34)).alloc (.cells #[.int .u64 m0,.int .u64 m1,.int .u64 m2,.slice B1 b1 d1,.slice B2 b2 d2] 34)) (w.heap.size+1) (.int .u64 m0) (.int .u64 m1) (.int .u64 m2) (.slice B1 b1 d1) (.slice B2 b2 d2)):=by
  have:=At5.new (w.alloc (.cells #[.int .u64 n0,.int .u64 n1,.int .u64 n2,.slice A1 a1 c1,.slice A2 a2 c2] 34)) 34 (.int .u64 m0) (.int .u64 m1) (.int .u64 m2) (.slice B1 b1 d1) (.slice B2 b2 d2)
  rw [size_alloc] at this; exact this
 have HD:=Lib.hid ((Below.refl ((w.alloc (.cells #[.int .u64 n0,.int .u64 n1,.int .u64 n2,.slice A1 a1 c1,.slice A2 a2 c2] 34)).alloc (.cells #[.int .u64 m0,.int .u64 m1,.int .u64 m2,.slice B1 b1 d1,.slice B2 b2 d2] 34)).heap.size ((w.alloc (.cells #[.int .u64 n0,.int .u64 n1,.int .u64 n2,.slice A1 a1 c1,.slice A2 a2 c2] 34)).alloc (.cells #[.int .u64 m0,.int .u64 m1,.int .u64 m2,.slice B1 b1 d1,.slice B2 b2 d2] 34))).drew)
 have HDw:=Lib.hid (HD.out.mono (B':=w.heap.size) (by simp; omega))
 by_cases hn:n0=m0∧n1=m1∧n2=m2
 ·obtain ⟨rfl,rfl,rfl⟩:=hn
  have kq:=fun W=>run_eq3 n0 n1 n2 n0 n1 n2 W
  rw [show ((((n0:Int) == (n0:Int)) && (((n1:Int) == (n1:Int)) && ((n2:Int) == (n2:Int)))))=true by simp] at kq
  have HF:Hid (sameV ⟨n0,n1,n2,xs1,xs2⟩ ⟨n0,n1,n2,ys1,ys2⟩=(sameB xs1 ys1 && sameB xs2 ys2)):=by unfold Hid sameV; simp
  go_enter Tryz.func132,Tryz.ntmps132
  go_upto_region 1 with (fail)
  refine wp_region_held_drew (S:=fun w'=>(w'.cell? ⟨w.heap.size,0,none⟩=some (.int .u64 n0)∧w'.cell? ⟨w.heap.size,1,none⟩=some (.int .u64 n1)∧w'.cell? ⟨w.heap.size,2,none⟩=some (.int .u64 n2)∧w'.cell? ⟨w.heap.size,3,none⟩=some (.slice A1 a1 c1)∧w'.cell? ⟨w.heap.size,4,none⟩=some (.slice A2 a2 c2))∧(w'.cell? ⟨(w.heap.size+1),0,none⟩=some (.int .u64 n0)∧w'.cell? ⟨(w.heap.size+1),1,none⟩=some (.int .u64 n1)∧w'.cell? ⟨(w.heap.size+1),2,none⟩=some (.int .u64 n2)∧w'.cell? ⟨(w.heap.size+1),3,none⟩=some (.slice B1 b1 d1)∧w'.cell? ⟨(w.heap.size+1),4,none⟩=some (.slice B2 b2 d2))) (by kernel_rfl) ⟨HP1.out.2.2,HP2.out.2.2⟩ (fun hHeld=>?_)
  refine tk 0 rfl (.agg #[.int .u64 n0,.int .u64 n1,.int .u64 n2,.slice A1 a1 c1,.slice A2 a2 c2]) ?_
  refine tk 2 rfl (.agg #[.int .u64 n0,.int .u64 n1,.int .u64 n2,.slice B1 b1 d1,.slice B2 b2 d2]) ?_
  refine cl 1 rfl fun K hK=>?_
  go_simp
  refine (coreOf_any _ _ _ _ _ _).mono ?_
  rintro e w2 ⟨rfl,hb2⟩
  have HK1:=Lib.hid ((HP1.out.kept HD.out (by simp; omega)).kept hb2 (by simp; omega))
  have HK2:=Lib.hid ((HP2.out.kept HD.out (by simp)).kept hb2 (by simp))
  have HB2:=Lib.hid ((HB0.out.trans HDw.out).trans (hb2.mono (by simp; omega)))
  have hz2:w.heap.size+2≤w2.heap.size:=by have:=hb2.size; simpa using this
  clear hb2
  refine hK.out _ _ ⟨HK1.out.2.2,HK2.out.2.2⟩ (fun hHeld=>?_)
  clear hK K
  try simp only [Act.put,p1,p2,p3]
  refine cl 3 rfl fun K hK=>?_
  go_simp
  refine (coreOf_any _ _ _ _ _ _).mono ?_
  rintro e w3 ⟨rfl,hb3⟩
  have HM1:=Lib.hid (HK1.out.kept hb3 (by omega))
  have HM2:=Lib.hid (HK2.out.kept hb3 (by omega))
  have HB3:=Lib.hid (HB2.out.trans (hb3.mono (by omega)))
  have hz3:=hb3.size
  clear hb3
  refine hK.out _ _ ⟨HM1.out.2.2,HM2.out.2.2⟩ (fun hHeld=>?_)
  clear hK K
  try simp only [Act.put,p1,p2,p3]
  refine tk 4 rfl (.bool true) ?_
  refine tk 5 rfl (.bool true) ?_
  refine tk 6 rfl (.pointer (some ⟨w.heap.size,3,none⟩)) ?_
  refine tk 7 rfl (.slice A1 a1 c1) ?_
  refine tk 8 rfl (.pointer (some ⟨w.heap.size+1,3,none⟩)) ?_
  refine tk 9 rfl (.slice B1 b1 d1) ?_
  refine cl 10 rfl fun K hK=>?_
  go_simp
  refine (equal_any _ _ _ xs1 _ _ _ ys1 _ (R1.out.kept HB3.out) (Q1.out.kept HB3.out) HA1.out HB1.out).mono ?_
  rintro e w4 ⟨rfl,hb4⟩
  have HN1:=Lib.hid (HM1.out.kept hb4 (by omega))
  have HN2:=Lib.hid (HM2.out.kept hb4 (by omega))
  have HB4:=Lib.hid (HB3.out.trans (hb4.mono (by omega)))
  have hz4:=hb4.size
  clear hb4
  refine hK.out _ _ ⟨HN1.out.2.2,HN2.out.2.2⟩ (fun hHeld=>?_)
  clear hK K
  try simp only [Act.put,p1,p2,p3]
  generalize sameB xs1 ys1=s1 at HF ⊢
  cases s1
  ·refine tk 11 rfl (.bool false) ?_
   refine tk 12 rfl (.bool false) ?_
   refine sk 13 rfl ?_
   refine sk 14 rfl ?_
   refine sk 15 rfl ?_
   refine sk 16 rfl ?_
   refine sk 17 rfl ?_
   refine tk 18 rfl (.bool false) ?_
   refine tk 19 rfl (.bool false) ?_
   refine wpAnyH_done (by kernel_rfl) ?_ _
   go_wp2
   go_ret
   exact ⟨by rw [HF.out]; rfl,HB4.out⟩
  ·refine tk 11 rfl (.bool true) ?_
   refine tk 12 rfl (.bool true) ?_
   refine tk 13 rfl (.pointer (some ⟨w.heap.size,4,none⟩)) ?_
   refine tk 14 rfl (.slice A2 a2 c2) ?_
   refine tk 15 rfl (.pointer (some ⟨w.heap.size+1,4,none⟩)) ?_
   refine tk 16 rfl (.slice B2 b2 d2) ?_
   refine cl 17 rfl fun K hK=>?_
   go_simp
   refine (equal_any _ _ _ xs2 _ _ _ ys2 _ (R2.out.kept HB4.out) (Q2.out.kept HB4.out) HA2.out HB2s.out).mono ?_
   rintro e w5 ⟨rfl,hb5⟩
   have HO1:=Lib.hid (HN1.out.kept hb5 (by omega))
   have HO2:=Lib.hid (HN2.out.kept hb5 (by omega))
   have HB5:=Lib.hid (HB4.out.trans (hb5.mono (by omega)))
   clear hb5
   refine hK.out _ _ ⟨HO1.out.2.2,HO2.out.2.2⟩ (fun hHeld=>?_)
   clear hK K
   try simp only [Act.put,p1,p2,p3]
   refine tk 18 rfl (.bool (sameB xs2 ys2)) ?_
   refine tk 19 rfl (.bool (sameB xs2 ys2)) ?_
   refine wpAnyH_done (by kernel_rfl) ?_ _
   go_wp2
   go_ret
   exact ⟨by rw [HF.out]; rfl,HB5.out⟩
 ·have HF:Hid (sameV ⟨n0,n1,n2,xs1,xs2⟩ ⟨m0,m1,m2,ys1,ys2⟩=false):=by unfold Hid sameV; rw [decide_eq_false hn]; rfl
  have hq:(((n0:Int) == (m0:Int)) && (((n1:Int) == (m1:Int)) && ((n2:Int) == (m2:Int))))=false:=by
   rw [← Bool.not_eq_true]; simp only [Bool.and_eq_true,beq_iff_eq]; omega
  have kq:=fun W=>run_eq3 n0 n1 n2 m0 m1 m2 W
  rw [hq] at kq
  clear hn hq
  go_enter Tryz.func132,Tryz.ntmps132
  go_upto_region 1 with (fail)
  refine wp_region_held_drew (S:=fun w'=>(w'.cell? ⟨w.heap.size,0,none⟩=some (.int .u64 n0)∧w'.cell? ⟨w.heap.size,1,none⟩=some (.int .u64 n1)∧w'.cell? ⟨w.heap.size,2,none⟩=some (.int .u64 n2)∧w'.cell? ⟨w.heap.size,3,none⟩=some (.slice A1 a1 c1)∧w'.cell? ⟨w.heap.size,4,none⟩=some (.slice A2 a2 c2))∧(w'.cell? ⟨(w.heap.size+1),0,none⟩=some (.int .u64 m0)∧w'.cell? ⟨(w.heap.size+1),1,none⟩=some (.int .u64 m1)∧w'.cell? ⟨(w.heap.size+1),2,none⟩=some (.int .u64 m2)∧w'.cell? ⟨(w.heap.size+1),3,none⟩=some (.slice B1 b1 d1)∧w'.cell? ⟨(w.heap.size+1),4,none⟩=some (.slice B2 b2 d2))) (by kernel_rfl) ⟨HP1.out.2.2,HP2.out.2.2⟩ (fun hHeld=>?_)
  refine tk 0 rfl (.agg #[.int .u64 n0,.int .u64 n1,.int .u64 n2,.slice A1 a1 c1,.slice A2 a2 c2]) ?_
  refine tk 2 rfl (.agg #[.int .u64 m0,.int .u64 m1,.int .u64 m2,.slice B1 b1 d1,.slice B2 b2 d2]) ?_
  refine cl 1 rfl fun K hK=>?_
  go_simp
  refine (coreOf_any _ _ _ _ _ _).mono ?_
  rintro e w2 ⟨rfl,hb2⟩
  have HK1:=Lib.hid ((HP1.out.kept HD.out (by simp; omega)).kept hb2 (by simp; omega))
  have HK2:=Lib.hid ((HP2.out.kept HD.out (by simp)).kept hb2 (by simp))
  have HB2:=Lib.hid ((HB0.out.trans HDw.out).trans (hb2.mono (by simp; omega)))
  have hz2:w.heap.size+2≤w2.heap.size:=by have:=hb2.size; simpa using this
  clear hb2
  refine hK.out _ _ ⟨HK1.out.2.2,HK2.out.2.2⟩ (fun hHeld=>?_)
  clear hK K
  try simp only [Act.put,p1,p2,p3]
  refine cl 3 rfl fun K hK=>?_
  go_simp
  refine (coreOf_any _ _ _ _ _ _).mono ?_
  rintro e w3 ⟨rfl,hb3⟩
  have HM1:=Lib.hid (HK1.out.kept hb3 (by omega))
  have HM2:=Lib.hid (HK2.out.kept hb3 (by omega))
  have HB3:=Lib.hid (HB2.out.trans (hb3.mono (by omega)))
  have hz3:=hb3.size
  clear hb3
  refine hK.out _ _ ⟨HM1.out.2.2,HM2.out.2.2⟩ (fun hHeld=>?_)
  clear hK K
  try simp only [Act.put,p1,p2,p3]
  refine tk 4 rfl (.bool false) ?_
  refine tk 5 rfl (.bool false) ?_
  refine sk 6 rfl ?_
  refine sk 7 rfl ?_
  refine sk 8 rfl ?_
  refine sk 9 rfl ?_
  refine sk 10 rfl ?_
  refine tk 11 rfl (.bool false) ?_
  refine tk 12 rfl (.bool false) ?_
  refine sk 13 rfl ?_
  refine sk 14 rfl ?_
  refine sk 15 rfl ?_
  refine sk 16 rfl ?_
  refine sk 17 rfl ?_
  refine tk 18 rfl (.bool false) ?_
  refine tk 19 rfl (.bool false) ?_
  refine wpAnyH_done (by kernel_rfl) ?_ _
  go_wp2
  go_ret
  exact ⟨by rw [HF.out]; rfl,HB3.out⟩
end Go.Proofs.YtnpjklaaokiikaaGreatDoor.Semver
namespace Go.Proofs.YtnpjklaaokiikaaGreatDoor.Prec
open Go.RowKit Num Ident Semver

structure Ordr {T:Type} (f:T→T→Int):Prop where
 flip:∀ x y,f y x=0 - f x y
 trans:∀ x y z,f x y≤0→f y z≤0→f x z≤0
theorem Ordr.self {T:Type} {f:T→T→Int} (h:Ordr f) (x:T):f x x=0:=by have:=h.flip x x; omega
def lex {T:Type} (f g:T→T→Int) (x y:T):Int:=if f x y=0 then g x y else f x y
theorem lex_no {T:Type} {f g:T→T→Int} {x y:T} (h:f x y≠0):lex f g x y=f x y:=by unfold lex; rw [if_neg h]
theorem lex_yes {T:Type} {f g:T→T→Int} {x y:T} (h:f x y=0):lex f g x y=g x y:=by unfold lex; rw [if_pos h]
theorem Ordr.lex {T:Type} {f g:T→T→Int} (hf:Ordr f) (hg:Ordr g):Ordr (lex f g):=by
 refine ⟨fun x y=>?_,fun x y z h1 h2=>?_⟩
 ·have e:=hf.flip x y
  by_cases h:f x y=0
  ·rw [lex_yes h,lex_yes (by omega)]; exact hg.flip x y
  ·rw [lex_no h,lex_no (by omega)]; exact e
 ·have a1:f x y≤0:=by
   by_cases h:f x y=0
   ·omega
   ·rw [lex_no h] at h1; exact h1
  have a2:f y z≤0:=by
   by_cases h:f y z=0
   ·omega
   ·rw [lex_no h] at h2; exact h2
  have a3:=hf.trans x y z a1 a2
  by_cases h:f x z=0
  ·have e1:=hf.flip x z
   have e2:=hf.flip x y
   have e3:=hf.flip y z
   have b1:=hf.trans z x y (by omega) a1
   have b2:=hf.trans y z x a2 (by omega)
   rw [lex_yes h]
   rw [lex_yes (show f x y=0 by omega)] at h1
   rw [lex_yes (show f y z=0 by omega)] at h2
   exact hg.trans x y z h1 h2
  ·rw [lex_no h]; exact a3
theorem Ordr.on {T U:Type} {f:T→T→Int} (h:Ordr f) (k:U→T):Ordr fun x y=>f (k x) (k y):=⟨fun _ _=>h.flip _ _,fun _ _ _=>h.trans _ _ _⟩

theorem ordN_ordr:Ordr ordN:=by
 refine ⟨fun x y=>ordN_flip x y,fun x y z h1 h2=>?_⟩
 rcases ordN_cases x y with ⟨a,b⟩ | ⟨a,b⟩ | ⟨a,b⟩ <;> rcases ordN_cases y z with ⟨c,d⟩ | ⟨c,d⟩ | ⟨c,d⟩ <;> rcases ordN_cases x z with ⟨e,f⟩ | ⟨e,f⟩ | ⟨e,f⟩ <;> omega
theorem bytes_flip:∀ a b:List UInt8,Lib.compareBytes b a=0 - Lib.compareBytes a b
 | [],[]=>rfl
 | [],_ :: _=>rfl
 | _ :: _,[]=>rfl
 | x :: a,y :: b=>by
  unfold Lib.compareBytes
  simp only [UInt8.lt_iff_toNat_lt]
  by_cases h1:x.toNat<y.toNat
  ·rw [if_pos h1,if_neg (show ¬ y.toNat<x.toNat by omega),if_pos h1]; rfl
  ·by_cases h2:y.toNat<x.toNat
   ·rw [if_pos h2,if_neg h1,if_pos h2]; rfl
   ·rw [if_neg h2,if_neg h1,if_neg h1,if_neg h2]; exact bytes_flip a b
theorem cmpId_flip (a b:List UInt8):cmpId b a=0 - cmpId a b:=by
 unfold cmpId
 by_cases ha:numeric a=true
 ·by_cases hb:numeric b=true
  ·have e1:=ordN_flip (val a) (val b)
   have e2:=ordN_flip a.length b.length
   simp only [if_pos ha,if_pos hb]
   by_cases h:ordN (val a) (val b)=0
   ·rw [if_pos h,if_pos (by omega)]; exact e2
   ·rw [if_neg h,if_neg (by omega)]; exact e1
  ·simp only [if_pos ha,if_neg hb]; rfl
 ·by_cases hb:numeric b=true
  ·simp only [if_neg ha,if_pos hb]; rfl
  ·simp only [if_neg ha,if_neg hb]; exact bytes_flip a b

theorem rows_flip:∀ r s:List (List UInt8),cmpRows s r=0 - cmpRows r s
 | [],s=>by rw [cmpRows_nil,cmpRows_nil']; exact ordN_flip 0 s.length
 | a :: r,[]=>by rw [cmpRows_nil,cmpRows_nil']; exact ordN_flip _ 0
 | a :: r,b :: s=>by
  have e:=cmpId_flip a b
  by_cases h:cmpId a b=0
  ·rw [cmpRows_same h,cmpRows_same (by omega)]; exact rows_flip r s
  ·rw [cmpRows_diff h,cmpRows_diff (by omega)]; exact e
theorem rows_nil_le (s:List (List UInt8)):cmpRows [] s≤0:=by
 rw [cmpRows_nil]; rcases ordN_cases 0 s.length with h | h | h <;> omega
theorem rows_trans:∀ r s t:List (List UInt8),cmpRows r s≤0→cmpRows s t≤0→cmpRows r t≤0
 | [],_,t,_,_=>rows_nil_le t
 | a :: r,[],_,h,_=>by
  rw [cmpRows_nil'] at h
  rcases ordN_cases (a :: r).length 0 with h2 | h2 | h2
  ·exact absurd h2.1 (by simp)
  ·exact absurd h2.1 (by simp)
  ·omega
 | a :: r,b :: s,[],_,h=>by
  rw [cmpRows_nil'] at h
  rcases ordN_cases (b :: s).length 0 with h2 | h2 | h2
  ·exact absurd h2.1 (by simp)
  ·exact absurd h2.1 (by simp)
  ·omega
 | a :: r,b :: s,c :: t,h1,h2=>by
  have a1:cmpId a b≤0:=by
   by_cases h:cmpId a b=0
   ·omega
   ·rw [cmpRows_diff h] at h1; exact h1
  have a2:cmpId b c≤0:=by
   by_cases h:cmpId b c=0
   ·omega
   ·rw [cmpRows_diff h] at h2; exact h2
  have a3:=cmpId_trans a b c a1 a2
  by_cases h:cmpId a c=0
  ·have e1:=cmpId_flip a c
   have e2:=cmpId_flip a b
   have e3:=cmpId_flip b c
   have b1:=cmpId_trans c a b (by omega) a1
   have b2:=cmpId_trans b c a a2 (by omega)
   rw [cmpRows_same h]
   rw [cmpRows_same (show cmpId a b=0 by omega)] at h1
   rw [cmpRows_same (show cmpId b c=0 by omega)] at h2
   exact rows_trans r s t h1 h2
  ·rw [cmpRows_diff h]; exact a3
theorem rows_ordr:Ordr cmpRows:=⟨rows_flip,rows_trans⟩

def noneN (x:List (List UInt8)):Nat:=if x.length=0 then 1 else 0
def cmpPre:List (List UInt8)→List (List UInt8)→Int:=lex (fun x y=>ordN (noneN x) (noneN y)) cmpRows
theorem cmpPre_one {x y:List (List UInt8)} (h1:x.length=0) (h2:y.length≠0):cmpPre x y=1:=by
 have e:ordN (noneN x) (noneN y)=1:=by unfold noneN; rw [if_pos h1,if_neg h2]; rfl
 unfold cmpPre; rw [lex_no (by rw [e]; omega)]; exact e
theorem cmpPre_two {x y:List (List UInt8)} (h1:x.length≠0) (h2:y.length=0):cmpPre x y=-1:=by
 have e:ordN (noneN x) (noneN y)=-1:=by unfold noneN; rw [if_neg h1,if_pos h2]; rfl
 unfold cmpPre; rw [lex_no (by rw [e]; omega)]; exact e
theorem cmpPre_rows {x y:List (List UInt8)} (h:x.length=0↔y.length=0):cmpPre x y=cmpRows x y:=by
 have e:ordN (noneN x) (noneN y)=0:=by
  unfold noneN
  by_cases h1:x.length=0
  ·rw [if_pos h1,if_pos (h.1 h1)]; rfl
  ·rw [if_neg h1,if_neg (fun h2=>h1 (h.2 h2))]; rfl
 unfold cmpPre; exact lex_yes e
def cmpCore:Ver→Ver→Int:=lex (fun u v=>ordN u.a v.a) (lex (fun u v=>ordN u.b v.b) fun u v=>ordN u.c v.c)
theorem ordN_zero_iff (x y:Nat):ordN x y=0↔x=y:=by rcases ordN_cases x y with h | h | h <;> omega
theorem cmpCore_1 {u v:Ver} (h:u.a≠v.a):cmpCore u v=ordN u.a v.a:=by
 unfold cmpCore; exact lex_no (fun e=>h ((ordN_zero_iff _ _).1 e))
theorem cmpCore_2 {u v:Ver} (h1:u.a=v.a) (h:u.b≠v.b):cmpCore u v=ordN u.b v.b:=by
 unfold cmpCore; refine (lex_yes (f:=fun u v:Ver=>ordN u.a v.a) ((ordN_zero_iff _ _).2 h1)).trans ?_; exact lex_no (fun e=>h ((ordN_zero_iff _ _).1 e))
theorem cmpCore_3 {u v:Ver} (h1:u.a=v.a) (h2:u.b=v.b):cmpCore u v=ordN u.c v.c:=by
 unfold cmpCore; refine (lex_yes (f:=fun u v:Ver=>ordN u.a v.a) ((ordN_zero_iff _ _).2 h1)).trans ?_; exact lex_yes ((ordN_zero_iff _ _).2 h2)
def cmpV:Ver→Ver→Int:=lex cmpCore fun u v=>cmpPre u.pre v.pre
def fullV:Ver→Ver→Int:=lex cmpV fun u v=>cmpRows u.build v.build
theorem core_ordr:Ordr cmpCore:=(ordN_ordr.on Ver.a).lex ((ordN_ordr.on Ver.b).lex (ordN_ordr.on Ver.c))
theorem pre_ordr:Ordr cmpPre:=(ordN_ordr.on noneN).lex rows_ordr
theorem cmpV_ordr:Ordr cmpV:=core_ordr.lex (pre_ordr.on Ver.pre)
theorem fullV_ordr:Ordr fullV:=cmpV_ordr.lex (rows_ordr.on Ver.build)

def bare (v:Ver):Ver:={ v with build:=[] }

def firstV (x y z:Nat):Ver:=⟨x,y,z,[[48]],[]⟩
def endV (x y z i:Nat):Option Ver :=
 if i=0 then (if 9223372036854775807≤x then none else some (firstV (x+1) 0 0))
 else if i=1 then (if 9223372036854775807≤y then none else some (firstV x (y+1) 0))
 else if 9223372036854775807≤z then none else some (firstV x y (z+1))
def placeV (x y:Nat):Nat:=if x≠0 then 0 else if y≠0 then 1 else 2
def caretV (v:Ver):Option Ver:=endV v.a v.b v.c (placeV v.a v.b)
def tildeV (v:Ver):Option Ver:=endV v.a v.b v.c 1
def verOf (o:Option Ver):Ver:=o.getD noVer
theorem end_ahead {v e:Ver} {i:Nat} (h:endV v.a v.b v.c i=some e):cmpV v e=-1:=by
 have k:cmpCore v e=-1:=by
  unfold endV at h
  split at h
  ·split at h
   ·cases h
   ·cases h
    rw [cmpCore_1 (by show v.a≠v.a+1; omega)]; exact ordN_lt (Nat.lt_succ_self v.a)
  ·split at h
   ·split at h
    ·cases h
    ·cases h
     exact (cmpCore_2 (u:=v) (v:=firstV v.a (v.b+1) 0) rfl (by show v.b≠v.b+1; omega)).trans (ordN_lt (Nat.lt_succ_self v.b))
   ·split at h
    ·cases h
    ·cases h
     exact (cmpCore_3 (u:=v) (v:=firstV v.a v.b (v.c+1)) rfl rfl).trans (ordN_lt (Nat.lt_succ_self v.c))
 unfold cmpV
 rw [lex_no (by rw [k]; omega)]; exact k
end Go.Proofs.YtnpjklaaokiikaaGreatDoor.Prec
namespace Go.Proofs.YtnpjklaaokiikaaGreatDoor.Range
open Go.RowKit Num Ident Semver

structure Keep (w w':World):Prop where
 size:w.heap.size≤w'.heap.size
 cell:∀ g o v,w.cell? ⟨g,o,none⟩=some v→((∀ x,v≠.int .i64 x)∨(w.cell? ⟨g,o+1,none⟩).isSome=true)→w'.cell? ⟨g,o,none⟩=some v
theorem block_lt {w:World} {g o:Nat} {v:Value} (h:w.cell? ⟨g,o,none⟩=some v):g<w.heap.size:=World.block_lt_of_cell? w _ h

structure Rd (w:World) (b:Nat) (A:Option Addr) (n c p:Nat):Prop where
 lt:b<w.heap.size
 open_:∀ o,w.frozen? ⟨b,o,none⟩=false
 row:w.cell? ⟨b,0,none⟩=some (.slice A n c)
 at_:w.cell? ⟨b,1,none⟩=some (.int .i64 p)
 end_:w.cell? ⟨b,2,none⟩=none
structure Moved (b:Nat) (w w':World):Prop where
 os:w'.os=w.os
 tape:w'.tape=w.tape
 output:w'.output=w.output
 size:w.heap.size≤w'.heap.size
 block:∀ k,k<w.heap.size→k≠b→w'.heap[k]?=w.heap[k]?
 cell:∀ o,o≠1→w'.cell? ⟨b,o,none⟩=w.cell? ⟨b,o,none⟩
 frozen:∀ o,w'.frozen? ⟨b,o,none⟩=w.frozen? ⟨b,o,none⟩

structure KeepS (S:Nat→Prop) (w w':World):Prop where
 size:w.heap.size≤w'.heap.size
 cell:∀ g o v,S g→w.cell? ⟨g,o,none⟩=some v→w'.cell? ⟨g,o,none⟩=some v
theorem KeepS.of_below {w w':World} {S:Nat→Prop} (h:Below w.heap.size w w'):KeepS S w w':=⟨h.size,fun g o _ _ hc=>(h.cell (p:=⟨g,o,none⟩) (block_lt hc)).trans hc⟩
theorem KeepS.alloc {S:Nat→Prop} (w:World) (o:Obj):KeepS S w (w.alloc o):=KeepS.of_below ((Below.refl _ _).alloc (Nat.le_refl _) o)
def InS (S:Nat→Prop) (A:Option Addr) (n:Nat):Prop:=0<n→∃ b o,A=some ⟨b,o,none⟩∧S b
theorem InS.none_ (S:Nat→Prop) (A:Option Addr):InS S A 0:=fun h=>absurd h (Nat.lt_irrefl _)
theorem srow_keepS {w w':World} {S:Nat→Prop} {A:Option Addr} {n:Nat} {xs:List (List UInt8)} (h:SRow w A n xs) (k:KeepS S w w') (hs:InS S A n):SRow w' A n xs:=by
 refine ⟨h.1,fun h0=>?_⟩
 obtain ⟨b,o,e,hlt,hc⟩:=h.2 h0
 obtain ⟨b',o',e',hb⟩:=hs h0
 rw [e] at e'
 injection e' with e'
 injection e' with e1 e2
 subst e1
 exact ⟨b,o,e,Nat.lt_of_lt_of_le hlt k.size,fun j hj=>k.cell _ _ _ hb (hc j hj)⟩
theorem InS.mono {S S':Nat→Prop} {w:World} {A:Option Addr} {n:Nat} {xs:List (List UInt8)} (h:InS S A n) (hr:SRow w A n xs) (hS:∀ b,S b→b<w.heap.size→S' b):InS S' A n:=fun h0=>by
 obtain ⟨b,o,e,hb⟩:=h h0
 obtain ⟨b',o',e',hlt,_⟩:=hr.2 h0
 rw [e] at e'
 injection e' with e'
 injection e' with e1 e2
 subst e1
 exact ⟨b,o,e,hS b hb hlt⟩
structure FitV (v:Ver):Prop where
 a:v.a<18446744073709551616
 b:v.b<18446744073709551616
 c:v.c<18446744073709551616
 pre:v.pre.length≤maxLen
 build:v.build.length≤maxLen
 pres:∀ x ∈ v.pre,x.length≤maxLen
 builds:∀ x ∈ v.build,x.length≤maxLen
theorem FitV.none:FitV noVer:=⟨by decide,by decide,by decide,Nat.zero_le _,Nat.zero_le _,(fun x h=>by cases h),(fun x h=>by cases h)⟩
structure RV where
 kind:Int
 v:Ver
 A:Option Addr
 c:Nat
 B:Option Addr
 d:Nat
 L:Option Addr
 n:Nat
 e:Nat
instance:Coe RV Value:=⟨fun x=>.agg #[.int .i64 x.kind,.int .u64 x.v.a,.int .u64 x.v.b,.int .u64 x.v.c,.slice x.A x.v.pre.length x.c,.slice x.B x.v.build.length x.d,.slice x.L x.n x.e]⟩
instance:Coe RV Obj:=⟨fun x=>.cells #[.int .i64 x.kind,.int .u64 x.v.a,.int .u64 x.v.b,.int .u64 x.v.c,.slice x.A x.v.pre.length x.c,.slice x.B x.v.build.length x.d,.slice x.L x.n x.e] 55⟩
instance:Inhabited RV:=⟨⟨0,noVer,none,0,none,0,none,0,0⟩⟩
def RV.vals (x:RV):List Value:=[.int .i64 x.kind,.int .u64 x.v.a,.int .u64 x.v.b,.int .u64 x.v.c,.slice x.A x.v.pre.length x.c,.slice x.B x.v.build.length x.d,.slice x.L x.n x.e]
theorem rv_len (x:RV):x.vals.length=7:=rfl
theorem rv_one (x:RV):∀ u ∈ x.vals,u.oneCell'=true:=by
 intro u hu; simp only [RV.vals,List.mem_cons,List.mem_nil_iff,or_false] at hu
 rcases hu with rfl | rfl | rfl | rfl | rfl | rfl | rfl <;> rfl
def CellsAt (w:World) (b o:Nat) (x:RV):Prop:=∀ i u,x.vals[i]?=some u→w.cell? ⟨b,o+i,none⟩=some u
theorem CellsAt.keep {w w':World} {S:Nat→Prop} {b o:Nat} {x:RV} (h:CellsAt w b o x) (k:KeepS S w w') (hb:S b):CellsAt w' b o x:=fun i u hu=>k.cell _ _ _ hb (h i u hu)
theorem CellsAt.lt {w:World} {b o:Nat} {x:RV} (h:CellsAt w b o x):b<w.heap.size:=block_lt (h 0 _ rfl)
inductive Lies (w:World) (S:Nat→Prop):Rng→RV→Prop
 | mk (x:RV) (l:List Rng) (f:Nat→RV) (hn:x.n=l.length) (he:x.n≤x.e) (pre:SRow w x.A x.v.pre.length x.v.pre) (build:SRow w x.B x.v.build.length x.v.build) (ip:InS S x.A x.v.pre.length) (ib:InS S x.B x.v.build.length) (cp:x.v.pre.length≤x.c) (cb:x.v.build.length≤x.d)
   (fit:FitV x.v) (nil:x.L=none→x.e=0)
   (cells:0<x.n→∃ b o,x.L=some ⟨b,o,none⟩∧S b∧∀ j,j<x.n→CellsAt w b (o+j * 7) (f j)) (subs:∀ j,j<x.n→Lies w S (l.getD j noRng) (f j)):Lies w S (.mk x.kind x.v l) x
theorem Lies.keep {w w':World} {S:Nat→Prop} {r:Rng} {x:RV} (h:Lies w S r x) (k:KeepS S w w'):Lies w' S r x:=by
 induction h with
 | mk x l f hn he pre build ip ib cp cb fit nil cells _ ih =>
  refine Lies.mk x l f hn he (srow_keepS pre k ip) (srow_keepS build k ib) ip ib cp cb fit nil (fun h0=>?_) ih
  obtain ⟨b,o,e,hb,hc⟩:=cells h0
  exact ⟨b,o,e,hb,fun j hj=>(hc j hj).keep k hb⟩
theorem Lies.mono {w:World} {S S':Nat→Prop} {r:Rng} {x:RV} (h:Lies w S r x) (hS:∀ b,S b→b<w.heap.size→S' b):Lies w S' r x:=by
 induction h with
 | mk x l f hn he pre build ip ib cp cb fit nil cells _ ih =>
  refine Lies.mk x l f hn he pre build (ip.mono pre hS) (ib.mono build hS) cp cb fit nil (fun h0=>?_) ih
  obtain ⟨b,o,e,hb,hc⟩:=cells h0
  exact ⟨b,o,e,hS b hb (hc 0 h0).lt,hc⟩
def RgRow (w:World) (S:Nat→Prop) (L:Option Addr) (n:Nat) (l:List Rng):Prop :=
 ∃ f:Nat→RV,l.length=n∧(0<n→∃ b o,L=some ⟨b,o,none⟩∧S b∧∀ j,j<n→CellsAt w b (o+j * 7) (f j))∧∀ j,j<n→Lies w S (l.getD j noRng) (f j)
theorem RgRow.keep {w w':World} {S:Nat→Prop} {L:Option Addr} {n:Nat} {l:List Rng} (h:RgRow w S L n l) (k:KeepS S w w'):RgRow w' S L n l:=by
 obtain ⟨f,h1,h2,h3⟩:=h
 refine ⟨f,h1,fun h0=>?_,fun j hj=>(h3 j hj).keep k⟩
 obtain ⟨b,o,e,hb,hc⟩:=h2 h0
 exact ⟨b,o,e,hb,fun j hj=>(hc j hj).keep k hb⟩
structure Says (w:World) (S:Nat→Prop) (r:Rng) (x:RV):Prop where
 kind:r.kind=x.kind
 ver:r.ver=x.v
 pre:SRow w x.A x.v.pre.length x.v.pre
 build:SRow w x.B x.v.build.length x.v.build
 ip:InS S x.A x.v.pre.length
 ib:InS S x.B x.v.build.length
 cp:x.v.pre.length≤x.c
 cb:x.v.build.length≤x.d
 fit:FitV x.v
 nil:x.L=none→x.e=0
 cap:x.n≤x.e
 subs:RgRow w S x.L x.n r.subs
theorem Lies.says {w:World} {S:Nat→Prop} {r:Rng} {x:RV} (h:Lies w S r x):Says w S r x:=by
 cases h with
 | mk x l f hn he pre build ip ib cp cb fit nil cells subs=>exact ⟨rfl,rfl,pre,build,ip,ib,cp,cb,fit,nil,he,⟨f,hn.symm,cells,subs⟩⟩
theorem Lies.version {w:World} {S:Nat→Prop} (kind:Int) (v:Ver) (A:Option Addr) (c:Nat) (B:Option Addr) (d:Nat) (pre:SRow w A v.pre.length v.pre) (build:SRow w B v.build.length v.build) (ip:InS S A v.pre.length) (ib:InS S B v.build.length) (cp:v.pre.length≤c) (cb:v.build.length≤d) (fit:FitV v) :
  Lies w S (.mk kind v []) ⟨kind,v,A,c,B,d,none,0,0⟩ :=
 Lies.mk ⟨kind,v,A,c,B,d,none,0,0⟩ [] (fun _=>default) rfl (Nat.le_refl _) pre build ip ib cp cb fit (fun _=>rfl) (fun h=>absurd h (Nat.lt_irrefl _)) (fun _ hj=>absurd hj (Nat.not_lt_zero _))
def zeroRV (kind:Int):RV:=⟨kind,noVer,none,0,none,0,none,0,0⟩
theorem Lies.zero (w:World) (S:Nat→Prop) (kind:Int):Lies w S (.mk kind noVer []) (zeroRV kind) :=
 Lies.version kind noVer none 0 none 0 (SRow.none_ _ _) (SRow.none_ _ _) (InS.none_ _ _) (InS.none_ _ _) (Nat.le_refl _) (Nat.le_refl _) FitV.none
def RV.agg (x:RV):Value:=.agg #[x.kind,x.v.a,x.v.b,x.v.c,.slice x.A x.v.pre.length x.c,.slice x.B x.v.build.length x.d,.slice x.L x.n x.e]
theorem CellsAt.cells {w:World} {b o:Nat} {x:RV} (h:CellsAt w b o x):w.cell? ⟨b,o,none⟩=some (.int .i64 x.kind)∧w.cell? ⟨b,o+1,none⟩=some (.int .u64 x.v.a)∧w.cell? ⟨b,o+2,none⟩=some (.int .u64 x.v.b)∧w.cell? ⟨b,o+3,none⟩=some (.int .u64 x.v.c)∧w.cell? ⟨b,o+4,none⟩=some (.slice x.A x.v.pre.length x.c)∧w.cell? ⟨b,o+5,none⟩=some (.slice x.B x.v.build.length x.d)∧w.cell? ⟨b,o+6,none⟩=some (.slice x.L x.n x.e) :=
 ⟨h 0 _ rfl,h 1 _ rfl,h 2 _ rfl,h 3 _ rfl,h 4 _ rfl,h 5 _ rfl,h 6 _ rfl⟩
structure Pl (l:List UInt8) (p:Nat) (s:List UInt8):Prop where
 le:p≤l.length
 eq:s=l.drop p
def RAt (W:World) (g:Nat) (x:RV):Prop:=At7 W g x.kind x.v.a x.v.b x.v.c (.slice x.A x.v.pre.length x.c) (.slice x.B x.v.build.length x.d) (.slice x.L x.n x.e)
theorem RAt.new (w:World) (t:TypeId) (x:RV):RAt (w.alloc (.cells #[x.kind,x.v.a,x.v.b,x.v.c,.slice x.A x.v.pre.length x.c,.slice x.B x.v.build.length x.d,.slice x.L x.n x.e] t)) w.heap.size x:=At7.new w t _ _ _ _ _ _ _
theorem RAt.kept {W W':World} {g B:Nat} {x:RV} (h:RAt W g x) (hb:Below B W W') (hB:g<B):RAt W' g x:=At7.kept h hb hB
end Go.Proofs.YtnpjklaaokiikaaGreatDoor.Range
