/-
  What the theorem of the last text needs of these: IdGood, PrMath, IdRows, IdRow. Conditions: as each theorem states.
-/
import Derived.Test.YtgfbflnhjpbceaaGreatDoorSetB1
import Derived.Test.YtgfbflnhjpbceaaGreatDoorSetB3
import Derived.Test.YtgfbflnhjpbceaaGreatDoorSetB4
import Derived.StillTailTactics
import Derived.Deep.CutBlock
import Derived.Deep.DeepCutAuto
import Derived.Deep.RegionHeld3
set_option maxRecDepth 100000
set_option maxHeartbeats 25600000
namespace Go.Proofs.YtgfbflnhjpbceaaGreatDoor.Ident
open Go.RowKit Num

def GoodJ (w:World) (A:Option Addr) (n c:Nat) (pre:Bool) (xs:List (List UInt8)) (a':Act) (w':World):Prop :=
 ∃ (k:Nat) (u6 u7 u8 u9 u10 u11 u12 u13 u14 u15 u16 u17 u18 u19 u20 u21 u22 u23 u24 u25 u26 u27 u28 u29 u30 u31 u32 u33:Value),Below w.heap.size w w'∧k≤n∧goodFrom pre (xs.drop k) k=goodFrom pre xs 0 ∧
  a'={ tmps:=#[.slice A n c,.bool pre,undef,undef,.bool false,.int .i64 k,u6,u7,u8,u9,u10,u11,u12,u13,u14,u15,u16,u17,u18,u19,u20,u21,u22,u23,u24,u25,u26,u27,u28,u29,u30,u31,u32,u33],defers:=[] }
def GoodM (n:Nat) (a':Act) (_:World):Nat:=n - (intOf (a'.tmps.getD 5 undef)).toNat
theorem good_any (A:Option Addr) (n c:Nat) (xs:List (List UInt8)) (pre:Bool) (w:World) (hr:SRow w A n xs) (hn:n≤maxLen) (hx:∀ x ∈ xs,x.length≤maxLen) :
  Calls Tryz.prog 72 #[.slice A n c,.bool pre] w fun e w'=>e=.returned (.bool (goodFrom pre xs 0))∧Below w.heap.size w w':=by
 have HN:=Lib.hid hn
 unfold maxLen at hn
 have HR:=Lib.hid hr
 have HLX:=Lib.hid hr.1
 have HX:=Lib.hid hx
 clear hr hx
 go_enter Tryz.func72,Tryz.ntmps72
 go_wp2
 refine wp_scope_back 0 (GoodJ w A n c pre xs) (GoodM n) rfl ?_ ?_
 ·rintro a' w1 ⟨k,u6,u7,u8,u9,u10,u11,u12,u13,u14,u15,u16,u17,u18,u19,u20,u21,u22,u23,u24,u25,u26,u27,u28,u29,u30,u31,u32,u33,hb1,hk,hgo,rfl⟩
  have HB1:=Lib.hid hb1
  have HG:=Lib.hid hgo
  clear hb1 hgo
  have hz1:=HB1.out.size
  by_cases h1:k=n
  ·have HF:Hid (goodFrom pre xs 0=true):=by
    unfold Hid
    rw [← HG.out,List.drop_eq_nil_of_le (by rw [HLX.out,h1]; exact Nat.le_refl _),goodFrom]
   have hb:((k:Int) == (n:Int))=true:=by simp [h1]
   clear h1
   go_wp2
   simp only [Exit.jump]
   go_ret
   exact ⟨by rw [HF.out]; rfl,HB1.out⟩
  have hlt:k<n:=by omega
  have hb:((k:Int) == (n:Int))=false:=by simp; omega
  clear h1
  obtain ⟨g,o,rfl,hg,hc1⟩:=(HR.out.kept HB1.out).2 (by omega)
  have hx1:=hc1 k hlt
  clear hc1
  have HKL:Hid (k<xs.length):=by unfold Hid; rw [HLX.out]; exact hlt
  have HST:=Lib.hid (fun h1 h2=>goodFrom_step (pre:=pre) HKL.out h1 h2)
  have HSP:=Lib.hid (fun h=>goodFrom_stop (pre:=pre) HKL.out h)
  have HZ:=Lib.hid (HX.out (xs.getD k []) (by have h:=HKL.out; simp [List.getD,List.getElem?_eq_getElem h]))
  have HKM:Hid (k≤maxLen):=by have:=HN.out; unfold Hid; omega
  generalize xs.getD k []=s at hx1 HST HSP HZ
  obtain ⟨f,hf⟩:∃ f,fault s k pre=f:=⟨_,rfl⟩
  have HFA:Hid (∀ W,Calls Tryz.prog 104 #[.string (mk s),.int .i64 k,.bool pre] W fun e w'=>e=.returned (.int .i64 f)∧Below W.heap.size W w'):=fun W=>by
   have:=fault_any (mk s) k pre W HZ.out HKM.out
   rw [mk_list,hf] at this; exact this
  rw [hf] at HST HSP
  clear hf
  go_upto_region 4 with (fail)
  go_cut [31] (fun x wx=>x=.bool (!(f == 0 && lead s == s.length))∧Below w.heap.size w wx)
  case first =>
   by_cases hf0:f=0
   ·subst hf0
    have HF:Hid ((!((0:Nat) == 0 && lead s == s.length))=(((lead s:Nat):Int) != (s.length:Int))):=by
     unfold Hid
     rw [Bool.eq_iff_iff]; simp; omega
    refine wp_region_held_drew (S:=fun w'=>w'.cell? ⟨g,o+k,none⟩=some (.string (mk s))) (by kernel_rfl) hx1 (fun hHeld=>?_)
    refine tk 0 rfl (.slice (some ⟨g,o,none⟩) n c) ?_
    refine tk 1 rfl (.int .i64 k) ?_
    refine tk 2 rfl (.pointer (some ⟨g,o+k,none⟩)) ?_
    refine tk 3 rfl (.string (mk s)) ?_
    refine tk 4 rfl (.int .i64 k) ?_
    refine tk 5 rfl (.bool pre) ?_
    refine cl 6 rfl fun K hK=>?_
    go_simp
    refine (HFA.out _).mono ?_
    rintro e w2 ⟨rfl,hb2⟩
    have hx2:w2.cell? ⟨g,o+k,none⟩=some (.string (mk s)):=(hb2.cell (p:=⟨g,o+k,none⟩) (by simpa using hg)).trans (by simpa using hx1)
    obtain ⟨cc,W,hcc,hcv,hrr,hbW⟩:=run_bytes w2 (mk s) HZ.out
    have hxW:W.cell? ⟨g,o+k,none⟩=some (.string (mk s)):=(hbW.cell (p:=⟨g,o+k,none⟩) (Nat.lt_of_lt_of_le (by simpa using hg) hb2.size)).trans hx2
    have HBB:=Lib.hid ((HB1.out.drew.trans (hb2.mono hz1)).trans (hbW.mono (Nat.le_trans hz1 hb2.size)))
    have HRR:=Lib.hid hrr
    clear hb2 hrr hbW
    refine hK.out _ _ hx2 (fun hHeld=>?_)
    clear hK K
    try simp only [Act.put,p1,p2,p3]
    refine tk 7 rfl (.bool false) ?_
    refine tk 8 rfl (.bool false) ?_
    refine tk 9 rfl (.slice (some ⟨g,o,none⟩) n c) ?_
    refine tk 10 rfl (.int .i64 k) ?_
    refine tk 11 rfl (.pointer (some ⟨g,o+k,none⟩)) ?_
    refine tk 12 rfl (.string (mk s)) ?_
    refine tk 15 rfl (.slice (some ⟨g,o,none⟩) n c) ?_
    refine tk 16 rfl (.int .i64 k) ?_
    refine tk 17 rfl (.pointer (some ⟨g,o+k,none⟩)) ?_
    refine tk 18 rfl (.string (mk s)) ?_
    refine tk 19 rfl (.int .i64 (mk s).size) ?_
    refine cl 13 rfl fun K hK=>?_
    go_simp
    refine hK.out _ _ hxW (fun hHeld=>?_)
    clear hK K
    try simp only [Act.put,p1,p2,p3]
    refine cl 14 rfl fun K hK=>?_
    go_simp
    refine (length_any _ _ _ _ _ HRR.out).mono ?_
    rintro e w3 ⟨rfl,rfl⟩
    refine hK.out _ _ hxW (fun hHeld=>?_)
    clear hK K
    try simp only [Act.put,p1,p2,p3]
    refine tk 20 rfl (.bool (((lead s:Nat):Int) != (s.length:Int))) ?_ fun w' hS'=>by (go_simp; rfl)
    refine tk 21 rfl (.bool (((lead s:Nat):Int) != (s.length:Int))) ?_
    refine wpAnyH_done (by kernel_rfl) ?_ _
    go_wp2
    go_meet
    exact ⟨by rw [HF.out],HBB.out⟩
   ·have hn1:((f:Int) == 0)=false:=by simp [hf0]
    have hn2:((f:Int) != 0)=true:=by simp [hf0]
    have HF:Hid ((!(f == 0 && lead s == s.length))=true):=by unfold Hid; simp [hf0]
    refine wp_region_held_drew (S:=fun w'=>w'.cell? ⟨g,o+k,none⟩=some (.string (mk s))) (by kernel_rfl) hx1 (fun hHeld=>?_)
    refine tk 0 rfl (.slice (some ⟨g,o,none⟩) n c) ?_
    refine tk 1 rfl (.int .i64 k) ?_
    refine tk 2 rfl (.pointer (some ⟨g,o+k,none⟩)) ?_
    refine tk 3 rfl (.string (mk s)) ?_
    refine tk 4 rfl (.int .i64 k) ?_
    refine tk 5 rfl (.bool pre) ?_
    refine cl 6 rfl fun K hK=>?_
    go_simp
    refine (HFA.out _).mono ?_
    rintro e w2 ⟨rfl,hb2⟩
    have hx2:w2.cell? ⟨g,o+k,none⟩=some (.string (mk s)):=(hb2.cell (p:=⟨g,o+k,none⟩) (by simpa using hg)).trans (by simpa using hx1)
    have HBB:=Lib.hid (HB1.out.drew.trans (hb2.mono hz1))
    clear hb2
    refine hK.out _ _ hx2 (fun hHeld=>?_)
    clear hK K
    try simp only [Act.put,p1,p2,p3]
    refine tk 7 rfl (.bool true) ?_
    refine tk 8 rfl (.bool true) ?_
    refine sk 9 rfl ?_
    refine sk 10 rfl ?_
    refine sk 11 rfl ?_
    refine sk 12 rfl ?_
    refine sk 13 rfl ?_
    refine sk 14 rfl ?_
    refine sk 15 rfl ?_
    refine sk 16 rfl ?_
    refine sk 17 rfl ?_
    refine sk 18 rfl ?_
    refine sk 19 rfl ?_
    refine sk 20 rfl ?_
    refine tk 21 rfl (.bool true) ?_
    refine wpAnyH_done (by kernel_rfl) ?_ _
    go_wp2
    go_meet
    exact ⟨by rw [HF.out],HBB.out⟩
  case rest =>
   obtain ⟨rfl,hbx⟩:=hcut
   have HBX:=Lib.hid hbx; clear hbx
   cases hq:(f == 0 && lead s == s.length)
   ·have HF:Hid (goodFrom pre xs 0=false):=by
     unfold Hid
     rw [← HG.out]
     apply HSP.out
     rw [Bool.and_eq_false_iff] at hq
     rcases hq with h | h
     ·exact .inl (by simpa using h)
     ·exact .inr (by simpa using h)
    clear hq
    simp only [Bool.not_false]
    go_wp2
    simp only [Exit.jump]
    go_ret
    exact ⟨by rw [HF.out]; rfl,HBX.out⟩
   ·have HF:Hid (goodFrom pre (xs.drop (k+1)) (k+1)=goodFrom pre xs 0):=by
     unfold Hid
     rw [Bool.and_eq_true,beq_iff_eq,beq_iff_eq] at hq
     rw [← HG.out,← HST.out hq.1 hq.2]
    clear hq
    simp only [Bool.not_true]
    go_wp2
    go_step3
    rw [show ((k:Int)+1)=((k+1:Nat):Int) from rfl]
    refine ⟨rfl,⟨k+1,_,_,_,_,_,_,_,_,_,_,_,_,_,_,_,_,_,_,_,_,_,_,_,_,_,_,_,_,HBX.out,by omega,HF.out,rfl⟩,?_⟩
    simp [GoodM,intOf]; omega
 ·intro HP
  go_wp2
  go_step3
  rename_i hK
  exact hK _ _ (HP.out _ _ ⟨0,_,_,_,_,_,_,_,_,_,_,_,_,_,_,_,_,_,_,_,_,_,_,_,_,_,_,_,_,Below.refl _ _,by omega,rfl,rfl⟩)
end Go.Proofs.YtgfbflnhjpbceaaGreatDoor.Ident
namespace Go.Proofs.YtgfbflnhjpbceaaGreatDoor.Prec
open Go.RowKit Num Ident Semver

structure Ordr {T:Type} (f:T→T→Int):Prop where
 flip:∀ x y,f y x=0 - f x y
 trans:∀ x y z,f x y≤0→f y z≤0→f x z≤0
theorem Ordr.self {T:Type} {f:T→T→Int} (h:Ordr f) (x:T):f x x=0:=by have:=h.flip x x; omega
def lex {T:Type} (f g:T→T→Int) (x y:T):Int:=if f x y=0 then g x y else f x y
theorem lex_no {T:Type} {f g:T→T→Int} {x y:T} (h:f x y≠0):lex f g x y=f x y:=by unfold lex; rw [if_neg h]
theorem lex_yes {T:Type} {f g:T→T→Int} {x y:T} (h:f x y=0):lex f g x y=g x y:=by unfold lex; rw [if_pos h]
theorem Ordr.lex {T:Type} {f g:T→T→Int} (hf:Ordr f) (hg:Ordr g):Ordr (lex f g):=by
 refine ⟨fun x y=>?_,fun x y z h1 h2=>?_⟩
 ·have e:=hf.flip x y
  by_cases h:f x y=0
  ·rw [lex_yes h,lex_yes (by omega)]; exact hg.flip x y
  ·rw [lex_no h,lex_no (by omega)]; exact e
 ·have a1:f x y≤0:=by
   by_cases h:f x y=0
   ·omega
   ·rw [lex_no h] at h1; exact h1
  have a2:f y z≤0:=by
   by_cases h:f y z=0
   ·omega
   ·rw [lex_no h] at h2; exact h2
  have a3:=hf.trans x y z a1 a2
  by_cases h:f x z=0
  ·have e1:=hf.flip x z
   have e2:=hf.flip x y
   have e3:=hf.flip y z
   have b1:=hf.trans z x y (by omega) a1
   have b2:=hf.trans y z x a2 (by omega)
   rw [lex_yes h]
   rw [lex_yes (show f x y=0 by omega)] at h1
   rw [lex_yes (show f y z=0 by omega)] at h2
   exact hg.trans x y z h1 h2
  ·rw [lex_no h]; exact a3
theorem Ordr.on {T U:Type} {f:T→T→Int} (h:Ordr f) (k:U→T):Ordr fun x y=>f (k x) (k y):=⟨fun _ _=>h.flip _ _,fun _ _ _=>h.trans _ _ _⟩

theorem ordN_ordr:Ordr ordN:=by
 refine ⟨fun x y=>ordN_flip x y,fun x y z h1 h2=>?_⟩
 rcases ordN_cases x y with ⟨a,b⟩ | ⟨a,b⟩ | ⟨a,b⟩ <;> rcases ordN_cases y z with ⟨c,d⟩ | ⟨c,d⟩ | ⟨c,d⟩ <;> rcases ordN_cases x z with ⟨e,f⟩ | ⟨e,f⟩ | ⟨e,f⟩ <;> omega
theorem bytes_flip:∀ a b:List UInt8,Lib.compareBytes b a=0 - Lib.compareBytes a b
 | [],[]=>rfl
 | [],_ :: _=>rfl
 | _ :: _,[]=>rfl
 | x :: a,y :: b=>by
  unfold Lib.compareBytes
  simp only [UInt8.lt_iff_toNat_lt]
  by_cases h1:x.toNat<y.toNat
  ·rw [if_pos h1,if_neg (show ¬ y.toNat<x.toNat by omega),if_pos h1]; rfl
  ·by_cases h2:y.toNat<x.toNat
   ·rw [if_pos h2,if_neg h1,if_pos h2]; rfl
   ·rw [if_neg h2,if_neg h1,if_neg h1,if_neg h2]; exact bytes_flip a b
theorem cmpId_flip (a b:List UInt8):cmpId b a=0 - cmpId a b:=by
 unfold cmpId
 by_cases ha:numeric a=true
 ·by_cases hb:numeric b=true
  ·have e1:=ordN_flip (val a) (val b)
   have e2:=ordN_flip a.length b.length
   simp only [if_pos ha,if_pos hb]
   by_cases h:ordN (val a) (val b)=0
   ·rw [if_pos h,if_pos (by omega)]; exact e2
   ·rw [if_neg h,if_neg (by omega)]; exact e1
  ·simp only [if_pos ha,if_neg hb]; rfl
 ·by_cases hb:numeric b=true
  ·simp only [if_neg ha,if_pos hb]; rfl
  ·simp only [if_neg ha,if_neg hb]; exact bytes_flip a b

theorem rows_flip:∀ r s:List (List UInt8),cmpRows s r=0 - cmpRows r s
 | [],s=>by rw [cmpRows_nil,cmpRows_nil']; exact ordN_flip 0 s.length
 | a :: r,[]=>by rw [cmpRows_nil,cmpRows_nil']; exact ordN_flip _ 0
 | a :: r,b :: s=>by
  have e:=cmpId_flip a b
  by_cases h:cmpId a b=0
  ·rw [cmpRows_same h,cmpRows_same (by omega)]; exact rows_flip r s
  ·rw [cmpRows_diff h,cmpRows_diff (by omega)]; exact e
theorem rows_nil_le (s:List (List UInt8)):cmpRows [] s≤0:=by
 rw [cmpRows_nil]; rcases ordN_cases 0 s.length with h | h | h <;> omega
theorem rows_trans:∀ r s t:List (List UInt8),cmpRows r s≤0→cmpRows s t≤0→cmpRows r t≤0
 | [],_,t,_,_=>rows_nil_le t
 | a :: r,[],_,h,_=>by
  rw [cmpRows_nil'] at h
  rcases ordN_cases (a :: r).length 0 with h2 | h2 | h2
  ·exact absurd h2.1 (by simp)
  ·exact absurd h2.1 (by simp)
  ·omega
 | a :: r,b :: s,[],_,h=>by
  rw [cmpRows_nil'] at h
  rcases ordN_cases (b :: s).length 0 with h2 | h2 | h2
  ·exact absurd h2.1 (by simp)
  ·exact absurd h2.1 (by simp)
  ·omega
 | a :: r,b :: s,c :: t,h1,h2=>by
  have a1:cmpId a b≤0:=by
   by_cases h:cmpId a b=0
   ·omega
   ·rw [cmpRows_diff h] at h1; exact h1
  have a2:cmpId b c≤0:=by
   by_cases h:cmpId b c=0
   ·omega
   ·rw [cmpRows_diff h] at h2; exact h2
  have a3:=cmpId_trans a b c a1 a2
  by_cases h:cmpId a c=0
  ·have e1:=cmpId_flip a c
   have e2:=cmpId_flip a b
   have e3:=cmpId_flip b c
   have b1:=cmpId_trans c a b (by omega) a1
   have b2:=cmpId_trans b c a a2 (by omega)
   rw [cmpRows_same h]
   rw [cmpRows_same (show cmpId a b=0 by omega)] at h1
   rw [cmpRows_same (show cmpId b c=0 by omega)] at h2
   exact rows_trans r s t h1 h2
  ·rw [cmpRows_diff h]; exact a3
theorem rows_ordr:Ordr cmpRows:=⟨rows_flip,rows_trans⟩

def noneN (x:List (List UInt8)):Nat:=if x.length=0 then 1 else 0
def cmpPre:List (List UInt8)→List (List UInt8)→Int:=lex (fun x y=>ordN (noneN x) (noneN y)) cmpRows
theorem cmpPre_one {x y:List (List UInt8)} (h1:x.length=0) (h2:y.length≠0):cmpPre x y=1:=by
 have e:ordN (noneN x) (noneN y)=1:=by unfold noneN; rw [if_pos h1,if_neg h2]; rfl
 unfold cmpPre; rw [lex_no (by rw [e]; omega)]; exact e
theorem cmpPre_two {x y:List (List UInt8)} (h1:x.length≠0) (h2:y.length=0):cmpPre x y=-1:=by
 have e:ordN (noneN x) (noneN y)=-1:=by unfold noneN; rw [if_neg h1,if_pos h2]; rfl
 unfold cmpPre; rw [lex_no (by rw [e]; omega)]; exact e
theorem cmpPre_rows {x y:List (List UInt8)} (h:x.length=0↔y.length=0):cmpPre x y=cmpRows x y:=by
 have e:ordN (noneN x) (noneN y)=0:=by
  unfold noneN
  by_cases h1:x.length=0
  ·rw [if_pos h1,if_pos (h.1 h1)]; rfl
  ·rw [if_neg h1,if_neg (fun h2=>h1 (h.2 h2))]; rfl
 unfold cmpPre; exact lex_yes e
def cmpCore:Ver→Ver→Int:=lex (fun u v=>ordN u.a v.a) (lex (fun u v=>ordN u.b v.b) fun u v=>ordN u.c v.c)
theorem ordN_zero_iff (x y:Nat):ordN x y=0↔x=y:=by rcases ordN_cases x y with h | h | h <;> omega
theorem cmpCore_1 {u v:Ver} (h:u.a≠v.a):cmpCore u v=ordN u.a v.a:=by
 unfold cmpCore; exact lex_no (fun e=>h ((ordN_zero_iff _ _).1 e))
theorem cmpCore_2 {u v:Ver} (h1:u.a=v.a) (h:u.b≠v.b):cmpCore u v=ordN u.b v.b:=by
 unfold cmpCore; refine (lex_yes (f:=fun u v:Ver=>ordN u.a v.a) ((ordN_zero_iff _ _).2 h1)).trans ?_; exact lex_no (fun e=>h ((ordN_zero_iff _ _).1 e))
theorem cmpCore_3 {u v:Ver} (h1:u.a=v.a) (h2:u.b=v.b):cmpCore u v=ordN u.c v.c:=by
 unfold cmpCore; refine (lex_yes (f:=fun u v:Ver=>ordN u.a v.a) ((ordN_zero_iff _ _).2 h1)).trans ?_; exact lex_yes ((ordN_zero_iff _ _).2 h2)
def cmpV:Ver→Ver→Int:=lex cmpCore fun u v=>cmpPre u.pre v.pre
theorem core_ordr:Ordr cmpCore:=(ordN_ordr.on Ver.a).lex ((ordN_ordr.on Ver.b).lex (ordN_ordr.on Ver.c))
theorem pre_ordr:Ordr cmpPre:=(ordN_ordr.on noneN).lex rows_ordr
theorem cmpV_ordr:Ordr cmpV:=core_ordr.lex (pre_ordr.on Ver.pre)

def bare (v:Ver):Ver:={ v with build:=[] }

def firstV (x y z:Nat):Ver:=⟨x,y,z,[[48]],[]⟩
def endV (x y z i:Nat):Option Ver :=
 if i=0 then (if 9223372036854775807≤x then none else some (firstV (x+1) 0 0))
 else if i=1 then (if 9223372036854775807≤y then none else some (firstV x (y+1) 0))
 else if 9223372036854775807≤z then none else some (firstV x y (z+1))
def placeV (x y:Nat):Nat:=if x≠0 then 0 else if y≠0 then 1 else 2
def caretV (v:Ver):Option Ver:=endV v.a v.b v.c (placeV v.a v.b)
def tildeV (v:Ver):Option Ver:=endV v.a v.b v.c 1
def verOf (o:Option Ver):Ver:=o.getD noVer
theorem end_ahead {v e:Ver} {i:Nat} (h:endV v.a v.b v.c i=some e):cmpV v e=-1:=by
 have k:cmpCore v e=-1:=by
  unfold endV at h
  split at h
  ·split at h
   ·cases h
   ·cases h
    rw [cmpCore_1 (by show v.a≠v.a+1; omega)]; exact ordN_lt (Nat.lt_succ_self v.a)
  ·split at h
   ·split at h
    ·cases h
    ·cases h
     exact (cmpCore_2 (u:=v) (v:=firstV v.a (v.b+1) 0) rfl (by show v.b≠v.b+1; omega)).trans (ordN_lt (Nat.lt_succ_self v.b))
   ·split at h
    ·cases h
    ·cases h
     exact (cmpCore_3 (u:=v) (v:=firstV v.a v.b (v.c+1)) rfl rfl).trans (ordN_lt (Nat.lt_succ_self v.c))
 unfold cmpV
 rw [lex_no (by rw [k]; omega)]; exact k
end Go.Proofs.YtgfbflnhjpbceaaGreatDoor.Prec
namespace Go.Proofs.YtgfbflnhjpbceaaGreatDoor.Ident
open Go.RowKit Num

theorem drop_texts (xs:List (List UInt8)) (k:Nat) (h:k<xs.length):xs.drop k=xs.getD k [] :: xs.drop (k+1):=by
 rw [List.drop_eq_getElem_cons h]; simp [List.getD,List.getElem?_eq_getElem h]
theorem getD_mem (xs:List (List UInt8)) (k:Nat) (h:k<xs.length):xs.getD k [] ∈ xs:=by
 simp [List.getD,List.getElem?_eq_getElem h]
theorem ordN_zero {a b:Nat} (h:a≤b):ordN 0 (b - a)=ordN a b:=by
 rcases Nat.lt_or_ge a b with h1 | h1
 ·rw [ordN_lt h1,ordN_lt (by omega)]
 ·rw [ordN_eq (by omega),ordN_eq (by omega)]
theorem ordN_zero' {a b:Nat} (h:b≤a):ordN (a - b) 0=ordN a b:=by
 rcases Nat.lt_or_ge b a with h1 | h1
 ·rw [ordN_gt h1,ordN_gt (by omega)]
 ·rw [ordN_eq (by omega),ordN_eq (by omega)]
theorem rows_end {xs ys:List (List UInt8)} {k:Nat} (h1:k≤xs.length) (h2:k≤ys.length) (h:k=xs.length∨k=ys.length):cmpRows (xs.drop k) (ys.drop k)=ordN xs.length ys.length:=by
 rcases h with h | h
 ·subst h
  rw [List.drop_eq_nil_of_le (Nat.le_refl _),cmpRows_nil,List.length_drop]; exact ordN_zero h2
 ·subst h
  rw [List.drop_eq_nil_of_le (Nat.le_refl ys.length),cmpRows_nil',List.length_drop]; exact ordN_zero' h1

def RowsJ (w:World) (A:Option Addr) (a ca:Nat) (B:Option Addr) (b cb:Nat) (g:Value) (xs ys:List (List UInt8)) (a':Act) (w':World):Prop :=
 ∃ (k:Nat) (u8 u9 u10 u11 u12 u13 u14 u15 u16 u17 u18 u19 u20 u21 u22 u23 u24 u25 u26 u27 u28 u29 u30 u31 u32 u33 u34 u35 u36 u37 u38:Value),BelowD w.heap.size w w'∧k≤a∧k≤b∧cmpRows (xs.drop k) (ys.drop k)=cmpRows xs ys ∧
  a'={ tmps:=#[.slice A a ca,.slice B b cb,g,undef,undef,undef,.int .i64 0,.int .i64 k,u8,u9,u10,u11,u12,u13,u14,u15,u16,u17,u18,u19,u20,u21,u22,u23,u24,u25,u26,u27,u28,u29,u30,u31,u32,u33,u34,u35,u36,u37,u38],defers:=[] }
def RowsM (n:Nat) (a':Act) (_:World):Nat:=n - (intOf (a'.tmps.getD 7 undef)).toNat

theorem rowsG_anyD (A:Option Addr) (a ca:Nat) (xs:List (List UInt8)) (B:Option Addr) (b cb:Nat) (ys:List (List UInt8)) (w:World) (hA:SRow w A a xs) (hB:SRow w B b ys)
  (ha:a≤maxLen) (hb:b≤maxLen) (hx:∀ x ∈ xs,x.length≤maxLen) (hy:∀ y ∈ ys,y.length≤maxLen) :
  Calls Tryz.prog 166 #[.slice A a ca,.slice B b cb,.func (.func 167) #[] #[]] w fun e w'=>e=.returned (.int .i64 (cmpRows xs ys))∧BelowD w.heap.size w w':=by
 unfold maxLen at ha hb
 have HA:=Lib.hid hA
 have HB:=Lib.hid hB
 have HX:=Lib.hid hx
 have HY:=Lib.hid hy
 have HLA:=Lib.hid hA.1
 have HLB:=Lib.hid hB.1
 clear hA hB hx hy
 go_enter Tryz.func166,Tryz.ntmps166
 go_wp2
 refine wp_scope_back 0 (RowsJ w A a ca B b cb (.func (.func 167) #[] #[]) xs ys) (RowsM a) rfl ?_ ?_
 ·rintro a' w1 ⟨k,u8,u9,u10,u11,u12,u13,u14,u15,u16,u17,u18,u19,u20,u21,u22,u23,u24,u25,u26,u27,u28,u29,u30,u31,u32,u33,u34,u35,u36,u37,u38,hb1,hk1,hk2,hgo,rfl⟩
  have HB1:=Lib.hid hb1
  have HG:=Lib.hid hgo
  clear hb1 hgo
  have hz1:=HB1.out.size
  have HE:Hid (k=a∨k=b→cmpRows xs ys=ordN a b):=fun h=>by
   rw [← HG.out,rows_end (by rw [HLA.out]; exact hk1) (by rw [HLB.out]; exact hk2) (by rw [HLA.out,HLB.out]; exact h),HLA.out,HLB.out]
  by_cases h1:k=a
  ·have HE2:=Lib.hid (HE.out (.inl h1))
   have hb1:((k:Int) == (a:Int))=true:=by simp [h1]
   clear h1 HE
   go_wp2_with fail
   refine (cmp_any _ _ _).mono ?_
   rintro e w' ⟨rfl,rfl⟩
   go_wp2
   simp only [Exit.jump]
   go_ret
   exact ⟨by rw [HE2.out]; rfl,HB1.out⟩
  by_cases h2:k=b
  ·have HE2:=Lib.hid (HE.out (.inr h2))
   have hb1:((k:Int) == (a:Int))=false:=by simp; omega
   have hb2:((k:Int) == (b:Int))=true:=by simp [h2]
   clear h1 h2 HE
   go_wp2_with fail
   refine (cmp_any _ _ _).mono ?_
   rintro e w' ⟨rfl,rfl⟩
   go_wp2
   simp only [Exit.jump]
   go_ret
   exact ⟨by rw [HE2.out]; rfl,HB1.out⟩
  have hb1:((k:Int) == (a:Int))=false:=by simp; omega
  have hb2:((k:Int) == (b:Int))=false:=by simp; omega
  have hka:k<a:=by omega
  have hkb:k<b:=by omega
  clear h1 h2 HE
  obtain ⟨g1,o1,rfl,hg1,hc1⟩:=(HA.out.kept HB1.out.toBelow).2 (by omega)
  obtain ⟨g2,o2,rfl,hg2,hc2⟩:=(HB.out.kept HB1.out.toBelow).2 (by omega)
  have hx1:=hc1 k hka
  have hx2:=hc2 k hkb
  clear hc1 hc2
  have HZ1:=Lib.hid (HX.out _ (getD_mem xs k (by rw [HLA.out]; exact hka)))
  have HZ2:=Lib.hid (HY.out _ (getD_mem ys k (by rw [HLB.out]; exact hkb)))
  have HD:Hid (cmpRows xs ys=if cmpId (xs.getD k []) (ys.getD k [])=0 then cmpRows (xs.drop (k+1)) (ys.drop (k+1)) else cmpId (xs.getD k []) (ys.getD k [])):=by
   unfold Hid
   rw [← HG.out,drop_texts xs k (by rw [HLA.out]; exact hka),drop_texts ys k (by rw [HLB.out]; exact hkb),cmpRows]
  generalize xs.getD k []=s at hx1 HZ1 HD
  generalize ys.getD k []=t at hx2 HZ2 HD
  go_wp2
  go_still_tail 9,(by kernel_rfl)
  change wpList _ _ _ _ _ w1.drew
  have HW:=Lib.hid HB1.out.drew
  generalize w1.drew=w2 at HW
  have hz2:=HW.out.size
  obtain ⟨c,hc⟩:∃ c,cmpId s t=c:=⟨_,rfl⟩
  rw [hc] at HD
  have HC:=Lib.hid hc; clear hc
  go_wp2_with fail
  refine (idcmp_anyD (mk s) (mk t) _ (by rw [mk_size]; exact HZ1.out) (by rw [mk_size]; exact HZ2.out)).mono ?_
  rw [mk_list,mk_list,HC.out]
  rintro e w3 ⟨rfl,hb3⟩
  have HB3:=Lib.hid (HW.out.trans (hb3.mono hz2))
  clear hb3
  by_cases hc0:c=0
  ·have HD2:Hid (cmpRows (xs.drop (k+1)) (ys.drop (k+1))=cmpRows xs ys):=by have:=HD.out; rw [if_pos hc0] at this; exact this.symm
   subst hc0
   clear HD
   go_wp2
   go_step3
   rw [show ((k:Int)+1)=((k+1:Nat):Int) from rfl]
   refine ⟨rfl,⟨k+1,_,_,_,_,_,_,_,_,_,_,_,_,_,_,_,_,_,_,_,_,_,_,_,_,_,_,_,_,_,_,_,HB3.out,by omega,by omega,HD2.out,rfl⟩,?_⟩
   simp [RowsM,intOf]; omega
  ·have HD2:Hid (cmpRows xs ys=c):=by have:=HD.out; rw [if_neg hc0] at this; exact this
   have hn:(c == 0)=false:=by simp [hc0]
   have hn2:(c != 0)=true:=by simp [hc0]
   clear HD hc0
   go_wp2
   simp only [Exit.jump]
   go_ret
   exact ⟨by rw [HD2.out]; rfl,HB3.out⟩
 ·intro HP
  go_wp2
  go_step3
  rename_i hK
  exact hK _ _ (HP.out _ _ ⟨0,_,_,_,_,_,_,_,_,_,_,_,_,_,_,_,_,_,_,_,_,_,_,_,_,_,_,_,_,_,_,_,BelowD.refl _ _,by omega,by omega,rfl,rfl⟩)
theorem rows_anyD (A:Option Addr) (a ca:Nat) (xs:List (List UInt8)) (B:Option Addr) (b cb:Nat) (ys:List (List UInt8)) (w:World) (hA:SRow w A a xs) (hB:SRow w B b ys)
  (ha:a≤maxLen) (hb:b≤maxLen) (hx:∀ x ∈ xs,x.length≤maxLen) (hy:∀ y ∈ ys,y.length≤maxLen) :
  Calls Tryz.prog 151 #[.slice A a ca,.slice B b cb] w fun e w'=>e=.returned (.int .i64 (cmpRows xs ys))∧BelowD w.heap.size w w':=by
 have HA:=Lib.hid hA
 have HB:=Lib.hid hB
 have HX:=Lib.hid hx
 have HY:=Lib.hid hy
 have HM:=Lib.hid ha
 have HN:=Lib.hid hb
 clear hA hB hx hy ha hb
 go_enter Tryz.func151,Tryz.ntmps151
 go_wp2_with fail
 refine (rowsG_anyD A a ca xs B b cb ys _ HA.out HB.out HM.out HN.out HX.out HY.out).mono ?_
 rintro e w1 ⟨rfl,hb1⟩
 go_wp2
 go_ret
 exact ⟨rfl,hb1⟩
end Go.Proofs.YtgfbflnhjpbceaaGreatDoor.Ident
namespace Go.Proofs.YtgfbflnhjpbceaaGreatDoor.Ident
open Go.RowKit Num

def Fresh (B:Nat) (A:Option Addr) (n:Nat):Prop:=0<n→∃ b o,A=some ⟨b,o,none⟩∧B≤b
theorem Fresh.none_ (B:Nat) (A:Option Addr):Fresh B A 0:=fun h=>absurd h (Nat.lt_irrefl _)
theorem Fresh.mono {B B':Nat} {A:Option Addr} {n:Nat} (h:Fresh B A n) (hB:B'≤B):Fresh B' A n:=fun h0=>by
 obtain ⟨b,o,e,hb⟩:=h h0
 exact ⟨b,o,e,Nat.le_trans hB hb⟩
theorem Fresh.of_own {w:World} {base:Nat} {e:TypeId} {k:Nat} {A:Option Addr} {n c:Nat} {xs:List Value} (h:w.ownsRow base e k (.slice A n c) n xs):Fresh base A n:=fun h0=>by
 rcases h.2 with ⟨_,h1⟩ | ⟨g,cap,cur,hv,hg,_⟩
 ·omega
 ·injection hv with hv _ _
  exact ⟨g,0,hv,hg⟩
def RowPostF (w:World) (r:Res) (e:Ending) (w':World):Prop :=
 ∃ A c,e=.returned (.tuple #[.slice A r.2.2.length c,.int .i64 r.2.1,.int .i64 r.1])∧r.2.2.length≤c∧SRow w' A r.2.2.length r.2.2∧Below w.heap.size w w'∧Fresh w.heap.size A r.2.2.length
theorem RowPostF.bad {w w':World} {f:Nat} (hb:Below w.heap.size w w'):RowPostF w (f,0,[]) (.returned (.tuple #[.slice none 0 0,.int .i64 0,.int .i64 f])) w' :=
 ⟨none,0,rfl,Nat.le_refl _,SRow.none_ _ _,hb,Fresh.none_ _ _⟩

theorem row_out (A:Option Addr) (n c:Nat) (l:List UInt8) (p:Int) (pre:Bool) (w:World) (h:Row w A n l) (ho:p<0∨(n:Int)<p) :
  Calls Tryz.prog 194 #[.slice A n c,.int .i64 p,.bool pre] w (RowPostF w (row l p pre)):=by
 have HE:Hid (row l p pre=(1,0,[])):=by
  unfold Hid row; rw [if_pos (by rw [h.1]; exact ho)]
 rw [HE.out]
 clear h HE
 by_cases h0:p<0
 ·go_enter Tryz.func194,Tryz.ntmps194
  go_wp2
  refine wp_scope_back 0 (fun _ _=>False) (fun _ _=>0) rfl (fun _ _ hF=>hF.elim) ?_
  intro _
  go_wp2
  simp only [Exit.jump]
  go_ret3
  exact RowPostF.bad (f:=1) (Below.refl _ _)
 ·have h1:(n:Int)<p:=by omega
  clear ho
  go_enter Tryz.func194,Tryz.ntmps194
  go_wp2
  refine wp_scope_back 0 (fun _ _=>False) (fun _ _=>0) rfl (fun _ _ hF=>hF.elim) ?_
  intro _
  go_wp2
  simp only [Exit.jump]
  go_ret3
  exact RowPostF.bad (f:=1) (Below.refl _ _)

theorem go_step_bad {pre:Bool} {l s:List UInt8} {acc:List (List UInt8)} {k m:Nat} (hM:lead (l.drop k)=m) (hs:(l.drop k).take m=s) (hf:fault s acc.length pre≠0):go pre (l.drop k) [] acc k=(fault s acc.length pre,0,[]):=by
 subst hM; subst hs; exact go_stop pre _ acc k hf
theorem lead_end (l:List UInt8) (h:lead l<l.length):isId (l.getD (lead l) 0)=false:=by
 induction l with
 | nil=>simp at h
 | cons b r ih =>
  by_cases hb:isId b=true
  ·rw [lead,if_pos hb] at h ⊢
   simpa using ih (by simpa using h)
  ·rw [lead,if_neg hb]; simpa using hb
theorem go_step_point {pre:Bool} {l s:List UInt8} {acc:List (List UInt8)} {k m:Nat} (hM:lead (l.drop k)=m) (hs:(l.drop k).take m=s) (hf:fault s acc.length pre=0) (hlt:k+m<l.length) (hx:byteAt l (k+m)=46) :
  go pre (l.drop k) [] acc k=go pre (l.drop (k+m+1)) [] (acc ++ [s]) (k+m+1):=by
 rw [go_lead,hM,hs,List.nil_append,List.drop_drop,drop_getD l (k+m) hlt]
 exact go_point (by unfold byteAt at hx; omega) hf
theorem go_step_end {pre:Bool} {l s:List UInt8} {acc:List (List UInt8)} {k m:Nat} (hM:lead (l.drop k)=m) (hs:(l.drop k).take m=s) (hf:fault s acc.length pre=0) (h:l.length≤k+m∨byteAt l (k+m)≠46) :
  go pre (l.drop k) [] acc k=(0,k+m,acc ++ [s]):=by
 have e:shut pre s acc (k+m)=(0,k+m,acc ++ [s]):=by unfold shut; rw [if_pos hf]
 rw [go_lead,hM,hs,List.nil_append,List.drop_drop]
 rcases Nat.lt_or_ge (k+m) l.length with hlt | hge
 ·rw [drop_getD l (k+m) hlt,go_else ?_ ?_,e]
  ·have h1:=lead_end (l.drop k) (by rw [hM,List.length_drop]; omega)
   rw [hM] at h1
   simpa [List.getD] using h1
  ·rcases h with h | h
   ·omega
   ·unfold byteAt at h; omega
 ·rw [List.drop_eq_nil_of_le hge,go,e]
theorem RowPostF.good {w w':World} {n:Nat} {xs:List (List UInt8)} (hb:Below w.heap.size w w') {A:Option Addr} {c:Nat} (hc:xs.length≤c) (hr:SRow w' A xs.length xs) (hf:Fresh w.heap.size A xs.length) :
  RowPostF w (0,n,xs) (.returned (.tuple #[.slice A xs.length c,.int .i64 n,.int .i64 0])) w' :=
 ⟨A,c,rfl,hc,hr,hb,hf⟩

def RowJ (w:World) (A:Option Addr) (n c p:Nat) (pre:Bool) (R:Option Addr) (N C:Nat) (l:List UInt8) (a':Act) (w':World):Prop :=
 ∃ (acc:List (List UInt8)) (k:Nat) (v:Value) (u10 u11 u12 u13 u14 u15 u16 u17 u18 u19 u20 u21 u22 u23 u24 u25 u26 u27 u28 u29 u30 u31 u32 u33 u34 u35 u36 u37 u38 u39 u40 u41 u42 u43 u44 u45 u46 u47 u48 u49 u50 u51 u52 u53 u54 u55 u56 u57 u58 u59 u60 u61 u62:Value),Below w.heap.size w w'∧w'.ownsRow w.heap.size 9 1 v acc.length (strs acc)∧acc.length≤16∧k≤N∧go pre (l.drop k) [] acc k=go pre l [] [] 0 ∧
  a'={ tmps:=#[.slice A n c,.int .i64 p,.bool pre,undef,undef,undef,v,.int .i64 k,.int .i64 0,.slice R N C,u10,u11,u12,u13,u14,u15,u16,u17,u18,u19,u20,u21,u22,u23,u24,u25,u26,u27,u28,u29,u30,u31,u32,u33,u34,u35,u36,u37,u38,u39,u40,u41,u42,u43,u44,u45,u46,u47,u48,u49,u50,u51,u52,u53,u54,u55,u56,u57,u58,u59,u60,u61,u62],defers:=[] }
def RowM (N:Nat) (a':Act) (_:World):Nat:=N - (intOf (a'.tmps.getD 7 undef)).toNat

theorem row_in (A:Option Addr) (n c:Nat) (l0:List UInt8) (p:Nat) (pre:Bool) (w:World) (h:Row w A n l0) (hc:n≤c) (hp:p≤n) :
  Calls Tryz.prog 194 #[.slice A n c,.int .i64 p,.bool pre] w (RowPostF w (row l0 p pre)):=by
 have hm:=h.2.1
 unfold maxLen at hm
 have hp0:¬ (p:Int)<0:=by omega
 have hp1:¬ n<p:=by omega
 obtain ⟨R,hR⟩:∃ R,(if c=p then A else A.map (fun x=>x.add p))=R:=⟨_,rfl⟩
 obtain ⟨l,hl⟩:∃ l,l0.drop p=l:=⟨_,rfl⟩
 have HE:Hid (row l0 p pre=go pre l [] [] 0):=by
  unfold Hid row; rw [if_neg (by rw [h.1]; omega),Int.toNat_natCast,hl]
 have R1:Row w R (n - p) l:=hl ▸ Row.from_ h p c hp hc hR
 rw [HE.out]
 clear h HE hl
 obtain ⟨N,hN⟩:∃ N,n - p=N:=⟨_,rfl⟩
 obtain ⟨C,hC⟩:∃ C,c - p=C:=⟨_,rfl⟩
 have hNC:N≤C:=by omega
 have hNm:N≤9223372036854775807:=by omega
 rw [hN] at R1
 have HR1:=Lib.hid R1
 have HLen:=Lib.hid R1.1
 clear R1
 go_enter Tryz.func194,Tryz.ntmps194
 go_wp2
 refine wp_scope_back 0 (RowJ w A n c p pre R N C l) (RowM N) rfl ?_ ?_
 ·rintro a' w1 ⟨acc,k,v,u10,u11,u12,u13,u14,u15,u16,u17,u18,u19,u20,u21,u22,u23,u24,u25,u26,u27,u28,u29,u30,u31,u32,u33,u34,u35,u36,u37,u38,u39,u40,u41,u42,u43,u44,u45,u46,u47,u48,u49,u50,u51,u52,u53,u54,u55,u56,u57,u58,u59,u60,u61,u62,hb1,hown,hacc,hk,hgo,rfl⟩
  have HRW:=Lib.hid (HR1.out.kept hb1)
  obtain ⟨VA,VC,rfl,hvc,_⟩:=SRow.of_own hown
  clear hR hN hC
  obtain ⟨m,hM⟩:∃ m,lead (l.drop k)=m:=⟨_,rfl⟩
  have hkm:k+m≤N:=by have:=lead_le (l.drop k); rw [hM,List.length_drop,HLen.out] at this; omega
  obtain ⟨S,hS⟩:∃ S,(if C=k then R else R.map (fun x=>x.add k))=S:=⟨_,rfl⟩
  have RA:=Row.from_ HRW.out k C hk hNC hS
  have RB:=Row.part_ HRW.out k m C hkm hNC hS
  obtain ⟨s,hs⟩:∃ s,(l.drop k).take m=s:=⟨_,rfl⟩
  rw [hs] at RB
  have hsl:=RB.1
  have htx:=run_text RB (C - k)
  have HA:=Lib.hid RA
  have HM:=Lib.hid hM
  have HSl:=Lib.hid hsl
  have HSS:=Lib.hid hs
  have HB1:=Lib.hid hb1
  have HO:=Lib.hid hown
  have HG:=Lib.hid hgo
  clear RA RB hM hsl hs hb1 hown hgo
  have hz1:=HB1.out.size
  go_wp2_with fail
  refine (length_any _ _ _ _ _ HA.out).mono ?_
  rintro e w' ⟨rfl,rfl⟩
  rw [HM.out]
  go_wp2_with fail
  refine (fault_any (mk s) acc.length pre _ (by rw [mk_size,HSl.out]; unfold maxLen; omega) (by unfold maxLen; omega)).mono ?_
  rintro e w2 ⟨rfl,hb2⟩
  rw [mk_list]
  have HBD:=Lib.hid (go_step_bad (pre:=pre) (acc:=acc) HM.out HSS.out)
  have HPT:=Lib.hid (fun hf=>go_step_point (pre:=pre) (acc:=acc) HM.out HSS.out hf)
  have HEN:=Lib.hid (fun hf=>go_step_end (pre:=pre) (acc:=acc) HM.out HSS.out hf)
  have HPL0:Hid (fault s acc.length pre=0→acc.length+1≤16):=fun h=>(fault_pos h).2.2
  obtain ⟨f,hf⟩:∃ f,fault s acc.length pre=f:=⟨_,rfl⟩
  rw [hf] at HBD HPT HEN HPL0 ⊢
  clear hf
  by_cases hf0:f=0
  ·subst hf0
   have HPL:=Lib.hid (HPL0.out rfl)
   have HPT2:=Lib.hid (HPT.out rfl)
   have HEN2:=Lib.hid (HEN.out rfl)
   clear HBD HPT HEN
   have hz2:=hb2.size
   have HO2:Hid ((w2.alloc (.cells #[.string (mk s)] 9)).ownsRow w.heap.size 9 1 (.slice VA acc.length VC) acc.length (strs acc)):=(own_below HO.out hb2).alloc _
   have HB2:=Lib.hid ((HB1.out.trans (hb2.mono hz1)).alloc (Nat.le_trans hz1 hz2) (.cells #[.string (mk s)] 9))
   have hms:(mk s).size=m:=HSl.out
   have hacc2:acc.length+1≤16:=HPL.out
   clear hS htx
   by_cases hlt:k+m<N
   ·obtain ⟨b,o,rfl,hb,hcell⟩:=HR1.out.2.2 (by omega)
    have HX:=Lib.hid (hcell (k+m) hlt)
    have hbd:=byteAt_bd l (k+m)
    clear hcell
    have HPT3:=Lib.hid (fun h=>HPT2.out (by rw [HLen.out]; exact hlt) h)
    have HEN3:=Lib.hid (fun h=>HEN2.out (.inr h))
    clear HPT2 HEN2 HRW
    generalize byteAt l (k+m)=x at HX hbd HPT3 HEN3
    by_cases h46:x=46
    ·subst h46
     have HPT4:=Lib.hid (HPT3.out rfl)
     clear HPT3 HEN3
     go_wp2_with (first
      | (at_builtin; refine wpList_append_strs _ rfl _ _ rfl w.heap.size _ acc.length acc rfl HO2.out (some ⟨w2.heap.size,0,none⟩) 1 1 [s] rfl (SRow.one w2 s) (fun h=>by cases h) (by omega) (by simp; omega) ?_; intro v3 w3 ho3 hb3; obtain ⟨VA3,VC3,rfl,hvc3,hr3⟩:=SRow.of_own ho3; have HB3:=Lib.hid (HB2.out.trans hb3); have HO3:=Lib.hid ho3; have HR3:=Lib.hid hr3; clear ho3 hb3 hr3; have hx:=(HB3.out.cell (p:=⟨b,o+(k+m),none⟩) hb).trans HX.out)
      | fail)
     go_step3
     rw [show ((k:Int)+(m:Int)+1)=((k+m+1:Nat):Int) from rfl]
     refine ⟨rfl,⟨acc ++ [s],k+m+1,.slice VA3 (acc.length+1) VC3,_,_,_,_,_,_,_,_,_,_,_,_,_,_,_,_,_,_,_,_,_,_,_,_,_,_,_,_,_,_,_,_,_,_,_,_,_,_,_,_,_,_,_,_,_,_,_,_,_,_,_,_,_,HB3.out,?_,?_,by omega,?_,rfl⟩,?_⟩
     ·rw [List.length_append]; exact HO3.out
     ·rw [List.length_append]; exact hacc2
     ·rw [← HPT4.out]; exact HG.out
     ·simp [RowM,intOf]; omega
    ·have HEN4:=Lib.hid (HEN3.out h46)
     have hb46:(x == 46)=false:=by simp [h46]
     clear HPT3 HEN3 h46
     go_wp2_with (first
      | (at_builtin; refine wpList_append_strs _ rfl _ _ rfl w.heap.size _ acc.length acc rfl HO2.out (some ⟨w2.heap.size,0,none⟩) 1 1 [s] rfl (SRow.one w2 s) (fun h=>by cases h) (by omega) (by simp; omega) ?_; intro v3 w3 ho3 hb3; obtain ⟨VA3,VC3,rfl,hvc3,hr3⟩:=SRow.of_own ho3; have HB3:=Lib.hid (HB2.out.trans hb3); have HO3:=Lib.hid ho3; have HR3:=Lib.hid hr3; clear ho3 hb3 hr3; have hx:=(HB3.out.cell (p:=⟨b,o+(k+m),none⟩) hb).trans HX.out)
      | fail)
     simp only [Exit.jump]
     go_ret3
     rw [← HG.out,HEN4.out]
     have e1:(acc ++ [s]).length=acc.length+1:=by simp
     have:=RowPostF.good (n:=k+m) HB3.out (A:=VA3) (c:=VC3) (xs:=acc ++ [s]) (by rw [e1]; exact hvc3) (by rw [e1]; exact HR3.out) (by rw [e1]; exact Fresh.of_own HO3.out)
     rw [e1] at this
     exact this
   ·have HEN4:=Lib.hid (HEN2.out (.inl (by rw [HLen.out]; omega)))
    clear HPT2 HEN2 HRW
    go_wp2_with (first
     | (at_builtin; refine wpList_append_strs _ rfl _ _ rfl w.heap.size _ acc.length acc rfl HO2.out (some ⟨w2.heap.size,0,none⟩) 1 1 [s] rfl (SRow.one w2 s) (fun h=>by cases h) (by omega) (by simp; omega) ?_; intro v3 w3 ho3 hb3; obtain ⟨VA3,VC3,rfl,hvc3,hr3⟩:=SRow.of_own ho3; have HB3:=Lib.hid (HB2.out.trans hb3); have HO3:=Lib.hid ho3; have HR3:=Lib.hid hr3; clear ho3 hb3 hr3)
     | fail)
    simp only [Exit.jump]
    go_ret3
    rw [← HG.out,HEN4.out]
    have e1:(acc ++ [s]).length=acc.length+1:=by simp
    have:=RowPostF.good (n:=k+m) HB3.out (A:=VA3) (c:=VC3) (xs:=acc ++ [s]) (by rw [e1]; exact hvc3) (by rw [e1]; exact HR3.out) (by rw [e1]; exact Fresh.of_own HO3.out)
    rw [e1] at this
    exact this
  ·have HBD2:=Lib.hid (HBD.out hf0)
   have HB2:=Lib.hid (HB1.out.trans (hb2.mono hz1))
   go_wp2
   simp only [Exit.jump]
   go_ret3
   rw [← HG.out,HBD2.out]
   exact RowPostF.bad HB2.out
 ·intro HP
  go_wp2
  go_step3
  rename_i hK
  exact hK _ _ (HP.out _ _ ⟨[],0,.slice none 0 0,_,_,_,_,_,_,_,_,_,_,_,_,_,_,_,_,_,_,_,_,_,_,_,_,_,_,_,_,_,_,_,_,_,_,_,_,_,_,_,_,_,_,_,_,_,_,_,_,_,_,_,_,_,Below.refl _ _,World.ownsRow_nil _ _ _ _,by simp,by omega,rfl,rfl⟩)

theorem row_anyF (A:Option Addr) (n c:Nat) (l:List UInt8) (p:Int) (pre:Bool) (w:World) (h:Row w A n l) (hc:n≤c) :
  Calls Tryz.prog 194 #[.slice A n c,.int .i64 p,.bool pre] w (RowPostF w (row l p pre)):=by
 by_cases ho:p<0∨(n:Int)<p
 ·exact row_out A n c l p pre w h ho
 ·obtain ⟨k,rfl⟩:=Int.eq_ofNat_of_zero_le (show 0≤p by omega)
  exact row_in A n c l k pre w h hc (by omega)
end Go.Proofs.YtgfbflnhjpbceaaGreatDoor.Ident
