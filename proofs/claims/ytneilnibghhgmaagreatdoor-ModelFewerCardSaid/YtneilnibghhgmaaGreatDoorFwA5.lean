/-
  What the theorem of the last text needs of these: IdGood, PrMath, IdRows, IdTexts, SvGood, PrCores. Conditions: as each theorem states.
-/
import Derived.Test.YtneilnibghhgmaaGreatDoorFwA1
import Derived.Test.YtneilnibghhgmaaGreatDoorFwA3
import Derived.Test.YtneilnibghhgmaaGreatDoorFwA4
import Derived.StillTailTactics
import Derived.Deep.CutBlock
import Derived.Deep.DeepCutAuto
import Derived.Deep.RegionHeld3
import Derived.Test.YtneilnibghhgmaaGreatDoorShelfJoin
set_option maxRecDepth 100000
set_option maxHeartbeats 25600000
namespace Go.Proofs.YtneilnibghhgmaaGreatDoor.Ident
open Go.RowKit Num

def GoodJ (w:World) (A:Option Addr) (n c:Nat) (pre:Bool) (xs:List (List UInt8)) (a':Act) (w':World):Prop :=
 ∃ (k:Nat) (u6 u7 u8 u9 u10 u11 u12 u13 u14 u15 u16 u17 u18 u19 u20 u21 u22 u23 u24 u25 u26 u27 u28 u29 u30 u31 u32 u33:Value),Below w.heap.size w w'∧k≤n∧goodFrom pre (xs.drop k) k=goodFrom pre xs 0 ∧
  a'={ tmps:=#[.slice A n c,.bool pre,undef,undef,.bool false,.int .i64 k,u6,u7,u8,u9,u10,u11,u12,u13,u14,u15,u16,u17,u18,u19,u20,u21,u22,u23,u24,u25,u26,u27,u28,u29,u30,u31,u32,u33],defers:=[] }
def GoodM (n:Nat) (a':Act) (_:World):Nat:=n - (intOf (a'.tmps.getD 5 undef)).toNat
theorem good_any (A:Option Addr) (n c:Nat) (xs:List (List UInt8)) (pre:Bool) (w:World) (hr:SRow w A n xs) (hn:n≤maxLen) (hx:∀ x ∈ xs,x.length≤maxLen) :
  Calls Tryz.prog 80 #[.slice A n c,.bool pre] w fun e w'=>e=.returned (.bool (goodFrom pre xs 0))∧Below w.heap.size w w':=by
 have HN:=Lib.hid hn
 unfold maxLen at hn
 have HR:=Lib.hid hr
 have HLX:=Lib.hid hr.1
 have HX:=Lib.hid hx
 clear hr hx
 go_enter Tryz.func80,Tryz.ntmps80
 go_wp2
 refine wp_scope_back 0 (GoodJ w A n c pre xs) (GoodM n) rfl ?_ ?_
 ·rintro a' w1 ⟨k,u6,u7,u8,u9,u10,u11,u12,u13,u14,u15,u16,u17,u18,u19,u20,u21,u22,u23,u24,u25,u26,u27,u28,u29,u30,u31,u32,u33,hb1,hk,hgo,rfl⟩
  have HB1:=Lib.hid hb1
  have HG:=Lib.hid hgo
  clear hb1 hgo
  have hz1:=HB1.out.size
  by_cases h1:k=n
  ·have HF:Hid (goodFrom pre xs 0=true):=by
    unfold Hid
    rw [← HG.out,List.drop_eq_nil_of_le (by rw [HLX.out,h1]; exact Nat.le_refl _),goodFrom]
   have hb:((k:Int) == (n:Int))=true:=by simp [h1]
   clear h1
   go_wp2
   simp only [Exit.jump]
   go_ret
   exact ⟨by rw [HF.out]; rfl,HB1.out⟩
  have hlt:k<n:=by omega
  have hb:((k:Int) == (n:Int))=false:=by simp; omega
  clear h1
  obtain ⟨g,o,rfl,hg,hc1⟩:=(HR.out.kept HB1.out).2 (by omega)
  have hx1:=hc1 k hlt
  clear hc1
  have HKL:Hid (k<xs.length):=by unfold Hid; rw [HLX.out]; exact hlt
  have HST:=Lib.hid (fun h1 h2=>goodFrom_step (pre:=pre) HKL.out h1 h2)
  have HSP:=Lib.hid (fun h=>goodFrom_stop (pre:=pre) HKL.out h)
  have HZ:=Lib.hid (HX.out (xs.getD k []) (by have h:=HKL.out; simp [List.getD,List.getElem?_eq_getElem h]))
  have HKM:Hid (k≤maxLen):=by have:=HN.out; unfold Hid; omega
  generalize xs.getD k []=s at hx1 HST HSP HZ
  obtain ⟨f,hf⟩:∃ f,fault s k pre=f:=⟨_,rfl⟩
  have HFA:Hid (∀ W,Calls Tryz.prog 116 #[.string (mk s),.int .i64 k,.bool pre] W fun e w'=>e=.returned (.int .i64 f)∧Below W.heap.size W w'):=fun W=>by
   have:=fault_any (mk s) k pre W HZ.out HKM.out
   rw [mk_list,hf] at this; exact this
  rw [hf] at HST HSP
  clear hf
  go_upto_region 4 with (fail)
  go_cut [31] (fun x wx=>x=.bool (!(f == 0 && lead s == s.length))∧Below w.heap.size w wx)
  case first =>
   by_cases hf0:f=0
   ·subst hf0
    have HF:Hid ((!((0:Nat) == 0 && lead s == s.length))=(((lead s:Nat):Int) != (s.length:Int))):=by
     unfold Hid
     rw [Bool.eq_iff_iff]; simp; omega
    refine wp_region_held_drew (S:=fun w'=>w'.cell? ⟨g,o+k,none⟩=some (.string (mk s))) (by kernel_rfl) hx1 (fun hHeld=>?_)
    refine tk 0 rfl (.slice (some ⟨g,o,none⟩) n c) ?_
    refine tk 1 rfl (.int .i64 k) ?_
    refine tk 2 rfl (.pointer (some ⟨g,o+k,none⟩)) ?_
    refine tk 3 rfl (.string (mk s)) ?_
    refine tk 4 rfl (.int .i64 k) ?_
    refine tk 5 rfl (.bool pre) ?_
    refine cl 6 rfl fun K hK=>?_
    go_simp
    refine (HFA.out _).mono ?_
    rintro e w2 ⟨rfl,hb2⟩
    have hx2:w2.cell? ⟨g,o+k,none⟩=some (.string (mk s)):=(hb2.cell (p:=⟨g,o+k,none⟩) (by simpa using hg)).trans (by simpa using hx1)
    obtain ⟨cc,W,hcc,hcv,hrr,hbW⟩:=run_bytes w2 (mk s) HZ.out
    have hxW:W.cell? ⟨g,o+k,none⟩=some (.string (mk s)):=(hbW.cell (p:=⟨g,o+k,none⟩) (Nat.lt_of_lt_of_le (by simpa using hg) hb2.size)).trans hx2
    have HBB:=Lib.hid ((HB1.out.drew.trans (hb2.mono hz1)).trans (hbW.mono (Nat.le_trans hz1 hb2.size)))
    have HRR:=Lib.hid hrr
    clear hb2 hrr hbW
    refine hK.out _ _ hx2 (fun hHeld=>?_)
    clear hK K
    try simp only [Act.put,p1,p2,p3]
    refine tk 7 rfl (.bool false) ?_
    refine tk 8 rfl (.bool false) ?_
    refine tk 9 rfl (.slice (some ⟨g,o,none⟩) n c) ?_
    refine tk 10 rfl (.int .i64 k) ?_
    refine tk 11 rfl (.pointer (some ⟨g,o+k,none⟩)) ?_
    refine tk 12 rfl (.string (mk s)) ?_
    refine tk 15 rfl (.slice (some ⟨g,o,none⟩) n c) ?_
    refine tk 16 rfl (.int .i64 k) ?_
    refine tk 17 rfl (.pointer (some ⟨g,o+k,none⟩)) ?_
    refine tk 18 rfl (.string (mk s)) ?_
    refine tk 19 rfl (.int .i64 (mk s).size) ?_
    refine cl 13 rfl fun K hK=>?_
    go_simp
    refine hK.out _ _ hxW (fun hHeld=>?_)
    clear hK K
    try simp only [Act.put,p1,p2,p3]
    refine cl 14 rfl fun K hK=>?_
    go_simp
    refine (length_any _ _ _ _ _ HRR.out).mono ?_
    rintro e w3 ⟨rfl,rfl⟩
    refine hK.out _ _ hxW (fun hHeld=>?_)
    clear hK K
    try simp only [Act.put,p1,p2,p3]
    refine tk 20 rfl (.bool (((lead s:Nat):Int) != (s.length:Int))) ?_ fun w' hS'=>by (go_simp; rfl)
    refine tk 21 rfl (.bool (((lead s:Nat):Int) != (s.length:Int))) ?_
    refine wpAnyH_done (by kernel_rfl) ?_ _
    go_wp2
    go_meet
    exact ⟨by rw [HF.out],HBB.out⟩
   ·have hn1:((f:Int) == 0)=false:=by simp [hf0]
    have hn2:((f:Int) != 0)=true:=by simp [hf0]
    have HF:Hid ((!(f == 0 && lead s == s.length))=true):=by unfold Hid; simp [hf0]
    refine wp_region_held_drew (S:=fun w'=>w'.cell? ⟨g,o+k,none⟩=some (.string (mk s))) (by kernel_rfl) hx1 (fun hHeld=>?_)
    refine tk 0 rfl (.slice (some ⟨g,o,none⟩) n c) ?_
    refine tk 1 rfl (.int .i64 k) ?_
    refine tk 2 rfl (.pointer (some ⟨g,o+k,none⟩)) ?_
    refine tk 3 rfl (.string (mk s)) ?_
    refine tk 4 rfl (.int .i64 k) ?_
    refine tk 5 rfl (.bool pre) ?_
    refine cl 6 rfl fun K hK=>?_
    go_simp
    refine (HFA.out _).mono ?_
    rintro e w2 ⟨rfl,hb2⟩
    have hx2:w2.cell? ⟨g,o+k,none⟩=some (.string (mk s)):=(hb2.cell (p:=⟨g,o+k,none⟩) (by simpa using hg)).trans (by simpa using hx1)
    have HBB:=Lib.hid (HB1.out.drew.trans (hb2.mono hz1))
    clear hb2
    refine hK.out _ _ hx2 (fun hHeld=>?_)
    clear hK K
    try simp only [Act.put,p1,p2,p3]
    refine tk 7 rfl (.bool true) ?_
    refine tk 8 rfl (.bool true) ?_
    refine sk 9 rfl ?_
    refine sk 10 rfl ?_
    refine sk 11 rfl ?_
    refine sk 12 rfl ?_
    refine sk 13 rfl ?_
    refine sk 14 rfl ?_
    refine sk 15 rfl ?_
    refine sk 16 rfl ?_
    refine sk 17 rfl ?_
    refine sk 18 rfl ?_
    refine sk 19 rfl ?_
    refine sk 20 rfl ?_
    refine tk 21 rfl (.bool true) ?_
    refine wpAnyH_done (by kernel_rfl) ?_ _
    go_wp2
    go_meet
    exact ⟨by rw [HF.out],HBB.out⟩
  case rest =>
   obtain ⟨rfl,hbx⟩:=hcut
   have HBX:=Lib.hid hbx; clear hbx
   cases hq:(f == 0 && lead s == s.length)
   ·have HF:Hid (goodFrom pre xs 0=false):=by
     unfold Hid
     rw [← HG.out]
     apply HSP.out
     rw [Bool.and_eq_false_iff] at hq
     rcases hq with h | h
     ·exact .inl (by simpa using h)
     ·exact .inr (by simpa using h)
    clear hq
    simp only [Bool.not_false]
    go_wp2
    simp only [Exit.jump]
    go_ret
    exact ⟨by rw [HF.out]; rfl,HBX.out⟩
   ·have HF:Hid (goodFrom pre (xs.drop (k+1)) (k+1)=goodFrom pre xs 0):=by
     unfold Hid
     rw [Bool.and_eq_true,beq_iff_eq,beq_iff_eq] at hq
     rw [← HG.out,← HST.out hq.1 hq.2]
    clear hq
    simp only [Bool.not_true]
    go_wp2
    go_step3
    rw [show ((k:Int)+1)=((k+1:Nat):Int) from rfl]
    refine ⟨rfl,⟨k+1,_,_,_,_,_,_,_,_,_,_,_,_,_,_,_,_,_,_,_,_,_,_,_,_,_,_,_,_,HBX.out,by omega,HF.out,rfl⟩,?_⟩
    simp [GoodM,intOf]; omega
 ·intro HP
  go_wp2
  go_step3
  rename_i hK
  exact hK _ _ (HP.out _ _ ⟨0,_,_,_,_,_,_,_,_,_,_,_,_,_,_,_,_,_,_,_,_,_,_,_,_,_,_,_,_,Below.refl _ _,by omega,rfl,rfl⟩)
end Go.Proofs.YtneilnibghhgmaaGreatDoor.Ident
namespace Go.Proofs.YtneilnibghhgmaaGreatDoor.Prec
open Go.RowKit Num Ident Semver

structure Ordr {T:Type} (f:T→T→Int):Prop where
 flip:∀ x y,f y x=0 - f x y
 trans:∀ x y z,f x y≤0→f y z≤0→f x z≤0
theorem Ordr.self {T:Type} {f:T→T→Int} (h:Ordr f) (x:T):f x x=0:=by have:=h.flip x x; omega
def lex {T:Type} (f g:T→T→Int) (x y:T):Int:=if f x y=0 then g x y else f x y
theorem lex_no {T:Type} {f g:T→T→Int} {x y:T} (h:f x y≠0):lex f g x y=f x y:=by unfold lex; rw [if_neg h]
theorem lex_yes {T:Type} {f g:T→T→Int} {x y:T} (h:f x y=0):lex f g x y=g x y:=by unfold lex; rw [if_pos h]
theorem Ordr.lex {T:Type} {f g:T→T→Int} (hf:Ordr f) (hg:Ordr g):Ordr (lex f g):=by
 refine ⟨fun x y=>?_,fun x y z h1 h2=>?_⟩
 ·have e:=hf.flip x y
  by_cases h:f x y=0
  ·rw [lex_yes h,lex_yes (by omega)]; exact hg.flip x y
  ·rw [lex_no h,lex_no (by omega)]; exact e
 ·have a1:f x y≤0:=by
   by_cases h:f x y=0
   ·omega
   ·rw [lex_no h] at h1; exact h1
  have a2:f y z≤0:=by
   by_cases h:f y z=0
   ·omega
   ·rw [lex_no h] at h2; exact h2
  have a3:=hf.trans x y z a1 a2
  by_cases h:f x z=0
  ·have e1:=hf.flip x z
   have e2:=hf.flip x y
   have e3:=hf.flip y z
   have b1:=hf.trans z x y (by omega) a1
   have b2:=hf.trans y z x a2 (by omega)
   rw [lex_yes h]
   rw [lex_yes (show f x y=0 by omega)] at h1
   rw [lex_yes (show f y z=0 by omega)] at h2
   exact hg.trans x y z h1 h2
  ·rw [lex_no h]; exact a3
theorem Ordr.on {T U:Type} {f:T→T→Int} (h:Ordr f) (k:U→T):Ordr fun x y=>f (k x) (k y):=⟨fun _ _=>h.flip _ _,fun _ _ _=>h.trans _ _ _⟩

theorem ordN_ordr:Ordr ordN:=by
 refine ⟨fun x y=>ordN_flip x y,fun x y z h1 h2=>?_⟩
 rcases ordN_cases x y with ⟨a,b⟩ | ⟨a,b⟩ | ⟨a,b⟩ <;> rcases ordN_cases y z with ⟨c,d⟩ | ⟨c,d⟩ | ⟨c,d⟩ <;> rcases ordN_cases x z with ⟨e,f⟩ | ⟨e,f⟩ | ⟨e,f⟩ <;> omega
theorem bytes_flip:∀ a b:List UInt8,Lib.compareBytes b a=0 - Lib.compareBytes a b
 | [],[]=>rfl
 | [],_ :: _=>rfl
 | _ :: _,[]=>rfl
 | x :: a,y :: b=>by
  unfold Lib.compareBytes
  simp only [UInt8.lt_iff_toNat_lt]
  by_cases h1:x.toNat<y.toNat
  ·rw [if_pos h1,if_neg (show ¬ y.toNat<x.toNat by omega),if_pos h1]; rfl
  ·by_cases h2:y.toNat<x.toNat
   ·rw [if_pos h2,if_neg h1,if_pos h2]; rfl
   ·rw [if_neg h2,if_neg h1,if_neg h1,if_neg h2]; exact bytes_flip a b
theorem cmpId_flip (a b:List UInt8):cmpId b a=0 - cmpId a b:=by
 unfold cmpId
 by_cases ha:numeric a=true
 ·by_cases hb:numeric b=true
  ·have e1:=ordN_flip (val a) (val b)
   have e2:=ordN_flip a.length b.length
   simp only [if_pos ha,if_pos hb]
   by_cases h:ordN (val a) (val b)=0
   ·rw [if_pos h,if_pos (by omega)]; exact e2
   ·rw [if_neg h,if_neg (by omega)]; exact e1
  ·simp only [if_pos ha,if_neg hb]; rfl
 ·by_cases hb:numeric b=true
  ·simp only [if_neg ha,if_pos hb]; rfl
  ·simp only [if_neg ha,if_neg hb]; exact bytes_flip a b

theorem rows_flip:∀ r s:List (List UInt8),cmpRows s r=0 - cmpRows r s
 | [],s=>by rw [cmpRows_nil,cmpRows_nil']; exact ordN_flip 0 s.length
 | a :: r,[]=>by rw [cmpRows_nil,cmpRows_nil']; exact ordN_flip _ 0
 | a :: r,b :: s=>by
  have e:=cmpId_flip a b
  by_cases h:cmpId a b=0
  ·rw [cmpRows_same h,cmpRows_same (by omega)]; exact rows_flip r s
  ·rw [cmpRows_diff h,cmpRows_diff (by omega)]; exact e
theorem rows_nil_le (s:List (List UInt8)):cmpRows [] s≤0:=by
 rw [cmpRows_nil]; rcases ordN_cases 0 s.length with h | h | h <;> omega
theorem rows_trans:∀ r s t:List (List UInt8),cmpRows r s≤0→cmpRows s t≤0→cmpRows r t≤0
 | [],_,t,_,_=>rows_nil_le t
 | a :: r,[],_,h,_=>by
  rw [cmpRows_nil'] at h
  rcases ordN_cases (a :: r).length 0 with h2 | h2 | h2
  ·exact absurd h2.1 (by simp)
  ·exact absurd h2.1 (by simp)
  ·omega
 | a :: r,b :: s,[],_,h=>by
  rw [cmpRows_nil'] at h
  rcases ordN_cases (b :: s).length 0 with h2 | h2 | h2
  ·exact absurd h2.1 (by simp)
  ·exact absurd h2.1 (by simp)
  ·omega
 | a :: r,b :: s,c :: t,h1,h2=>by
  have a1:cmpId a b≤0:=by
   by_cases h:cmpId a b=0
   ·omega
   ·rw [cmpRows_diff h] at h1; exact h1
  have a2:cmpId b c≤0:=by
   by_cases h:cmpId b c=0
   ·omega
   ·rw [cmpRows_diff h] at h2; exact h2
  have a3:=cmpId_trans a b c a1 a2
  by_cases h:cmpId a c=0
  ·have e1:=cmpId_flip a c
   have e2:=cmpId_flip a b
   have e3:=cmpId_flip b c
   have b1:=cmpId_trans c a b (by omega) a1
   have b2:=cmpId_trans b c a a2 (by omega)
   rw [cmpRows_same h]
   rw [cmpRows_same (show cmpId a b=0 by omega)] at h1
   rw [cmpRows_same (show cmpId b c=0 by omega)] at h2
   exact rows_trans r s t h1 h2
  ·rw [cmpRows_diff h]; exact a3
theorem rows_ordr:Ordr cmpRows:=⟨rows_flip,rows_trans⟩

def noneN (x:List (List UInt8)):Nat:=if x.length=0 then 1 else 0
def cmpPre:List (List UInt8)→List (List UInt8)→Int:=lex (fun x y=>ordN (noneN x) (noneN y)) cmpRows
theorem cmpPre_one {x y:List (List UInt8)} (h1:x.length=0) (h2:y.length≠0):cmpPre x y=1:=by
 have e:ordN (noneN x) (noneN y)=1:=by unfold noneN; rw [if_pos h1,if_neg h2]; rfl
 unfold cmpPre; rw [lex_no (by rw [e]; omega)]; exact e
theorem cmpPre_two {x y:List (List UInt8)} (h1:x.length≠0) (h2:y.length=0):cmpPre x y=-1:=by
 have e:ordN (noneN x) (noneN y)=-1:=by unfold noneN; rw [if_neg h1,if_pos h2]; rfl
 unfold cmpPre; rw [lex_no (by rw [e]; omega)]; exact e
theorem cmpPre_rows {x y:List (List UInt8)} (h:x.length=0↔y.length=0):cmpPre x y=cmpRows x y:=by
 have e:ordN (noneN x) (noneN y)=0:=by
  unfold noneN
  by_cases h1:x.length=0
  ·rw [if_pos h1,if_pos (h.1 h1)]; rfl
  ·rw [if_neg h1,if_neg (fun h2=>h1 (h.2 h2))]; rfl
 unfold cmpPre; exact lex_yes e
def cmpCore:Ver→Ver→Int:=lex (fun u v=>ordN u.a v.a) (lex (fun u v=>ordN u.b v.b) fun u v=>ordN u.c v.c)
theorem ordN_zero_iff (x y:Nat):ordN x y=0↔x=y:=by rcases ordN_cases x y with h | h | h <;> omega
theorem cmpCore_1 {u v:Ver} (h:u.a≠v.a):cmpCore u v=ordN u.a v.a:=by
 unfold cmpCore; exact lex_no (fun e=>h ((ordN_zero_iff _ _).1 e))
theorem cmpCore_2 {u v:Ver} (h1:u.a=v.a) (h:u.b≠v.b):cmpCore u v=ordN u.b v.b:=by
 unfold cmpCore; refine (lex_yes (f:=fun u v:Ver=>ordN u.a v.a) ((ordN_zero_iff _ _).2 h1)).trans ?_; exact lex_no (fun e=>h ((ordN_zero_iff _ _).1 e))
theorem cmpCore_3 {u v:Ver} (h1:u.a=v.a) (h2:u.b=v.b):cmpCore u v=ordN u.c v.c:=by
 unfold cmpCore; refine (lex_yes (f:=fun u v:Ver=>ordN u.a v.a) ((ordN_zero_iff _ _).2 h1)).trans ?_; exact lex_yes ((ordN_zero_iff _ _).2 h2)
def cmpV:Ver→Ver→Int:=lex cmpCore fun u v=>cmpPre u.pre v.pre
def fullV:Ver→Ver→Int:=lex cmpV fun u v=>cmpRows u.build v.build
theorem core_ordr:Ordr cmpCore:=(ordN_ordr.on Ver.a).lex ((ordN_ordr.on Ver.b).lex (ordN_ordr.on Ver.c))
theorem pre_ordr:Ordr cmpPre:=(ordN_ordr.on noneN).lex rows_ordr
theorem cmpV_ordr:Ordr cmpV:=core_ordr.lex (pre_ordr.on Ver.pre)

def bare (v:Ver):Ver:={ v with build:=[] }

def firstV (x y z:Nat):Ver:=⟨x,y,z,[[48]],[]⟩
def endV (x y z i:Nat):Option Ver :=
 if i=0 then (if 9223372036854775807≤x then none else some (firstV (x+1) 0 0))
 else if i=1 then (if 9223372036854775807≤y then none else some (firstV x (y+1) 0))
 else if 9223372036854775807≤z then none else some (firstV x y (z+1))
def placeV (x y:Nat):Nat:=if x≠0 then 0 else if y≠0 then 1 else 2
def caretV (v:Ver):Option Ver:=endV v.a v.b v.c (placeV v.a v.b)
def tildeV (v:Ver):Option Ver:=endV v.a v.b v.c 1
def verOf (o:Option Ver):Ver:=o.getD noVer
theorem end_ahead {v e:Ver} {i:Nat} (h:endV v.a v.b v.c i=some e):cmpV v e=-1:=by
 have k:cmpCore v e=-1:=by
  unfold endV at h
  split at h
  ·split at h
   ·cases h
   ·cases h
    rw [cmpCore_1 (by show v.a≠v.a+1; omega)]; exact ordN_lt (Nat.lt_succ_self v.a)
  ·split at h
   ·split at h
    ·cases h
    ·cases h
     exact (cmpCore_2 (u:=v) (v:=firstV v.a (v.b+1) 0) rfl (by show v.b≠v.b+1; omega)).trans (ordN_lt (Nat.lt_succ_self v.b))
   ·split at h
    ·cases h
    ·cases h
     exact (cmpCore_3 (u:=v) (v:=firstV v.a v.b (v.c+1)) rfl rfl).trans (ordN_lt (Nat.lt_succ_self v.c))
 unfold cmpV
 rw [lex_no (by rw [k]; omega)]; exact k
end Go.Proofs.YtneilnibghhgmaaGreatDoor.Prec
namespace Go.Proofs.YtneilnibghhgmaaGreatDoor.Ident
open Go.RowKit Num

theorem drop_texts (xs:List (List UInt8)) (k:Nat) (h:k<xs.length):xs.drop k=xs.getD k [] :: xs.drop (k+1):=by
 rw [List.drop_eq_getElem_cons h]; simp [List.getD,List.getElem?_eq_getElem h]
theorem getD_mem (xs:List (List UInt8)) (k:Nat) (h:k<xs.length):xs.getD k [] ∈ xs:=by
 simp [List.getD,List.getElem?_eq_getElem h]
theorem ordN_zero {a b:Nat} (h:a≤b):ordN 0 (b - a)=ordN a b:=by
 rcases Nat.lt_or_ge a b with h1 | h1
 ·rw [ordN_lt h1,ordN_lt (by omega)]
 ·rw [ordN_eq (by omega),ordN_eq (by omega)]
theorem ordN_zero' {a b:Nat} (h:b≤a):ordN (a - b) 0=ordN a b:=by
 rcases Nat.lt_or_ge b a with h1 | h1
 ·rw [ordN_gt h1,ordN_gt (by omega)]
 ·rw [ordN_eq (by omega),ordN_eq (by omega)]
theorem rows_end {xs ys:List (List UInt8)} {k:Nat} (h1:k≤xs.length) (h2:k≤ys.length) (h:k=xs.length∨k=ys.length):cmpRows (xs.drop k) (ys.drop k)=ordN xs.length ys.length:=by
 rcases h with h | h
 ·subst h
  rw [List.drop_eq_nil_of_le (Nat.le_refl _),cmpRows_nil,List.length_drop]; exact ordN_zero h2
 ·subst h
  rw [List.drop_eq_nil_of_le (Nat.le_refl ys.length),cmpRows_nil',List.length_drop]; exact ordN_zero' h1

def RowsJ (w:World) (A:Option Addr) (a ca:Nat) (B:Option Addr) (b cb:Nat) (g:Value) (xs ys:List (List UInt8)) (a':Act) (w':World):Prop :=
 ∃ (k:Nat) (u8 u9 u10 u11 u12 u13 u14 u15 u16 u17 u18 u19 u20 u21 u22 u23 u24 u25 u26 u27 u28 u29 u30 u31 u32 u33 u34 u35 u36 u37 u38:Value),BelowD w.heap.size w w'∧k≤a∧k≤b∧cmpRows (xs.drop k) (ys.drop k)=cmpRows xs ys ∧
  a'={ tmps:=#[.slice A a ca,.slice B b cb,g,undef,undef,undef,.int .i64 0,.int .i64 k,u8,u9,u10,u11,u12,u13,u14,u15,u16,u17,u18,u19,u20,u21,u22,u23,u24,u25,u26,u27,u28,u29,u30,u31,u32,u33,u34,u35,u36,u37,u38],defers:=[] }
def RowsM (n:Nat) (a':Act) (_:World):Nat:=n - (intOf (a'.tmps.getD 7 undef)).toNat

theorem rowsG_anyD (A:Option Addr) (a ca:Nat) (xs:List (List UInt8)) (B:Option Addr) (b cb:Nat) (ys:List (List UInt8)) (w:World) (hA:SRow w A a xs) (hB:SRow w B b ys)
  (ha:a≤maxLen) (hb:b≤maxLen) (hx:∀ x ∈ xs,x.length≤maxLen) (hy:∀ y ∈ ys,y.length≤maxLen) :
  Calls Tryz.prog 164 #[.slice A a ca,.slice B b cb,.func (.func 165) #[] #[]] w fun e w'=>e=.returned (.int .i64 (cmpRows xs ys))∧BelowD w.heap.size w w':=by
 unfold maxLen at ha hb
 have HA:=Lib.hid hA
 have HB:=Lib.hid hB
 have HX:=Lib.hid hx
 have HY:=Lib.hid hy
 have HLA:=Lib.hid hA.1
 have HLB:=Lib.hid hB.1
 clear hA hB hx hy
 go_enter Tryz.func164,Tryz.ntmps164
 go_wp2
 refine wp_scope_back 0 (RowsJ w A a ca B b cb (.func (.func 165) #[] #[]) xs ys) (RowsM a) rfl ?_ ?_
 ·rintro a' w1 ⟨k,u8,u9,u10,u11,u12,u13,u14,u15,u16,u17,u18,u19,u20,u21,u22,u23,u24,u25,u26,u27,u28,u29,u30,u31,u32,u33,u34,u35,u36,u37,u38,hb1,hk1,hk2,hgo,rfl⟩
  have HB1:=Lib.hid hb1
  have HG:=Lib.hid hgo
  clear hb1 hgo
  have hz1:=HB1.out.size
  have HE:Hid (k=a∨k=b→cmpRows xs ys=ordN a b):=fun h=>by
   rw [← HG.out,rows_end (by rw [HLA.out]; exact hk1) (by rw [HLB.out]; exact hk2) (by rw [HLA.out,HLB.out]; exact h),HLA.out,HLB.out]
  by_cases h1:k=a
  ·have HE2:=Lib.hid (HE.out (.inl h1))
   have hb1:((k:Int) == (a:Int))=true:=by simp [h1]
   clear h1 HE
   go_wp2_with fail
   refine (cmp_any _ _ _).mono ?_
   rintro e w' ⟨rfl,rfl⟩
   go_wp2
   simp only [Exit.jump]
   go_ret
   exact ⟨by rw [HE2.out]; rfl,HB1.out⟩
  by_cases h2:k=b
  ·have HE2:=Lib.hid (HE.out (.inr h2))
   have hb1:((k:Int) == (a:Int))=false:=by simp; omega
   have hb2:((k:Int) == (b:Int))=true:=by simp [h2]
   clear h1 h2 HE
   go_wp2_with fail
   refine (cmp_any _ _ _).mono ?_
   rintro e w' ⟨rfl,rfl⟩
   go_wp2
   simp only [Exit.jump]
   go_ret
   exact ⟨by rw [HE2.out]; rfl,HB1.out⟩
  have hb1:((k:Int) == (a:Int))=false:=by simp; omega
  have hb2:((k:Int) == (b:Int))=false:=by simp; omega
  have hka:k<a:=by omega
  have hkb:k<b:=by omega
  clear h1 h2 HE
  obtain ⟨g1,o1,rfl,hg1,hc1⟩:=(HA.out.kept HB1.out.toBelow).2 (by omega)
  obtain ⟨g2,o2,rfl,hg2,hc2⟩:=(HB.out.kept HB1.out.toBelow).2 (by omega)
  have hx1:=hc1 k hka
  have hx2:=hc2 k hkb
  clear hc1 hc2
  have HZ1:=Lib.hid (HX.out _ (getD_mem xs k (by rw [HLA.out]; exact hka)))
  have HZ2:=Lib.hid (HY.out _ (getD_mem ys k (by rw [HLB.out]; exact hkb)))
  have HD:Hid (cmpRows xs ys=if cmpId (xs.getD k []) (ys.getD k [])=0 then cmpRows (xs.drop (k+1)) (ys.drop (k+1)) else cmpId (xs.getD k []) (ys.getD k [])):=by
   unfold Hid
   rw [← HG.out,drop_texts xs k (by rw [HLA.out]; exact hka),drop_texts ys k (by rw [HLB.out]; exact hkb),cmpRows]
  generalize xs.getD k []=s at hx1 HZ1 HD
  generalize ys.getD k []=t at hx2 HZ2 HD
  go_wp2
  go_still_tail 9,(by kernel_rfl)
  change wpList _ _ _ _ _ w1.drew
  have HW:=Lib.hid HB1.out.drew
  generalize w1.drew=w2 at HW
  have hz2:=HW.out.size
  obtain ⟨c,hc⟩:∃ c,cmpId s t=c:=⟨_,rfl⟩
  rw [hc] at HD
  have HC:=Lib.hid hc; clear hc
  go_wp2_with fail
  refine (idcmp_anyD (mk s) (mk t) _ (by rw [mk_size]; exact HZ1.out) (by rw [mk_size]; exact HZ2.out)).mono ?_
  rw [mk_list,mk_list,HC.out]
  rintro e w3 ⟨rfl,hb3⟩
  have HB3:=Lib.hid (HW.out.trans (hb3.mono hz2))
  clear hb3
  by_cases hc0:c=0
  ·have HD2:Hid (cmpRows (xs.drop (k+1)) (ys.drop (k+1))=cmpRows xs ys):=by have:=HD.out; rw [if_pos hc0] at this; exact this.symm
   subst hc0
   clear HD
   go_wp2
   go_step3
   rw [show ((k:Int)+1)=((k+1:Nat):Int) from rfl]
   refine ⟨rfl,⟨k+1,_,_,_,_,_,_,_,_,_,_,_,_,_,_,_,_,_,_,_,_,_,_,_,_,_,_,_,_,_,_,_,HB3.out,by omega,by omega,HD2.out,rfl⟩,?_⟩
   simp [RowsM,intOf]; omega
  ·have HD2:Hid (cmpRows xs ys=c):=by have:=HD.out; rw [if_neg hc0] at this; exact this
   have hn:(c == 0)=false:=by simp [hc0]
   have hn2:(c != 0)=true:=by simp [hc0]
   clear HD hc0
   go_wp2
   simp only [Exit.jump]
   go_ret
   exact ⟨by rw [HD2.out]; rfl,HB3.out⟩
 ·intro HP
  go_wp2
  go_step3
  rename_i hK
  exact hK _ _ (HP.out _ _ ⟨0,_,_,_,_,_,_,_,_,_,_,_,_,_,_,_,_,_,_,_,_,_,_,_,_,_,_,_,_,_,_,_,BelowD.refl _ _,by omega,by omega,rfl,rfl⟩)
theorem rows_anyD (A:Option Addr) (a ca:Nat) (xs:List (List UInt8)) (B:Option Addr) (b cb:Nat) (ys:List (List UInt8)) (w:World) (hA:SRow w A a xs) (hB:SRow w B b ys)
  (ha:a≤maxLen) (hb:b≤maxLen) (hx:∀ x ∈ xs,x.length≤maxLen) (hy:∀ y ∈ ys,y.length≤maxLen) :
  Calls Tryz.prog 133 #[.slice A a ca,.slice B b cb] w fun e w'=>e=.returned (.int .i64 (cmpRows xs ys))∧BelowD w.heap.size w w':=by
 have HA:=Lib.hid hA
 have HB:=Lib.hid hB
 have HX:=Lib.hid hx
 have HY:=Lib.hid hy
 have HM:=Lib.hid ha
 have HN:=Lib.hid hb
 clear hA hB hx hy ha hb
 go_enter Tryz.func133,Tryz.ntmps133
 go_wp2_with fail
 refine (rowsG_anyD A a ca xs B b cb ys _ HA.out HB.out HM.out HN.out HX.out HY.out).mono ?_
 rintro e w1 ⟨rfl,hb1⟩
 go_wp2
 go_ret
 exact ⟨rfl,hb1⟩
end Go.Proofs.YtneilnibghhgmaaGreatDoor.Ident
namespace Go.Proofs.YtneilnibghhgmaaGreatDoor.Ident
open Go.RowKit Num

theorem text_any (A:Option Addr) (n c:Nat) (xs:List (List UInt8)) (w:World) (hr:SRow w A n xs) (hc:n≤c) (hs:shortB xs=true) :
  Calls Tryz.prog 139 #[.slice A n c] w fun e w'=>e=.returned (.string (mk (joined xs)))∧Below w.heap.size w w':=by
 have HJ:Hid (∀ W,W=w→Calls Tryz.prog 168 #[.slice A n c,.string ⟨#[46]⟩] W fun e w'=>e=.returned (.string (mk (joined xs)))∧Below w.heap.size w w'):=by
  rintro W rfl
  have hn:=hr.1
  rw [shortB_iff] at hs
  have hle:=joined_le xs hs.2
  rcases Nat.eq_zero_or_pos n with h0 | h0
  ·subst h0
   have e:xs=[]:=List.eq_nil_of_length_eq_zero hn
   subst e
   refine (Tryz.strings_Join_none A c ⟨#[46]⟩ W).mono ?_
   rintro e w' ⟨rfl,rfl⟩
   exact ⟨rfl,Below.refl _ _⟩
  ·obtain ⟨b,o,rfl,hb,hcell⟩:=hr.2 h0
   have e1:(xs.map mk).map (fun x:ByteArray=>x.data.toList)=xs:=by
    rw [List.map_map]; exact List.map_id xs
   have:=Tryz.strings_Join b o c (xs.map mk) ⟨#[46]⟩ W (fun j x hx=>by
    have hj:j<xs.length:=by have:=(List.getElem?_eq_some_iff.1 hx).1; rwa [List.length_map] at this
    have hx2:x=mk (xs.getD j []):=by
     rw [List.getElem?_map,List.getElem?_eq_getElem hj] at hx
     simp at hx
     rw [← hx]; simp [List.getD,List.getElem?_eq_getElem hj]
    rw [hx2]; exact hcell j (by omega)) hb (by rw [List.length_map]; omega) (by rw [List.length_map]; omega) (by
     rw [e1]
     show (joined xs).length≤_
     omega)
   rw [e1,List.length_map,hn] at this
   exact this
 clear hr hs
 go_enter Tryz.func139,Tryz.ntmps139
 go_wp2_with fail
 refine (HJ.out _ rfl).mono ?_
 rintro e w1 ⟨rfl,hb1⟩
 go_wp2
 go_ret
 exact ⟨rfl,hb1⟩
end Go.Proofs.YtneilnibghhgmaaGreatDoor.Ident
namespace Go.Proofs.YtneilnibghhgmaaGreatDoor.Semver
open Go.RowKit Num Ident

def HeldAt (x y z i:Nat):Prop:=i=0∨(i=1∧x≤maxField)∨(i=2∧x≤maxField∧y≤maxField)∨(i=3∧x≤maxField∧y≤maxField∧z≤maxField)
def HeldJ (w:World) (x y z:Nat) (a':Act) (w':World):Prop :=
 ∃ (i:Nat) (u4 u5 u6 u7 u8 u9 u10 u11:Value),w'=w.alloc (.cells #[.int .u64 x,.int .u64 y,.int .u64 z] 123)∧HeldAt x y z i ∧
  a'={ tmps:=#[.agg #[.int .u64 x,.int .u64 y,.int .u64 z],.pointer (some ⟨w.heap.size,0,none⟩),.bool false,.int .i64 i,u4,u5,u6,u7,u8,u9,u10,u11],defers:=[] }
def HeldM (a':Act) (_:World):Nat:=4 - (intOf (a'.tmps.getD 3 undef)).toNat
theorem held_any (x y z:Nat) (w:World) :
  Calls Tryz.prog 78 #[.agg #[.int .u64 x,.int .u64 y,.int .u64 z]] w fun e w'=>e=.returned (.bool (heldB x y z))∧Below w.heap.size w w':=by
 have HB:Hid (Below w.heap.size w (w.alloc (.cells #[.int .u64 x,.int .u64 y,.int .u64 z] 123))):=(Below.refl _ _).alloc (Nat.le_refl _) _
 go_enter Tryz.func78,Tryz.ntmps78
 go_wp2
 refine wp_scope_back 0 (HeldJ w x y z) HeldM rfl ?_ ?_
 ·rintro a' w1 ⟨i,u4,u5,u6,u7,u8,u9,u10,u11,rfl,hat,rfl⟩
  rcases hat with rfl | ⟨rfl,h1⟩ | ⟨rfl,h1,h2⟩ | ⟨rfl,h1,h2,h3⟩
  ·by_cases hx:(x:Int)≤9223372036854775807
   ·have HX:=Lib.hid (field_le hx)
    go_wp2
    go_step3
    refine ⟨rfl,⟨1,_,_,_,_,_,_,_,_,rfl,.inr (.inl ⟨rfl,HX.out⟩),rfl⟩,?_⟩
    simp [HeldM,intOf]
   ·have HF:Hid (heldB x y z=false):=heldB_no fun hh=>field_no hx hh.1
    have hx2:(9223372036854775807:Int)<(x:Int):=by omega
    clear hx
    go_wp2
    simp only [Exit.jump]
    go_ret
    exact ⟨by rw [HF.out]; rfl,HB.out⟩
  ·have H1:=Lib.hid h1; clear h1
   by_cases hx:(y:Int)≤9223372036854775807
   ·have HX:=Lib.hid (field_le hx)
    go_wp2
    go_step3
    refine ⟨rfl,⟨2,_,_,_,_,_,_,_,_,rfl,.inr (.inr (.inl ⟨rfl,H1.out,HX.out⟩)),rfl⟩,?_⟩
    simp [HeldM,intOf]
   ·have HF:Hid (heldB x y z=false):=heldB_no fun hh=>field_no hx hh.2.1
    have hx2:(9223372036854775807:Int)<(y:Int):=by omega
    clear hx
    go_wp2
    simp only [Exit.jump]
    go_ret
    exact ⟨by rw [HF.out]; rfl,HB.out⟩
  ·have H1:=Lib.hid h1; clear h1; have H2:=Lib.hid h2; clear h2
   by_cases hx:(z:Int)≤9223372036854775807
   ·have HX:=Lib.hid (field_le hx)
    go_wp2
    go_step3
    refine ⟨rfl,⟨3,_,_,_,_,_,_,_,_,rfl,.inr (.inr (.inr ⟨rfl,H1.out,H2.out,HX.out⟩)),rfl⟩,?_⟩
    simp [HeldM,intOf]
   ·have HF:Hid (heldB x y z=false):=heldB_no fun hh=>field_no hx hh.2.2
    have hx2:(9223372036854775807:Int)<(z:Int):=by omega
    clear hx
    go_wp2
    simp only [Exit.jump]
    go_ret
    exact ⟨by rw [HF.out]; rfl,HB.out⟩
  ·have HF:=Lib.hid (heldB_yes h1 h2 h3)
   clear h1 h2 h3
   go_wp2
   simp only [Exit.jump]
   go_ret
   exact ⟨by rw [HF.out]; rfl,HB.out⟩
 ·intro HP
  go_wp2
  go_step3
  rename_i hK
  exact hK _ _ (HP.out _ _ ⟨0,_,_,_,_,_,_,_,_,rfl,.inl rfl,rfl⟩)
theorem vgood_any (v:Ver) (A:Option Addr) (c:Nat) (B:Option Addr) (d:Nat) (w:World) (hr1:SRow w A v.pre.length v.pre) (hr2:SRow w B v.build.length v.build)
  (hn1:v.pre.length≤maxLen) (hn2:v.build.length≤maxLen) (hx1:∀ x ∈ v.pre,x.length≤maxLen) (hx2:∀ x ∈ v.build,x.length≤maxLen) :
  Calls Tryz.prog 40 #[.agg #[v.a,v.b,v.c,.slice A v.pre.length c,.slice B v.build.length d]] w fun e w'=>e=.returned (.bool (goodV v))∧Below w.heap.size w w':=by
 have R1:=Lib.hid hr1
 have R2:=Lib.hid hr2
 have N1:=Lib.hid hn1
 have N2:=Lib.hid hn2
 have X1:=Lib.hid hx1
 have X2:=Lib.hid hx2
 clear hr1 hr2 hn1 hn2 hx1 hx2
 have HBa:=Lib.hid ((Below.refl w.heap.size w).alloc (Nat.le_refl _) (.cells #[v.a,v.b,v.c,.slice A v.pre.length c,.slice B v.build.length d] 47))
 have K0:=Lib.hid (At5.new w 47 v.a v.b v.c (.slice A v.pre.length c) (.slice B v.build.length d))
 have HG:Hid (goodV v=(heldB v.a v.b v.c && (goodFrom true v.pre 0 && goodFrom false v.build 0))):=rfl
 go_enter Tryz.func40,Tryz.ntmps40
 go_wp2_with fail
 refine (coreOf_any _ _ _ _ _ _).mono ?_
 rintro e w1 ⟨rfl,hb1⟩
 have K1:=Lib.hid (K0.out.kept hb1 (by simp))
 have B1:=Lib.hid (HBa.out.trans (hb1.mono (by simp)))
 have hz1:=K1.out.1
 clear hb1 K0 HBa
 go_wp2_with fail
 refine (held_any _ _ _ _).mono ?_
 rintro e w2 ⟨rfl,hb2⟩
 have K2:=Lib.hid (K1.out.kept hb2 (by omega))
 have B2:=Lib.hid (B1.out.trans (hb2.mono (by omega)))
 have hz2:=K2.out.1
 clear hb2 K1 B1
 generalize heldB v.a v.b v.c=g1 at HG ⊢
 obtain ⟨_,_,x0,x1,x2,x3,x4⟩:=K2.out
 cases g1
 ·go_wp2
  go_ret
  exact ⟨by rw [HG.out]; rfl,B2.out⟩
 go_wp2_with fail
 refine (good_any _ _ _ v.pre true _ (R1.out.kept B2.out) N1.out X1.out).mono ?_
 rintro e w3 ⟨rfl,hb3⟩
 have K3:=Lib.hid (K2.out.kept hb3 (by omega))
 have B3:=Lib.hid (B2.out.trans (hb3.mono (by omega)))
 clear hb3 x0 x1 x2 x3 x4
 generalize goodFrom true v.pre 0=g2 at HG ⊢
 obtain ⟨hz3,_,x0,x1,x2,x3,x4⟩:=K3.out
 cases g2
 ·go_wp2
  go_ret
  exact ⟨by rw [HG.out]; rfl,B3.out⟩
 go_wp2_with fail
 refine (good_any _ _ _ v.build false _ (R2.out.kept B3.out) N2.out X2.out).mono ?_
 rintro e w4 ⟨rfl,hb4⟩
 have B4:=Lib.hid (B3.out.trans (hb4.mono (by omega)))
 clear hb4 x0 x1 x2 x3 x4
 go_wp2
 go_ret
 exact ⟨by rw [HG.out]; simp,B4.out⟩
end Go.Proofs.YtneilnibghhgmaaGreatDoor.Semver
namespace Go.Proofs.YtneilnibghhgmaaGreatDoor.Prec
open Go.RowKit Num Ident Semver

theorem cmpU_any (x y:Nat) (w:World) :
  Calls Tryz.prog 186 #[.int .u64 x,.int .u64 y] w fun e w'=>e=.returned (.int .i64 (ordN x y))∧w=w':=by
 rcases Nat.lt_trichotomy x y with h | h | h
 ·have HF:=Lib.hid (ordN_lt h)
  go_enter Tryz.func186,Tryz.ntmps186
  go_wp2
  go_ret
  exact ⟨by rw [HF.out]; rfl,rfl⟩
 ·have HF:=Lib.hid (ordN_eq h)
  subst h
  go_enter Tryz.func186,Tryz.ntmps186
  go_wp2
  go_ret
  exact ⟨by rw [HF.out]; rfl,rfl⟩
 ·have HF:=Lib.hid (ordN_gt h)
  go_enter Tryz.func186,Tryz.ntmps186
  go_wp2
  go_ret
  exact ⟨by rw [HF.out]; rfl,rfl⟩

theorem coreOf_anyD (a b c:Int) (x y:Value) (w:World) :
  Calls Tryz.prog 162 #[.agg #[.int .u64 a,.int .u64 b,.int .u64 c,x,y]] w fun e w'=>e=.returned (.agg #[.int .u64 a,.int .u64 b,.int .u64 c])∧BelowD w.heap.size w w':=by
 go_enter Tryz.func162,Tryz.ntmps162
 go_wp2
 exact bodyPost_ret (v:=.agg #[.int .u64 a,.int .u64 b,.int .u64 c]) (by simp [results,Tryz.results162,go_sem]) rfl ⟨rfl,((BelowD.refl _ _).alloc (Nat.le_refl _) _).alloc (by simp) _⟩
theorem coreOf_any (a b c:Int) (x y:Value) (w:World) :
  Calls Tryz.prog 162 #[.agg #[.int .u64 a,.int .u64 b,.int .u64 c,x,y]] w fun e w'=>e=.returned (.agg #[.int .u64 a,.int .u64 b,.int .u64 c])∧Below w.heap.size w w':=dropD (coreOf_anyD a b c x y w)

def CoresAt (u v:Ver) (i:Nat):Prop:=i=0∨(i=1∧u.a=v.a)∨(i=2∧u.a=v.a∧u.b=v.b)
def CoresJ (w:World) (u v:Ver) (a':Act) (w':World):Prop :=
 ∃ (i:Nat) (u6 u7 u8 u9 u10 u11 u12 u13 u14 u15 u16 u17 u18 u19 u20 u21 u22 u23 u24:Value),BelowD w.heap.size w w'∧At3 w' w.heap.size u.a u.b u.c∧At3 w' (w.heap.size+1) v.a v.b v.c∧CoresAt u v i∧¬ (u.a=v.a∧u.b=v.b∧u.c=v.c) ∧
  a'={ tmps:=#[.agg #[u.a,u.b,u.c],.agg #[v.a,v.b,v.c],.pointer (some ⟨w.heap.size,0,none⟩),.pointer (some ⟨w.heap.size+1,0,none⟩),.int .i64 0,.int .i64 i,u6,u7,u8,u9,u10,u11,u12,u13,u14,u15,u16,u17,u18,u19,u20,u21,u22,u23,u24],defers:=[] }
def CoresM (a':Act) (_:World):Nat:=4 - (intOf (a'.tmps.getD 5 undef)).toNat
theorem beq_no {x y:Nat} (h:x≠y):((x:Int) == (y:Int))=false:=by simp; omega
theorem beq_yes {x y:Nat} (h:x=y):((x:Int) == (y:Int))=true:=by simp [h]

theorem cores_anyD (u v:Ver) (w:World) :
  Calls Tryz.prog 161 #[.agg #[u.a,u.b,u.c],.agg #[v.a,v.b,v.c]] w fun e w'=>e=.returned (.int .i64 (cmpCore u v))∧BelowD w.heap.size w w':=by
 have HBa:Hid (BelowD w.heap.size w ((w.alloc (.cells #[u.a,u.b,u.c] 186)).alloc (.cells #[v.a,v.b,v.c] 186))):=((BelowD.refl _ _).alloc (Nat.le_refl _) _).alloc (by simp) _
 have K1:Hid (At3 ((w.alloc (.cells #[u.a,u.b,u.c] 186)).alloc (.cells #[v.a,v.b,v.c] 186)) w.heap.size u.a u.b u.c):=(At3.new w 186 _ _ _).kept ((Below.refl _ _).alloc (Nat.le_refl _) _) (by simp)
 have K2:Hid (At3 ((w.alloc (.cells #[u.a,u.b,u.c] 186)).alloc (.cells #[v.a,v.b,v.c] 186)) (w.heap.size+1) v.a v.b v.c):=by
  have:=At3.new (w.alloc (.cells #[u.a,u.b,u.c] 186)) 186 v.a v.b v.c
  rw [size_alloc] at this; exact this
 go_enter Tryz.func161,Tryz.ntmps161
 go_wp2
 refine wp_scope_back 0 (CoresJ w u v) CoresM rfl ?_ ?_
 ·rintro a' w1 ⟨i,u6,u7,u8,u9,u10,u11,u12,u13,u14,u15,u16,u17,u18,u19,u20,u21,u22,u23,u24,hb1,k1,k2,hat,hne,rfl⟩
  have HB1:=Lib.hid hb1
  have L1:=Lib.hid k1
  have L2:=Lib.hid k2
  have hz1:=k2.1
  obtain ⟨_,_,x0,x1,x2⟩:=k1
  obtain ⟨_,_,y0,y1,y2⟩:=k2
  clear hb1
  rcases hat with rfl | ⟨rfl,h1⟩ | ⟨rfl,h1,h2⟩
  ·by_cases h:u.a=v.a
   ·have e1:=beq_yes h
    have HH:=Lib.hid h
    have HN:=Lib.hid hne
    clear h hne
    go_wp2
    go_still (by kernel_rfl)
    have HB2:=Lib.hid HB1.out.drew
    have M1:=Lib.hid (L1.out.kept (B:=w1.heap.size) (Below.refl _ _).drew (by omega))
    have M2:=Lib.hid (L2.out.kept (B:=w1.heap.size) (Below.refl _ _).drew (by omega))
    go_wp2
    go_step3
    refine ⟨rfl,⟨1,_,_,_,_,_,_,_,_,_,_,_,_,_,_,_,_,_,_,_,HB2.out,M1.out,M2.out,.inr (.inl ⟨rfl,HH.out⟩),HN.out,rfl⟩,?_⟩
    simp [CoresM,intOf]
   ·have e1:=beq_no h
    have HF:Hid (cmpCore u v=ordN u.a v.a):=cmpCore_1 h
    clear h hne
    go_wp2
    go_still (by kernel_rfl)
    have HB2:=Lib.hid HB1.out.drew
    have M1:=Lib.hid (L1.out.kept (B:=w1.heap.size) (Below.refl _ _).drew (by omega))
    have M2:=Lib.hid (L2.out.kept (B:=w1.heap.size) (Below.refl _ _).drew (by omega))
    clear x0 x1 x2 y0 y1 y2
    change Exit.then _ _ _ _ w1.drew
    generalize w1.drew=w2 at HB2 M1 M2 ⊢
    obtain ⟨_,_,x0,x1,x2⟩:=M1.out
    obtain ⟨_,_,y0,y1,y2⟩:=M2.out
    go_wp2
    go_still_tail 6,(by kernel_rfl)
    change wpList _ _ _ _ _ w2.drew
    have HB3:=Lib.hid HB2.out.drew
    generalize w2.drew=w3 at HB3 ⊢
    go_wp2_with fail
    refine (cmpU_any _ _ _).mono ?_
    rintro e w' ⟨rfl,rfl⟩
    go_wp2
    simp only [Exit.jump]
    go_ret
    exact ⟨by rw [HF.out]; rfl,HB3.out⟩
  ·have H1:=Lib.hid h1
   clear h1
   by_cases h:u.b=v.b
   ·have e1:=beq_yes h
    have HH:=Lib.hid h
    have HN:=Lib.hid hne
    clear h hne
    go_wp2
    go_still (by kernel_rfl)
    have HB2:=Lib.hid HB1.out.drew
    have M1:=Lib.hid (L1.out.kept (B:=w1.heap.size) (Below.refl _ _).drew (by omega))
    have M2:=Lib.hid (L2.out.kept (B:=w1.heap.size) (Below.refl _ _).drew (by omega))
    go_wp2
    go_step3
    refine ⟨rfl,⟨2,_,_,_,_,_,_,_,_,_,_,_,_,_,_,_,_,_,_,_,HB2.out,M1.out,M2.out,.inr (.inr ⟨rfl,H1.out,HH.out⟩),HN.out,rfl⟩,?_⟩
    simp [CoresM,intOf]
   ·have e1:=beq_no h
    have HF:Hid (cmpCore u v=ordN u.b v.b):=cmpCore_2 H1.out h
    clear h hne
    go_wp2
    go_still (by kernel_rfl)
    have HB2:=Lib.hid HB1.out.drew
    have M1:=Lib.hid (L1.out.kept (B:=w1.heap.size) (Below.refl _ _).drew (by omega))
    have M2:=Lib.hid (L2.out.kept (B:=w1.heap.size) (Below.refl _ _).drew (by omega))
    clear x0 x1 x2 y0 y1 y2
    change Exit.then _ _ _ _ w1.drew
    generalize w1.drew=w2 at HB2 M1 M2 ⊢
    obtain ⟨_,_,x0,x1,x2⟩:=M1.out
    obtain ⟨_,_,y0,y1,y2⟩:=M2.out
    go_wp2
    go_still_tail 6,(by kernel_rfl)
    change wpList _ _ _ _ _ w2.drew
    have HB3:=Lib.hid HB2.out.drew
    generalize w2.drew=w3 at HB3 ⊢
    go_wp2_with fail
    refine (cmpU_any _ _ _).mono ?_
    rintro e w' ⟨rfl,rfl⟩
    go_wp2
    simp only [Exit.jump]
    go_ret
    exact ⟨by rw [HF.out]; rfl,HB3.out⟩
  ·have H1:=Lib.hid h1
   have H2:=Lib.hid h2
   clear h1 h2
   by_cases h:u.c=v.c
   ·exact absurd ⟨H1.out,H2.out,h⟩ hne
   ·have e1:=beq_no h
    have HF:Hid (cmpCore u v=ordN u.c v.c):=cmpCore_3 H1.out H2.out
    clear h hne
    go_wp2
    go_still (by kernel_rfl)
    have HB2:=Lib.hid HB1.out.drew
    have M1:=Lib.hid (L1.out.kept (B:=w1.heap.size) (Below.refl _ _).drew (by omega))
    have M2:=Lib.hid (L2.out.kept (B:=w1.heap.size) (Below.refl _ _).drew (by omega))
    clear x0 x1 x2 y0 y1 y2
    change Exit.then _ _ _ _ w1.drew
    generalize w1.drew=w2 at HB2 M1 M2 ⊢
    obtain ⟨_,_,x0,x1,x2⟩:=M1.out
    obtain ⟨_,_,y0,y1,y2⟩:=M2.out
    go_wp2
    go_still_tail 6,(by kernel_rfl)
    change wpList _ _ _ _ _ w2.drew
    have HB3:=Lib.hid HB2.out.drew
    generalize w2.drew=w3 at HB3 ⊢
    go_wp2_with fail
    refine (cmpU_any _ _ _).mono ?_
    rintro e w' ⟨rfl,rfl⟩
    go_wp2
    simp only [Exit.jump]
    go_ret
    exact ⟨by rw [HF.out]; rfl,HB3.out⟩
 ·intro HP
  by_cases hn:u.a=v.a∧u.b=v.b∧u.c=v.c
  ·have HF:Hid (cmpCore u v=0):=by
    unfold Hid
    rw [cmpCore_3 hn.1 hn.2.1]; exact ordN_eq hn.2.2
   have kq:=fun W=>run_eq3 u.a u.b u.c v.a v.b v.c W
   rw [beq_yes hn.1,beq_yes hn.2.1,beq_yes hn.2.2] at kq
   clear hn
   go_wp2
   simp only [Exit.jump]
   go_ret
   exact ⟨by rw [HF.out]; rfl,HBa.out⟩
  ·have HN:=Lib.hid hn
   have hq:(((u.a:Int) == (v.a:Int)) && (((u.b:Int) == (v.b:Int)) && ((u.c:Int) == (v.c:Int))))=false:=by
    rw [← Bool.not_eq_true]; simp only [Bool.and_eq_true,beq_iff_eq]; omega
   have kq:=fun W=>run_eq3 u.a u.b u.c v.a v.b v.c W
   rw [hq] at kq
   clear hn hq
   go_wp2
   go_step3
   rename_i hK
   exact hK _ _ (HP.out _ _ ⟨0,_,_,_,_,_,_,_,_,_,_,_,_,_,_,_,_,_,_,_,HBa.out,K1.out,K2.out,.inl rfl,HN.out,rfl⟩)
end Go.Proofs.YtneilnibghhgmaaGreatDoor.Prec
