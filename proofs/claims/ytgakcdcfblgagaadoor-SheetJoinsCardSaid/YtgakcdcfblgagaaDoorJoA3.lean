/-
  What the theorem of the last text needs of these: IdMath, NumText, NaWalk, SvMath, IdGoodMath, IdByte, IdJoin, SvMem, IdNumeric. Conditions: as each theorem states.
-/
import Derived.Test.YtgakcdcfblgagaaDoorJoA1
import Derived.Test.YtgakcdcfblgagaaDoorJoA2
import Derived.Lib.TrimByte
import Derived.Lib.ItoaMem
import Derived.Lib.ItoaLen
import Derived.Lib.Join
set_option maxRecDepth 100000
set_option maxHeartbeats 25600000
namespace Go.Proofs.YtgakcdcfblgagaaDoor.Ident
open Num

def isLet (b:UInt8):Bool:=decide ((65≤b.toNat∧b.toNat≤90)∨(97≤b.toNat∧b.toNat≤122))
def isId (b:UInt8):Bool:=isDig b || isLet b || decide (b.toNat=45)
def lead:List UInt8→Nat
 | []=>0
 | b :: r=>if isId b then lead r+1 else 0

theorem isLet_iff (b:UInt8):isLet b=true↔(65≤b.toNat∧b.toNat≤90)∨(97≤b.toNat∧b.toNat≤122):=by simp [isLet]

theorem lead_le (l:List UInt8):lead l≤l.length:=by
 induction l with
 | nil=>simp [lead]
 | cons b r ih=>simp only [lead,List.length_cons]; split <;> omega

theorem lead_skip (l:List UInt8) (k:Nat) (hk:k≤l.length) (h:∀ j,j<k→isId (l.getD j 0)=true):lead l=k+lead (l.drop k):=by
 induction k generalizing l with
 | zero=>simp
 | succ k ih =>
  cases l with
  | nil=>simp at hk
  | cons b r =>
   have h0:isId b=true:=by simpa using h 0 (by omega)
   have:=ih r (by simpa using hk) (fun j hj=>by simpa using h (j+1) (by omega))
   simp only [lead,h0,if_true,List.drop_succ_cons]; omega

theorem drop_getD (l:List UInt8) (k:Nat) (h:k<l.length):l.drop k=l.getD k 0 :: l.drop (k+1):=by
 rw [List.drop_eq_getElem_cons h]; simp [List.getD,List.getElem?_eq_getElem h]

theorem lead_stop (l:List UInt8) (k:Nat) (hk:k≤l.length) (h:∀ j,j<k→isId (l.getD j 0)=true) (he:k=l.length∨isId (l.getD k 0)=false):lead l=k:=by
 rw [lead_skip l k hk h]
 rcases he with he | he
 ·subst he; simp [lead]
 ·rcases Nat.lt_or_ge k l.length with hlt | hge
  ·rw [drop_getD l k hlt,lead,he]; simp
  ·rw [List.drop_eq_nil_of_le hge]; simp [lead]

theorem lead_full {l:List UInt8}:lead l=l.length↔∀ b ∈ l,isId b=true:=by
 induction l with
 | nil=>simp [lead]
 | cons b r ih =>
  rw [lead]
  by_cases hb:isId b=true
  ·simp [hb,← ih]
  ·have:=lead_le r
   simp [hb]

def numeric (l:List UInt8):Bool:=decide (0<l.length∧run l=l.length)
theorem numeric_iff (l:List UInt8):numeric l=true↔0<l.length∧run l=l.length:=by simp [numeric]
theorem numeric_no (l:List UInt8):numeric l=false↔¬ (0<l.length∧run l=l.length):=by
 rw [← numeric_iff]; cases numeric l <;> simp

def fault (s:List UInt8) (i:Nat) (pre:Bool):Nat :=
 if s.length=0 then 5 else if 255<s.length∨16≤i then 4 else if pre=true∧numeric s=true∧isNum s=false then 3 else 0
theorem fault_pos {s:List UInt8} {i:Nat} {pre:Bool} (h:fault s i pre=0):0<s.length∧s.length≤255∧i<16:=by
 unfold fault at h
 split at h
 ·omega
 ·split at h
  ·omega
  ·rename_i h1 h2; omega

abbrev Res:=Nat × Nat × List (List UInt8)
def shut (pre:Bool) (w:List UInt8) (acc:List (List UInt8)) (n:Nat):Res :=
 if fault w acc.length pre=0 then (0,n,acc ++ [w]) else (fault w acc.length pre,0,[])
def go (pre:Bool):List UInt8→List UInt8→List (List UInt8)→Nat→Res
 | [],w,acc,n=>shut pre w acc n
 | b :: r,w,acc,n =>
  if isId b then go pre r (w ++ [b]) acc (n+1)
  else if b.toNat=46 then (if fault w acc.length pre=0 then go pre r [] (acc ++ [w]) (n+1) else (fault w acc.length pre,0,[]))
  else shut pre w acc n
def row (l:List UInt8) (p:Int) (pre:Bool):Res:=if p<0∨(l.length:Int)<p then (1,0,[]) else go pre (l.drop p.toNat) [] [] 0

theorem point_no:isId 46=false:=by decide
theorem go_id {pre:Bool} {b:UInt8} {r w:List UInt8} {acc:List (List UInt8)} {n:Nat} (h:isId b=true):go pre (b :: r) w acc n=go pre r (w ++ [b]) acc (n+1):=by
 rw [go,if_pos h]
theorem go_bad {pre:Bool} {b:UInt8} {r w:List UInt8} {acc:List (List UInt8)} {n:Nat} (h:isId b=false) (hf:fault w acc.length pre≠0):go pre (b :: r) w acc n=(fault w acc.length pre,0,[]):=by
 rw [go,h]
 unfold shut
 simp [hf]
theorem go_point {pre:Bool} {b:UInt8} {r w:List UInt8} {acc:List (List UInt8)} {n:Nat} (hb:b.toNat=46) (hf:fault w acc.length pre=0):go pre (b :: r) w acc n=go pre r [] (acc ++ [w]) (n+1):=by
 have e:b=46:=UInt8.toNat_inj.1 hb
 subst e
 rw [go,point_no]
 simp [hf]
theorem go_else {pre:Bool} {b:UInt8} {r w:List UInt8} {acc:List (List UInt8)} {n:Nat} (h:isId b=false) (hb:b.toNat≠46):go pre (b :: r) w acc n=shut pre w acc n:=by
 rw [go,h]; simp [hb]
theorem go_lead (pre:Bool) (l w:List UInt8) (acc:List (List UInt8)) (n:Nat):go pre l w acc n=go pre (l.drop (lead l)) (w ++ l.take (lead l)) acc (n+lead l):=by
 induction l generalizing w n with
 | nil=>simp [lead]
 | cons b r ih =>
  by_cases hb:isId b=true
  ·rw [go_id hb,ih,lead,if_pos hb,List.drop_succ_cons,List.take_succ_cons,List.append_assoc,List.singleton_append]
   congr 1
   omega
  ·rw [lead,if_neg hb]; simp
theorem go_stop (pre:Bool) (l:List UInt8) (acc:List (List UInt8)) (n:Nat) (hf:fault (l.take (lead l)) acc.length pre≠0):go pre l [] acc n=(fault (l.take (lead l)) acc.length pre,0,[]):=by
 rw [go_lead,List.nil_append]
 rcases Nat.lt_or_ge (lead l) l.length with h | h
 ·rw [drop_getD l _ h]
  refine go_bad ?_ hf
  have h1:=lead_skip l (lead l) (Nat.le_of_lt h) (fun j hj=>?_)
  ·rw [drop_getD l _ h,lead] at h1
   split at h1
   ·omega
   ·rename_i h2; simpa using h2
  ·have:∀ (l:List UInt8) j,j<lead l→isId (l.getD j 0)=true:=by
    intro l
    induction l with
    | nil=>intro j hj; simp [lead] at hj
    | cons b r ih =>
     intro j hj
     rw [lead] at hj
     split at hj
     ·rename_i hb
      cases j with
      | zero=>simpa using hb
      | succ j=>simpa using ih j (by omega)
     ·omega
   exact this l j hj
 ·rw [List.drop_eq_nil_of_le h,go,shut,if_neg hf]

def numeral (l:List UInt8):List UInt8:=if (Lib.trimLeftB l 48).length=0 then [48] else Lib.trimLeftB l 48


def cmpId (a b:List UInt8):Int :=
 if numeric a=true then
  if numeric b=true then (if ordN (val a) (val b)=0 then ordN a.length b.length else ordN (val a) (val b))
  else -1
 else if numeric b=true then 1 else Lib.compareBytes a b





def cmpRows:List (List UInt8)→List (List UInt8)→Int
 | a :: r,b :: s=>if cmpId a b=0 then cmpRows r s else cmpId a b
 | r,s=>ordN r.length s.length

/-! How long a row is. -/
theorem shut_end {pre:Bool} {w:List UInt8} {acc:List (List UInt8)} {n:Nat}:(shut pre w acc n).2.1≤n:=by
 unfold shut; split <;> simp
theorem go_end_le (pre:Bool) (l w:List UInt8) (acc:List (List UInt8)) (n:Nat):(go pre l w acc n).2.1≤n+l.length:=by
 induction l generalizing w acc n with
 | nil=>rw [go]; exact Nat.le_trans shut_end (by simp)
 | cons b r ih =>
  rw [go,List.length_cons]
  split
  ·exact Nat.le_trans (ih _ _ _) (by omega)
  ·split
   ·split
    ·exact Nat.le_trans (ih _ _ _) (by omega)
    ·simp
   ·exact Nat.le_trans shut_end (by omega)
theorem row_end (l:List UInt8) (p:Nat) (pre:Bool) (hp:p≤l.length):p+(row l p pre).2.1≤l.length:=by
 unfold row
 rw [if_neg (by omega),Int.toNat_natCast]
 have:=go_end_le pre (l.drop p) [] [] 0
 rw [List.length_drop] at this; omega
theorem row_place (a b:List UInt8) (p:Nat) (pre:Bool) (hp:p≤b.length):row (a ++ b) ((a.length+p:Nat):Int) pre=row b p pre:=by
 have h1:¬ (((a.length+p:Nat):Int)<0∨((a ++ b).length:Int)<((a.length+p:Nat):Int)):=by simp only [List.length_append]; omega
 have h2:¬ ((p:Int)<0∨(b.length:Int)<(p:Int)):=by omega
 have h3:(a ++ b).drop (a.length+p)=b.drop p:=by
  rw [List.drop_append,List.drop_eq_nil_of_le (by omega),show a.length+p - a.length=p by omega]; rfl
 unfold row
 rw [if_neg h1,if_neg h2,Int.toNat_natCast,Int.toNat_natCast,h3]

end Go.Proofs.YtgakcdcfblgagaaDoor.Ident
namespace Go.Proofs.YtgakcdcfblgagaaDoor.Num
open Go.RowKit Go.Sort

def Tab (w:World):Prop:=Lib.TabIs Tryd.prog w "internal/strconv.uint64pow10" .u64 Lib.pow10Tab
theorem Tab.kept {w w':World} (h:Tab w) (hb:Below w.heap.size w w'):Tab w':=by
 unfold Tab Lib.TabIs World.var? at *
 cases hg:Tryd.prog.globalNamed "internal/strconv.uint64pow10" with
 | none=>simp [hg] at h
 | some g =>
  simp only [hg,Option.bind_some] at h ⊢
  have hlt:g<w.heap.size:=by
   rcases Nat.lt_or_ge g w.heap.size with h' | h'
   ·exact h'
   ·rw [Array.getElem?_eq_none h'] at h; simp at h
  rw [hb.block g hlt]
  exact h



theorem dec_all (u:Nat):AllDig (Lib.decDigits u):=by
 induction u using Nat.strongRecOn with
 | _ u ih =>
  rw [Lib.decDigits]
  split
  ·rename_i h
   intro b hb
   simp only [List.mem_singleton] at hb
   subst hb
   rw [isDig_iff,UInt8.toNat_ofNat']; omega
  ·rename_i h
   intro b hb
   rw [List.mem_append] at hb
   rcases hb with hb | hb
   ·exact ih (u / 10) (by omega) b hb
   ·simp only [List.mem_singleton] at hb
    subst hb
    rw [isDig_iff,UInt8.toNat_ofNat']; omega
theorem dec_val (u:Nat):val (Lib.decDigits u)=u:=by
 induction u using Nat.strongRecOn with
 | _ u ih =>
  rw [Lib.decDigits]
  split
  ·rename_i h
   rw [val_cons]
   simp [UInt8.toNat_ofNat',val,valFrom]; omega
  ·rename_i h
   rw [val_snoc,ih (u / 10) (by omega),UInt8.toNat_ofNat']; omega
theorem dec_pos (u:Nat):0<(Lib.decDigits u).length:=by rw [Lib.decDigits_length]; exact Lib.nDigits_pos u
theorem nd_le:∀ (k u:Nat),u<10 ^ k→1≤k→Lib.nDigits u≤k
 | 0,_,_,h=>by omega
 | k+1,u,h1,_=>by
  by_cases h:u<10
  ·rw [Lib.nDigits_small h]; omega
  ·rw [Lib.nDigits_big h]
   rw [Nat.pow_succ] at h1
   rcases Nat.eq_zero_or_pos k with h0 | h0
   ·subst h0; simp at h1; omega
   ·have:=nd_le k (u / 10) (by omega) h0
    omega
theorem dec_pad (u:Nat):pad (Lib.decDigits u)=false:=by
 rw [pad_no]
 rintro ⟨h1,h2⟩
 rw [Lib.decDigits_length] at h1
 have hv:=dec_val u
 have hl:=Lib.decDigits_length u
 cases hd:Lib.decDigits u with
 | nil=>rw [hd] at hl; simp at hl; omega
 | cons b r =>
  rw [hd] at hv h2 hl
  have ha:=dec_all u
  rw [hd,allDig_cons] at ha
  have hr:=val_lt ha.2
  have hb:b.toNat=48:=by simpa using h2
  rw [val_cons,hb] at hv
  simp at hv hl
  rw [hv] at hr
  have:=nd_le r.length u hr (by omega)
  omega
theorem dec_num (u:Nat):isNum (Lib.decDigits u)=true:=by
 rw [isNum_iff]
 exact ⟨dec_pos u,run_all (dec_all u),dec_pad u⟩
end Go.Proofs.YtgakcdcfblgagaaDoor.Num
namespace Go.Proofs.YtgakcdcfblgagaaDoor.Name
open Go.RowKit Num

theorem plain_any (x:Int) (w:World) (h0:0≤x) (h1:x≤255) :
  Calls Tryd.prog 85 #[.int .u8 x] w fun e w'=>e=.returned (.bool (fstB x))∧w=w':=by
 by_cases ha:97≤x
 ·by_cases hb:x≤122
  ·have HF:=Lib.hid ((fstB_iff x).2 (.inl ⟨ha,hb⟩))
   go_enter Tryd.func85,Tryd.ntmps85
   go_wp2
   go_ret
   exact ⟨by rw [HF.out]; rfl,rfl⟩
  ·have HF:=Lib.hid (fstB_no (x:=x) (by omega))
   have hc:48≤x:=by omega
   have hd:¬ x≤57:=by omega
   go_enter Tryd.func85,Tryd.ntmps85
   go_wp2
   go_ret
   exact ⟨by rw [HF.out]; rfl,rfl⟩
 ·by_cases hc:48≤x
  ·by_cases hd:x≤57
   ·have HF:=Lib.hid ((fstB_iff x).2 (.inr ⟨hc,hd⟩))
    go_enter Tryd.func85,Tryd.ntmps85
    go_wp2
    go_ret
    exact ⟨by rw [HF.out]; rfl,rfl⟩
   ·have HF:=Lib.hid (fstB_no (x:=x) (by omega))
    go_enter Tryd.func85,Tryd.ntmps85
    go_wp2
    go_ret
    exact ⟨by rw [HF.out]; rfl,rfl⟩
  ·have HF:=Lib.hid (fstB_no (x:=x) (by omega))
   go_enter Tryd.func85,Tryd.ntmps85
   go_wp2
   go_ret
   exact ⟨by rw [HF.out]; rfl,rfl⟩
def mrkB (x:Int):Bool:=decide (x=45∨x=95∨x=46)
theorem mrkB_iff (x:Int):mrkB x=true↔x=45∨x=95∨x=46:=by simp [mrkB]
theorem mark_any (x:Int) (w:World) :
  Calls Tryd.prog 86 #[.int .u8 x] w fun e w'=>e=.returned (.bool (mrkB x))∧w=w':=by
 by_cases h1:x=45
 ·have HF:=Lib.hid ((mrkB_iff x).2 (.inl h1))
  have b1:(x == 45)=true:=by rw [h1]; rfl
  clear h1
  go_enter Tryd.func86,Tryd.ntmps86
  go_wp2
  go_ret
  exact ⟨by rw [HF.out]; rfl,rfl⟩
 ·have b1:(x == 45)=false:=by simp [h1]
  by_cases h2:x=95
  ·have HF:=Lib.hid ((mrkB_iff x).2 (.inr (.inl h2)))
   have b2:(x == 95)=true:=by rw [h2]; rfl
   clear h2 h1
   go_enter Tryd.func86,Tryd.ntmps86
   go_wp2
   go_ret
   exact ⟨by rw [HF.out]; rfl,rfl⟩
  ·have b2:(x == 95)=false:=by simp [h2]
   have HF:Hid (mrkB x=(x == 46)):=by
    unfold Hid; rw [Bool.eq_iff_iff,mrkB_iff]; simp [h1,h2]
   clear h1 h2
   go_enter Tryd.func86,Tryd.ntmps86
   go_wp2
   go_ret
   exact ⟨by rw [HF.out]; rfl,rfl⟩
def NlJ (w:World) (A:Option Addr) (n c:Nat) (l:List UInt8) (a':Act) (w':World):Prop :=
 w=w'∧∃ (k:Nat) (u4 u5 u6 u7 u8 u9 u10 u11 u12 u13 u14 u15 u16 u17 u18 u19 u20 u21 u22 u23 u24 u25 u26 u27 u28:Value),k≤n∧(∀ j,j<k→okB j (byteAt l j)=true)∧a'={ tmps:=#[.slice A n c,undef,.int .i64 0,.int .i64 k,u4,u5,u6,u7,u8,u9,u10,u11,u12,u13,u14,u15,u16,u17,u18,u19,u20,u21,u22,u23,u24,u25,u26,u27,u28],defers:=[] }
def NlM (n:Nat) (a':Act) (_:World):Nat:=n - (intOf (a'.tmps.getD 3 undef)).toNat
theorem nlength_any (A:Option Addr) (n c:Nat) (l:List UInt8) (w:World) (h:Row w A n l) :
  Calls Tryd.prog 72 #[.slice A n c] w fun e w'=>e=.returned (.int .i64 (nlen l))∧w=w':=by
 obtain ⟨hl,hm,hc⟩:=h
 unfold maxLen at hm
 have HC:=Lib.hid hc; clear hc
 have HL:=Lib.hid hl; clear hl
 go_enter Tryd.func72,Tryd.ntmps72
 go_wp2
 refine wp_scope_back 0 (NlJ w A n c l) (NlM n) rfl ?_ ?_
 ·rintro a' w' ⟨rfl,k,u4,u5,u6,u7,u8,u9,u10,u11,u12,u13,u14,u15,u16,u17,u18,u19,u20,u21,u22,u23,u24,u25,u26,u27,u28,hk,hd,rfl⟩
  have HD:=Lib.hid hd; clear hd
  by_cases hlt:k<n
  ·obtain ⟨b,o,rfl,hb,hcell⟩:=HC.out (by omega)
   have hx:=hcell k hlt
   clear hcell HC
   have hbd:=byteAt_bd l k
   have HN:Hid (okB k (byteAt l k)=true→∀ j,j<k+1→okB j (byteAt l j)=true):=fun hi j hj=>by
    rcases Nat.lt_or_ge j k with hj1 | hj1
    ·exact HD.out j hj1
    ·obtain rfl:j=k:=by omega
     exact hi
   have HS:Hid (okB k (byteAt l k)=false→nlen l=k):=fun hn=>nrun_stop l 0 k (by rw [HL.out]; omega) (fun j hj=>by rw [Nat.zero_add]; exact HD.out j hj) (.inr (by rw [Nat.zero_add]; exact hn))
   generalize byteAt l k=x at hx hbd HN HS
   obtain ⟨hx0,hx1⟩:=hbd
   go_wp2_with fail
   refine (plain_any _ _ hx0 hx1).mono ?_
   rintro e w' ⟨rfl,rfl⟩
   cases h1:fstB x
   ·have H1:=Lib.hid h1; clear h1
    by_cases hk0:k=0
    ·have HZ:=Lib.hid (HS.out (okB_no H1.out (.inl hk0)))
     have hk1:¬ 0<k:=by omega
     clear hk0
     go_wp2
     simp only [Exit.jump]
     go_ret
     exact ⟨ret_int (by rw [HZ.out]),rfl⟩
    ·have hk1:0<k:=by omega
     have HK:=Lib.hid hk0; clear hk0
     go_wp2_with fail
     refine (mark_any _ _).mono ?_
     rintro e w' ⟨rfl,rfl⟩
     cases h2:mrkB x
     ·have HZ:=Lib.hid (HS.out (okB_no H1.out (.inr (fun h=>by rw [(mrkB_iff x).2 h] at h2; cases h2))))
      clear h2
      go_wp2
      simp only [Exit.jump]
      go_ret
      exact ⟨ret_int (by rw [HZ.out]),rfl⟩
     ·have HY:=Lib.hid (HN.out ((okB_iff k x).2 (.inr ⟨hk1,(mrkB_iff x).1 h2⟩)))
      clear h2
      go_wp2
      go_step3
      rw [show ((k:Int)+1)=((k+1:Nat):Int) from rfl]
      refine ⟨rfl,⟨rfl,k+1,_,_,_,_,_,_,_,_,_,_,_,_,_,_,_,_,_,_,_,_,_,_,_,_,_,by omega,HY.out,rfl⟩,?_⟩
      simp [NlM,intOf]; omega
   ·have HY:=Lib.hid (HN.out ((okB_iff k x).2 (.inl h1)))
    clear h1
    go_wp2
    go_step3
    rw [show ((k:Int)+1)=((k+1:Nat):Int) from rfl]
    refine ⟨rfl,⟨rfl,k+1,_,_,_,_,_,_,_,_,_,_,_,_,_,_,_,_,_,_,_,_,_,_,_,_,_,by omega,HY.out,rfl⟩,?_⟩
    simp [NlM,intOf]; omega
  ·have HS:Hid (nlen l=k):=nrun_stop l 0 k (by rw [HL.out]; omega) (fun j hj=>by rw [Nat.zero_add]; exact HD.out j hj) (.inl (by rw [HL.out]; omega))
   go_wp2
   simp only [Exit.jump]
   go_ret
   exact ⟨ret_int (by rw [HS.out]),rfl⟩
 ·intro HP
  go_wp2
  go_step3
  rename_i hK
  exact hK _ _ (HP.out _ _ ⟨rfl,0,_,_,_,_,_,_,_,_,_,_,_,_,_,_,_,_,_,_,_,_,_,_,_,_,_,by omega,(fun j hj=>by omega),rfl⟩)

theorem scan_any (A:Option Addr) (n c:Nat) (l:List UInt8) (p:Int) (w:World) (h:Row w A n l) (hc:n≤c) :
  Calls Tryd.prog 64 #[.slice A n c,.int .i64 p] w fun e w'=>e=.returned (scanOut l p)∧w=w':=by
 have hm:=h.2.1
 unfold maxLen at hm
 by_cases ho:p<0∨(n:Int)<p
 ·have HF:Hid (scanOut l p=.tuple #[.int .i64 0,.int .i64 1]):=by unfold Hid scanOut; rw [nscan_arg (by rw [h.1]; exact ho)]
  by_cases h0:p<0
  ·go_enter Tryd.func64,Tryd.ntmps64
   go_wp2
   go_ret2
   exact ⟨by rw [HF.out]; rfl,rfl⟩
  ·have h1:(n:Int)<p:=by omega
   clear ho
   go_enter Tryd.func64,Tryd.ntmps64
   go_wp2
   go_ret2
   exact ⟨by rw [HF.out]; rfl,rfl⟩
 ·obtain ⟨q,rfl⟩:=Int.eq_ofNat_of_zero_le (show 0≤p by omega)
  have hp:q≤n:=by omega
  have hp0:¬ (q:Int)<0:=by omega
  have hp1:¬ n<q:=by omega
  obtain ⟨R,hR⟩:∃ R,(if c=q then A else A.map (fun x=>x.add q))=R:=⟨_,rfl⟩
  have HR:=Lib.hid (Ident.Row.from_ h q c hp hc hR)
  have HA:Hid (¬ ((q:Int)<0∨(l.length:Int)<q)):=by unfold Hid; rw [h.1]; omega
  have HO:Hid ((if nlen (l.drop q)=0∨255<nlen (l.drop q) then Value.tuple #[.int .i64 0,.int .i64 12] else .tuple #[.int .i64 (nlen (l.drop q):Nat),.int .i64 0])=scanOut l q):=by
   unfold Hid scanOut
   by_cases g:nlen (l.drop q)=0∨255<nlen (l.drop q)
   ·rw [nscan_bad HA.out (by rw [Int.toNat_natCast]; exact g),if_pos g]
   ·rw [nscan_good HA.out (by rw [Int.toNat_natCast]; exact g),if_neg g,Int.toNat_natCast]
  have hnl:=nrun_le 0 (l.drop q)
  rw [show nrun 0 (l.drop q)=nlen (l.drop q) from rfl,HR.out.1] at hnl
  clear ho h HA
  go_enter Tryd.func64,Tryd.ntmps64
  go_wp2_with fail
  refine (nlength_any _ _ _ _ _ HR.out).mono ?_
  rintro e w' ⟨rfl,rfl⟩
  clear hR
  generalize nlen (l.drop q)=m at hnl HO ⊢
  have hm2:m≤9223372036854775807:=by omega
  clear hnl
  by_cases hz:m=0
  ·subst hz
   rw [if_pos (.inl rfl)] at HO
   go_wp2
   go_ret2
   exact ⟨by rw [← HO.out]; rfl,rfl⟩
  ·have hzb:((m:Int) == 0)=false:=by simp [hz]
   by_cases hg:255<m
   ·rw [if_pos (.inr hg)] at HO
    have HZ:=Lib.hid hz; clear hz
    go_wp2
    go_ret2
    exact ⟨by rw [← HO.out]; rfl,rfl⟩
   ·rw [if_neg (by omega)] at HO
    have HZ:=Lib.hid hz; clear hz
    go_wp2
    go_ret2
    exact ⟨by rw [← HO.out]; rfl,rfl⟩

theorem good_any (s:ByteArray) (w:World) (hs:s.size≤maxLen) :
  Calls Tryd.prog 57 #[.string s] w fun e w'=>e=.returned (.bool (isName s.data.toList))∧Below w.heap.size w w':=by
 have HW:=Lib.hid (nscan_whole s.data.toList)
 have LS:=Lib.hid (Lib.size_eq s)
 obtain ⟨cc,W1,hcc,hconv,hR,hb⟩:=run_bytes w s hs
 have HB:=Lib.hid hb
 have HR:=Lib.hid hR
 clear hb hR
 unfold maxLen at hs
 go_enter Tryd.func57,Tryd.ntmps57
 go_wp2_with fail
 refine (scan_any _ _ _ _ 0 _ HR.out hcc).mono ?_
 unfold scanOut
 obtain ⟨⟨n,e⟩,hr⟩:∃ t,nscan s.data.toList 0=t:=⟨_,rfl⟩
 rw [hr] at HW ⊢
 clear hr
 rintro e' w' ⟨rfl,rfl⟩
 by_cases he:e=0
 ·have hb:(e == 0)=true:=by simp [he]
  have HE:=Lib.hid he; clear he
  by_cases hn:n=s.size
  ·have hb2:(n == (s.size:Int))=true:=by simp [hn]
   have HF:Hid (isName s.data.toList=true):=HW.out.1 ⟨HE.out,by rw [← LS.out]; exact hn⟩
   have HN:=Lib.hid hn; clear hn
   go_wp2
   go_ret
   exact ⟨by rw [HF.out]; rfl,HB.out⟩
  ·have hb2:(n == (s.size:Int))=false:=by simp [hn]
   have HF:Hid (isName s.data.toList=false):=by
    unfold Hid; rw [← Bool.not_eq_true,← HW.out,← LS.out]; exact fun h=>hn h.2
   have HN:=Lib.hid hn; clear hn
   go_wp2
   go_ret
   exact ⟨by rw [HF.out]; rfl,HB.out⟩
 ·have hb:(e == 0)=false:=by simp [he]
  have HF:Hid (isName s.data.toList=false):=by
   unfold Hid; rw [← Bool.not_eq_true,← HW.out]; exact fun h=>he h.1
  have HE:=Lib.hid he; clear he
  go_wp2
  go_ret
  exact ⟨by rw [HF.out]; rfl,HB.out⟩
end Go.Proofs.YtgakcdcfblgagaaDoor.Name
namespace Go.Proofs.YtgakcdcfblgagaaDoor.Semver
open Num Ident

structure Ver where
 a:Nat
 b:Nat
 c:Nat
 pre:List (List UInt8)
 build:List (List UInt8)
deriving DecidableEq
def noVer:Ver:=⟨0,0,0,[],[]⟩
def point (l:List UInt8) (q:Nat):Nat:=if q=l.length then 2 else if byteAt l q≠46 then 3 else 0
abbrev Core:=Nat × Nat × Nat × Nat × Nat
def core2 (l:List UInt8) (x y p:Nat):Core:=if (parse l p).2.2≠0 then ((parse l p).2.2,p,0,0,0) else (0,p+(parse l p).2.1,x,y,(parse l p).1)
def after2 (l:List UInt8) (x y q:Nat):Core:=if point l q≠0 then (point l q,q,0,0,0) else core2 l x y (q+1)
def core1 (l:List UInt8) (x p:Nat):Core:=if (parse l p).2.2≠0 then ((parse l p).2.2,p,0,0,0) else after2 l x (parse l p).1 (p+(parse l p).2.1)
def after1 (l:List UInt8) (x q:Nat):Core:=if point l q≠0 then (point l q,q,0,0,0) else core1 l x (q+1)
def core (l:List UInt8) (p:Nat):Core:=if (parse l p).2.2≠0 then ((parse l p).2.2,p,0,0,0) else after1 l (parse l p).1 (p+(parse l p).2.1)
def rowAt (l:List UInt8) (p m:Nat):Res :=
 if p=l.length∨byteAt l p≠(m:Int) then (0,p,[]) else ((row l ((p+1:Nat):Int) (m == 45)).1,p+1+(row l ((p+1:Nat):Int) (m == 45)).2.1,(row l ((p+1:Nat):Int) (m == 45)).2.2)
abbrev Out:=Nat × Nat × Ver
def tail2 (l:List UInt8) (x y z:Nat) (pre:List (List UInt8)) (q:Nat):Out :=
 if (rowAt l q 43).1≠0 then ((rowAt l q 43).1,(rowAt l q 43).2.1,noVer) else (0,(rowAt l q 43).2.1,⟨x,y,z,pre,(rowAt l q 43).2.2⟩)
def tail1 (l:List UInt8) (x y z q:Nat):Out :=
 if (rowAt l q 45).1≠0 then ((rowAt l q 45).1,(rowAt l q 45).2.1,noVer) else tail2 l x y z (rowAt l q 45).2.2 (rowAt l q 45).2.1
def inside (l:List UInt8) (p:Nat):Out :=
 if (core l p).1≠0 then ((core l p).1,(core l p).2.1,noVer) else tail1 l (core l p).2.2.1 (core l p).2.2.2.1 (core l p).2.2.2.2 (core l p).2.1
def vparse (l:List UInt8) (p:Int):Out:=if p<0∨(l.length:Int)<p then (1,0,noVer) else inside l p.toNat
def vread (l:List UInt8):Out :=
 if (vparse l 0).1≠0 then ((vparse l 0).1,(vparse l 0).2.1,noVer) else if (vparse l 0).2.1≠l.length then (13,(vparse l 0).2.1,noVer) else (0,0,(vparse l 0).2.2)

theorem point_lt {l:List UInt8} {q:Nat} (hq:q≤l.length) (h:point l q=0):q<l.length:=by
 unfold point at h
 split at h
 ·omega
 ·omega
theorem point_end {l:List UInt8} {q:Nat} (h:q=l.length):point l q=2:=by unfold point; rw [if_pos h]
theorem point_no {l:List UInt8} {q:Nat} (h:q≠l.length) (h2:byteAt l q≠46):point l q=3:=by unfold point; rw [if_neg h,if_pos h2]
theorem point_yes {l:List UInt8} {q:Nat} (h:q≠l.length) (h2:byteAt l q=46):point l q=0:=by unfold point; rw [if_neg h,if_neg (by simp [h2])]

theorem core2_end (l:List UInt8) (x y p:Nat) (hp:p≤l.length):(core2 l x y p).2.1≤l.length:=by
 unfold core2; split
 ·exact hp
 ·exact parse_end l p hp
theorem after2_end (l:List UInt8) (x y q:Nat) (hq:q≤l.length):(after2 l x y q).2.1≤l.length:=by
 unfold after2; split
 ·exact hq
 ·rename_i h; exact core2_end l x y _ (point_lt hq (by simpa using h))
theorem core1_end (l:List UInt8) (x p:Nat) (hp:p≤l.length):(core1 l x p).2.1≤l.length:=by
 unfold core1; split
 ·exact hp
 ·exact after2_end l x _ _ (parse_end l p hp)
theorem after1_end (l:List UInt8) (x q:Nat) (hq:q≤l.length):(after1 l x q).2.1≤l.length:=by
 unfold after1; split
 ·exact hq
 ·rename_i h; exact core1_end l x _ (point_lt hq (by simpa using h))
theorem core_end (l:List UInt8) (p:Nat) (hp:p≤l.length):(core l p).2.1≤l.length:=by
 unfold core; split
 ·exact hp
 ·exact after1_end l _ _ (parse_end l p hp)

theorem rowAt_end (l:List UInt8) (p m:Nat) (hp:p≤l.length):(rowAt l p m).2.1≤l.length:=by
 unfold rowAt; split
 ·exact hp
 ·rename_i h
  have h1:p+1≤l.length:=by
   have:¬ p=l.length:=fun h2=>h (.inl h2)
   omega
  exact row_end l (p+1) _ h1
theorem rowAt_none {l:List UInt8} {p m:Nat} (h:p=l.length∨byteAt l p≠(m:Int)):rowAt l p m=(0,p,[]):=by unfold rowAt; rw [if_pos h]
theorem rowAt_some {l:List UInt8} {p m:Nat} (h1:p≠l.length) (h2:byteAt l p=(m:Int)):rowAt l p m=((row l ((p+1:Nat):Int) (m == 45)).1,p+1+(row l ((p+1:Nat):Int) (m == 45)).2.1,(row l ((p+1:Nat):Int) (m == 45)).2.2):=by
 unfold rowAt; rw [if_neg]; rintro (h | h)
 ·exact h1 h
 ·exact h h2
theorem inside_end (l:List UInt8) (p:Nat) (hp:p≤l.length):(inside l p).2.1≤l.length:=by
 unfold inside; split
 ·exact core_end l p hp
 ·have h1:=core_end l p hp
  unfold tail1; split
  ·exact rowAt_end _ _ _ h1
  ·have h2:=rowAt_end l _ 45 h1
   unfold tail2; split
   ·exact rowAt_end _ _ _ h2
   ·exact rowAt_end _ _ _ h2
theorem vparse_end (l:List UInt8) (p:Int):(vparse l p).2.1≤l.length:=by
 unfold vparse; split
 ·simp
 ·rename_i h; exact inside_end _ _ (by omega)

/-! What stands ahead of a place. -/
theorem byteAt_place (a b:List UInt8) (p:Nat):byteAt (a ++ b) (a.length+p)=byteAt b p:=by
 unfold byteAt List.getD
 rw [List.getElem?_append_right (by omega),show a.length+p - a.length=p by omega]
theorem point_place (a b:List UInt8) (q:Nat):point (a ++ b) (a.length+q)=point b q:=by
 unfold point
 rw [byteAt_place,List.length_append]
 by_cases h:q=b.length
 ·rw [if_pos (by omega),if_pos h]
 ·rw [if_neg (by omega),if_neg h]
def shift (n:Nat) (k:Core):Core:=(k.1,n+k.2.1,k.2.2)
theorem core2_place (a b:List UInt8) (x y p:Nat) (hp:p≤b.length):core2 (a ++ b) x y (a.length+p)=shift a.length (core2 b x y p):=by
 unfold core2
 rw [parse_place_at a b p hp]
 split
 ·rfl
 ·unfold shift; simp only [Nat.add_assoc]
theorem after2_place (a b:List UInt8) (x y q:Nat) (hq:q≤b.length):after2 (a ++ b) x y (a.length+q)=shift a.length (after2 b x y q):=by
 unfold after2
 rw [point_place]
 split
 ·rfl
 ·rename_i h
  exact core2_place a b x y (q+1) (point_lt hq (by simpa using h))
theorem core1_place (a b:List UInt8) (x p:Nat) (hp:p≤b.length):core1 (a ++ b) x (a.length+p)=shift a.length (core1 b x p):=by
 unfold core1
 rw [parse_place_at a b p hp]
 split
 ·rfl
 ·rw [Nat.add_assoc]; exact after2_place a b x _ _ (parse_end b p hp)
theorem after1_place (a b:List UInt8) (x q:Nat) (hq:q≤b.length):after1 (a ++ b) x (a.length+q)=shift a.length (after1 b x q):=by
 unfold after1
 rw [point_place]
 split
 ·rfl
 ·rename_i h
  exact core1_place a b x (q+1) (point_lt hq (by simpa using h))
theorem core_place (a b:List UInt8) (p:Nat) (hp:p≤b.length):core (a ++ b) (a.length+p)=shift a.length (core b p):=by
 unfold core
 rw [parse_place_at a b p hp]
 split
 ·rfl
 ·rw [Nat.add_assoc]; exact after1_place a b _ _ (parse_end b p hp)
theorem rowAt_place (a b:List UInt8) (p m:Nat) (hp:p≤b.length):rowAt (a ++ b) (a.length+p) m=((rowAt b p m).1,a.length+(rowAt b p m).2.1,(rowAt b p m).2.2):=by
 unfold rowAt
 rw [byteAt_place,List.length_append]
 by_cases h:p=b.length∨byteAt b p≠(m:Int)
 ·rw [if_pos (by rcases h with h | h; (· left; omega); (· right; exact h)),if_pos h]
 ·have h1:p+1≤b.length:=by
   have:¬ p=b.length:=fun h2=>h (.inl h2)
   omega
  rw [if_neg (by rintro (h2 | h2); (· exact h (.inl (by omega))); (· exact h (.inr h2))),if_neg h,Nat.add_assoc a.length p 1,row_place a b (p+1) _ h1]
  simp only [Nat.add_assoc]
def move (n:Nat) (r:Out):Out:=(r.1,n+r.2.1,r.2.2)
theorem inside_place (a b:List UInt8) (p:Nat) (hp:p≤b.length):inside (a ++ b) (a.length+p)=move a.length (inside b p):=by
 unfold inside
 rw [core_place a b p hp]
 have h1:=core_end b p hp
 unfold shift
 simp only
 split
 ·rfl
 ·unfold tail1
  rw [rowAt_place a b _ 45 h1]
  have h2:=rowAt_end b _ 45 h1
  simp only
  split
  ·rfl
  ·unfold tail2
   rw [rowAt_place a b _ 43 h2]
   simp only
   split <;> rfl
theorem vparse_place (a b:List UInt8):vparse (a ++ b) a.length=move a.length (vparse b 0):=by
 unfold vparse
 rw [if_neg (by simp only [List.length_append]; omega),if_neg (by omega),Int.toNat_natCast]
 exact inside_place a b 0 (Nat.zero_le _)
end Go.Proofs.YtgakcdcfblgagaaDoor.Semver
namespace Go.Proofs.YtgakcdcfblgagaaDoor.Ident
open Go.RowKit Num

def goodFrom (pre:Bool):List (List UInt8)→Nat→Bool
 | [],_=>true
 | x :: r,i=>fault x i pre == 0 && lead x == x.length && goodFrom pre r (i+1)
end Go.Proofs.YtgakcdcfblgagaaDoor.Ident
namespace Go.Proofs.YtgakcdcfblgagaaDoor.Ident
open Go.RowKit Num

def digB (x:Int):Bool:=decide (48≤x∧x≤57)
def letB (x:Int):Bool:=decide ((65≤x∧x≤90)∨(97≤x∧x≤122))
theorem digB_yes {x:Int} (h:48≤x∧x≤57):digB x=true:=decide_eq_true h
theorem digB_no {x:Int} (h:¬ (48≤x∧x≤57)):digB x=false:=decide_eq_false h
theorem letB_yes {x:Int} (h:(65≤x∧x≤90)∨(97≤x∧x≤122)):letB x=true:=decide_eq_true h
theorem letB_no {x:Int} (h:¬ ((65≤x∧x≤90)∨(97≤x∧x≤122))):letB x=false:=decide_eq_false h
theorem digB_at (b:UInt8):digB (b.toNat:Int)=isDig b:=by
 rw [Bool.eq_iff_iff,isDig_iff]; unfold digB; rw [decide_eq_true_eq]; omega
theorem letB_at (b:UInt8):letB (b.toNat:Int)=isLet b:=by
 rw [Bool.eq_iff_iff,isLet_iff]; unfold letB; rw [decide_eq_true_eq]; omega
def idB (x:Int):Bool:=digB x || letB x || x == 45
theorem idB_at (b:UInt8):idB (b.toNat:Int)=isId b:=by
 unfold idB isId; rw [digB_at,letB_at]; congr 1; rw [Bool.eq_iff_iff]; simp; omega
theorem fault_5 {s:List UInt8} (i:Nat) (pre:Bool) (h:s.length=0):fault s i pre=5:=by unfold fault; rw [if_pos h]
theorem fault_4 {s:List UInt8} {i:Nat} (pre:Bool) (h0:s.length≠0) (h:255<s.length∨16≤i):fault s i pre=4:=by unfold fault; rw [if_neg h0,if_pos h]
theorem fault_3 {s:List UInt8} {i:Nat} {pre:Bool} (h0:s.length≠0) (h1:¬ (255<s.length∨16≤i)) (h:pre=true∧numeric s=true∧isNum s=false):fault s i pre=3:=by
 unfold fault; rw [if_neg h0,if_neg h1,if_pos h]
theorem fault_0 {s:List UInt8} {i:Nat} {pre:Bool} (h0:s.length≠0) (h1:¬ (255<s.length∨16≤i)) (h:¬ (pre=true∧numeric s=true∧isNum s=false)):fault s i pre=0:=by
 unfold fault; rw [if_neg h0,if_neg h1,if_neg h]
theorem empty_iff (s:ByteArray):s.toList.isEmpty=true↔s.size=0:=by
 rw [Lib.toList_data,List.isEmpty_iff_length_eq_zero,← Lib.size_eq]
theorem empty_no (s:ByteArray):s.toList.isEmpty=false↔s.size≠0:=by
 rw [← Bool.not_eq_true,empty_iff]
end Go.Proofs.YtgakcdcfblgagaaDoor.Ident
namespace Go.Proofs.YtgakcdcfblgagaaDoor.Ident
open Go.RowKit Num

def joined (xs:List (List UInt8)):List UInt8:=Lib.join xs [46]
theorem joinTail_snoc (r:List (List UInt8)) (x:List UInt8):Lib.joinTail [46] (r ++ [x])=Lib.joinTail [46] r ++ ([46] ++ x):=by
 simp [Lib.joinTail]
theorem joined_one (x:List UInt8):joined [x]=x:=Lib.join_one x [46]
theorem joined_snoc (xs:List (List UInt8)) (x:List UInt8) (h:xs≠[]):joined (xs ++ [x])=joined xs ++ [46] ++ x:=by
 cases xs with
 | nil=>exact absurd rfl h
 | cons a r =>
  unfold joined
  rw [List.cons_append,Lib.join_cons,Lib.join_cons,joinTail_snoc]; simp
end Go.Proofs.YtgakcdcfblgagaaDoor.Ident
namespace Go.Proofs.YtgakcdcfblgagaaDoor.Semver
open Go.RowKit Num Ident

def At7 (W:World) (b:Nat) (u0 u1 u2 u3 u4 u5 u6:Value):Prop:=b<W.heap.size∧(∀ o,W.frozen? ⟨b,o,none⟩=false)∧W.cell? ⟨b,0,none⟩=some u0∧W.cell? ⟨b,1,none⟩=some u1∧W.cell? ⟨b,2,none⟩=some u2∧W.cell? ⟨b,3,none⟩=some u3∧W.cell? ⟨b,4,none⟩=some u4∧W.cell? ⟨b,5,none⟩=some u5∧W.cell? ⟨b,6,none⟩=some u6
theorem At7.new (w:World) (t:TypeId) (u0 u1 u2 u3 u4 u5 u6:Value):At7 (w.alloc (.cells #[u0,u1,u2,u3,u4,u5,u6] t)) w.heap.size u0 u1 u2 u3 u4 u5 u6:=by
 unfold At7
 refine ⟨by simp,fun o=>by simp [go_sem],?_,?_,?_,?_,?_,?_,?_⟩ <;> simp [go_sem]
theorem At7.kept {W W':World} {b B:Nat} {u0 u1 u2 u3 u4 u5 u6:Value} (h:At7 W b u0 u1 u2 u3 u4 u5 u6) (hb:Below B W W') (hB:b<B):At7 W' b u0 u1 u2 u3 u4 u5 u6:=by
 obtain ⟨h1,h2,c0,c1,c2,c3,c4,c5,c6⟩:=h
 exact ⟨Nat.lt_of_lt_of_le h1 hb.size,fun o=>(hb.frozen (p:=⟨b,o,none⟩) hB).trans (h2 o),(hb.cell (p:=⟨b,0,none⟩) hB).trans c0,(hb.cell (p:=⟨b,1,none⟩) hB).trans c1,(hb.cell (p:=⟨b,2,none⟩) hB).trans c2,(hb.cell (p:=⟨b,3,none⟩) hB).trans c3,(hb.cell (p:=⟨b,4,none⟩) hB).trans c4,(hb.cell (p:=⟨b,5,none⟩) hB).trans c5,(hb.cell (p:=⟨b,6,none⟩) hB).trans c6⟩



end Go.Proofs.YtgakcdcfblgagaaDoor.Semver
namespace Go.Proofs.YtgakcdcfblgagaaDoor.Ident
open Go.RowKit Num

theorem digit_any (x:Int) (w:World) (h0:0≤x) (h1:x≤255) :
  Calls Tryd.prog 94 #[.int .u8 x] w fun e w'=>e=.returned (.bool (digB x))∧w=w':=by
 by_cases ha:48≤x
 ·by_cases hb:x≤57
  ·have HF:=Lib.hid (digB_yes ⟨ha,hb⟩)
   go_enter Tryd.func94,Tryd.ntmps94
   go_wp2
   go_ret
   exact ⟨by rw [HF.out]; rfl,rfl⟩
  ·have HF:=Lib.hid (digB_no (x:=x) (by omega))
   go_enter Tryd.func94,Tryd.ntmps94
   go_wp2
   go_ret
   exact ⟨by rw [HF.out]; rfl,rfl⟩
 ·have HF:=Lib.hid (digB_no (x:=x) (by omega))
  go_enter Tryd.func94,Tryd.ntmps94
  go_wp2
  go_ret
  exact ⟨by rw [HF.out]; rfl,rfl⟩
def NumcJ (w:World) (s:ByteArray) (a':Act) (w':World):Prop :=
 w=w'∧∃ (k:Nat) (u4 u5 u6 u7 u8 u9 u10 u11 u12 u13 u14 u15 u16 u17 u18 u19 u20 u21 u22 u23:Value),k≤s.size∧(∀ j,j<k→isDig (s.data.toList.getD j 0)=true)∧a'={ tmps:=#[.string s,undef,.bool false,.int .i64 k,u4,u5,u6,u7,u8,u9,u10,u11,u12,u13,u14,u15,u16,u17,u18,u19,u20,u21,u22,u23],defers:=[] }
def NumcM (n:Nat) (a':Act) (_:World):Nat:=n - (intOf (a'.tmps.getD 3 undef)).toNat
theorem numeric_any (s:ByteArray) (w:World) (hs:s.size≤maxLen) :
  Calls Tryd.prog 96 #[.string s] w fun e w'=>e=.returned (.bool (numeric s.data.toList))∧w=w':=by
 unfold maxLen at hs
 have HL:=Lib.hid (Lib.size_eq s)
 go_enter Tryd.func96,Tryd.ntmps96
 go_wp2
 refine wp_scope_back 0 (NumcJ w s) (NumcM s.size) rfl ?_ ?_
 ·rintro a' w' ⟨rfl,k,u4,u5,u6,u7,u8,u9,u10,u11,u12,u13,u14,u15,u16,u17,u18,u19,u20,u21,u22,u23,hk,hd,rfl⟩
  have HD:=Lib.hid hd; clear hd
  by_cases hlt:k<s.size
  ·have hbd:=byteAt_bd s.data.toList k
   have HX:=Lib.hid (at_text s k hlt)
   have HI:Hid (isDig (s.data.toList.getD k 0)=digB (byteAt s.data.toList k)):=(digB_at _).symm
   rw [← HX.out] at hbd HI
   obtain ⟨hx0,hx1⟩:=hbd
   go_wp2_with fail
   refine (digit_any _ _ hx0 hx1).mono ?_
   rintro e w' ⟨rfl,rfl⟩
   cases h1:digB (s[k].toNat:Int)
   ·have HS:Hid (run s.data.toList=k):=run_stop _ k (by rw [← HL.out]; omega) HD.out (.inr (by rw [HI.out]; exact h1))
    have HF:Hid (numeric s.data.toList=false):=(numeric_no _).2 fun hh=>by rw [HS.out,← HL.out] at hh; omega
    have H1:=Lib.hid h1; clear h1
    have hne:((k:Int) == (s.size:Int))=false:=by simp; omega
    by_cases h0:0<k
    ·go_wp2
     simp only [Exit.jump]
     go_ret
     exact ⟨by rw [HF.out]; rfl,rfl⟩
    ·go_wp2
     simp only [Exit.jump]
     go_ret
     exact ⟨by rw [HF.out]; rfl,rfl⟩
   ·have HN:Hid (∀ j,j<k+1→isDig (s.data.toList.getD j 0)=true):=fun j hj=>by
     rcases Nat.lt_or_ge j k with hj1 | hj1
     ·exact HD.out j hj1
     ·obtain rfl:j=k:=by omega
      rw [HI.out]; exact h1
    have H1:=Lib.hid h1; clear h1
    go_wp2
    go_step3
    rw [show ((k:Int)+1)=((k+1:Nat):Int) from rfl]
    refine ⟨rfl,⟨rfl,k+1,_,_,_,_,_,_,_,_,_,_,_,_,_,_,_,_,_,_,_,_,by omega,HN.out,rfl⟩,?_⟩
    simp [NumcM,intOf]; omega
  ·obtain rfl:k=s.size:=by omega
   have HS:Hid (run s.data.toList=s.size):=run_stop _ s.size (by rw [← HL.out]; omega) HD.out (.inl HL.out)
   by_cases h0:0<s.size
   ·have HF:Hid (numeric s.data.toList=true):=(numeric_iff _).2 ⟨by rw [← HL.out]; exact h0,by rw [HS.out,HL.out]⟩
    go_wp2
    simp only [Exit.jump]
    go_ret
    exact ⟨by rw [HF.out]; rfl,rfl⟩
   ·have HF:Hid (numeric s.data.toList=false):=(numeric_no _).2 fun hh=>h0 (by rw [HL.out]; exact hh.1)
    go_wp2
    simp only [Exit.jump]
    go_ret
    exact ⟨by rw [HF.out]; rfl,rfl⟩
 ·intro HP
  go_wp2
  go_step3
  rename_i hK
  exact hK _ _ (HP.out _ _ ⟨rfl,0,_,_,_,_,_,_,_,_,_,_,_,_,_,_,_,_,_,_,_,_,by omega,(fun j hj=>by omega),rfl⟩)
end Go.Proofs.YtgakcdcfblgagaaDoor.Ident
