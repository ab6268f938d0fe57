/-
  What the theorem of the last text needs of these: NumIs, IdMath, NumText, NumCmp, NumRefIs, NumZeros. Conditions: as each theorem states.
-/
import Derived.Test.YtnpjklaaokiikaaGreatDoorSvA1
import Derived.Lib.ConvBytes
import Derived.Lib.Bytealg
import Derived.WalkSpells
import Derived.Lib.TrimByte
import Derived.Test.YtnpjklaaokiikaaGreatDoorShelf
import Derived.Lib.ItoaMem
import Derived.Lib.ItoaLen
set_option maxRecDepth 100000
set_option maxHeartbeats 25600000
namespace Go.Proofs.YtnpjklaaokiikaaGreatDoor.Num
open Go.RowKit

def isNum (l:List UInt8):Bool:=decide (0<l.length∧run l=l.length∧pad l=false)
theorem isNum_iff (l:List UInt8):isNum l=true↔0<l.length∧run l=l.length∧pad l=false:=by simp [isNum]
theorem isNum_no (l:List UInt8):isNum l=false↔¬ (0<l.length∧run l=l.length∧pad l=false):=by
 rw [← isNum_iff]; cases isNum l <;> simp

theorem is_anyD (s:ByteArray) (w:World) (hs:s.size≤maxLen) :
  Calls Tryz.prog 213 #[.string s] w fun e w'=>e=.returned (.bool (isNum s.data.toList))∧BelowD w.heap.size w w':=by
 obtain ⟨c,W,hc,hcv,hr,hb⟩:=run_bytesD w s hs
 unfold maxLen at hs
 have HR:=Lib.hid hr; clear hr
 have HB:=Lib.hid hb; clear hb
 have HL:=Lib.hid (Lib.size_eq s)
 by_cases h0:0<s.size
 ·by_cases h1:run s.data.toList=s.size
  ·have hb1:((run s.data.toList:Int) == (s.size:Int))=true:=by rw [h1]; simp
   have HF:Hid (isNum s.data.toList=!pad s.data.toList):=by
    unfold Hid
    rw [Bool.eq_iff_iff,isNum_iff,← HL.out]; simp [h0,h1]
   have H1:=Lib.hid h1; clear h1
   go_enter Tryz.func213,Tryz.ntmps213
   go_wp2_with fail
   refine (digits_any _ _ _ _ _ HR.out).mono ?_
   rintro e w' ⟨rfl,rfl⟩
   go_wp2_with fail
   refine (padded_any _ _ _ _ _ HR.out).mono ?_
   rintro e w' ⟨rfl,rfl⟩
   go_wp2
   go_ret
   exact ⟨by rw [HF.out]; rfl,HB.out⟩
  ·have hb1:((run s.data.toList:Int) == (s.size:Int))=false:=by simp; omega
   have HF:Hid (isNum s.data.toList=false):=(isNum_no _).2 fun hh=>h1 (by rw [HL.out]; exact hh.2.1)
   have H1:=Lib.hid h1; clear h1
   go_enter Tryz.func213,Tryz.ntmps213
   go_wp2_with fail
   refine (digits_any _ _ _ _ _ HR.out).mono ?_
   rintro e w' ⟨rfl,rfl⟩
   go_wp2
   go_ret
   exact ⟨by rw [HF.out]; rfl,HB.out⟩
 ·have HF:Hid (isNum s.data.toList=false):=(isNum_no _).2 fun hh=>h0 (by rw [HL.out]; exact hh.1)
  go_enter Tryz.func213,Tryz.ntmps213
  go_wp2
  go_ret
  exact ⟨by rw [HF.out]; rfl,HB.out⟩

theorem is_any (s:ByteArray) (w:World) (hs:s.size≤maxLen) :
  Calls Tryz.prog 213 #[.string s] w fun e w'=>e=.returned (.bool (isNum s.data.toList))∧Below w.heap.size w w':=dropD (is_anyD s w hs)

def ordN (x y:Nat):Int:=if x<y then -1 else if y<x then 1 else 0
theorem ordN_lt {x y:Nat} (h:x<y):ordN x y=-1:=by unfold ordN; rw [if_pos h]
theorem ordN_gt {x y:Nat} (h:y<x):ordN x y=1:=by unfold ordN; rw [if_neg (by omega),if_pos h]
theorem ordN_eq {x y:Nat} (h:x=y):ordN x y=0:=by unfold ordN; rw [if_neg (by omega),if_neg (by omega)]
theorem ordN_flip (x y:Nat):ordN y x=0 - ordN x y:=by
 rcases Nat.lt_trichotomy x y with h | h | h
 ·rw [ordN_lt h,ordN_gt h]; rfl
 ·rw [ordN_eq h,ordN_eq h.symm]; rfl
 ·rw [ordN_gt h,ordN_lt h]; rfl

theorem compare_val:∀ (x y:List UInt8),AllDig x→AllDig y→x.length=y.length→Lib.compareBytes x y=ordN (val x) (val y):=by
 intro x
 induction x with
 | nil =>
  intro y _ _ h
  have:y=[]:=List.eq_nil_of_length_eq_zero (by simpa using h.symm)
  subst this
  rw [ordN_eq rfl]; simp [Lib.compareBytes]
 | cons a x ih =>
  intro y hx hy h
  cases y with
  | nil=>simp at h
  | cons b y =>
   have hl:x.length=y.length:=by simpa using h
   have h1:=less_val (a :: x) (b :: y) hx hy h
   have h2:=less_val (b :: y) (a :: x) hy hx h.symm
   rw [allDig_cons] at hx hy
   have h3:=ih y hx.2 hy.2 hl
   unfold Op.bytesLess at h1 h2
   rw [Bool.or_eq_true,decide_eq_true_eq] at h1 h2
   unfold Lib.compareBytes
   by_cases hab:a<b
   ·rw [if_pos hab,ordN_lt (h1.1 (.inl hab))]
   ·rw [if_neg hab]
    by_cases hba:b<a
    ·rw [if_pos hba,ordN_gt (h2.1 (.inl hba))]
    ·rw [if_neg hba,h3]
     have e:a=b:=by
      rw [UInt8.lt_iff_toNat_lt] at hab hba
      exact UInt8.toNat_inj.1 (by omega)
     subst e
     rw [val_cons,val_cons,hl]
     rcases Nat.lt_trichotomy (val x) (val y) with hh | hh | hh
     ·rw [ordN_lt hh,ordN_lt (by omega)]
     ·rw [ordN_eq hh,ordN_eq (by omega)]
     ·rw [ordN_gt hh,ordN_gt (by omega)]

theorem shorter {x y:List UInt8} (hx:isNum x=true) (hy:isNum y=true) (h:x.length<y.length):val x<val y:=by
 rw [isNum_iff] at hx hy
 have ax:=all_of_run hx.2.1
 have ay:=all_of_run hy.2.1
 have vx:=val_lt ax
 cases y with
 | nil=>simp at h
 | cons b r =>
  have hp:=(pad_no _).1 hy.2.2
  have hb:=(isDig_iff b).1 (allDig_cons.1 ay).1
  have h48:b.toNat≠48:=fun e=>hp ⟨by omega,by simpa using e⟩
  have h1:=le_val (b:=b) (r:=r) (by omega)
  have h2:10 ^ x.length≤10 ^ r.length:=Nat.pow_le_pow_right (by omega) (by simp at h; omega)
  omega

theorem alike_val {x y:List UInt8} (hx:isNum x=true) (hy:isNum y=true) (h:x.length=y.length):Lib.compareBytes x y=ordN (val x) (val y):=by
 rw [isNum_iff] at hx hy
 exact compare_val x y (all_of_run hx.2.1) (all_of_run hy.2.1) h

def cmpNum (a b:List UInt8):Int:=if isNum a=true∧isNum b=true then ordN (val a) (val b) else 0
theorem cmpNum_yes {a b:List UInt8} (ha:isNum a=true) (hb:isNum b=true):cmpNum a b=ordN (val a) (val b):=by unfold cmpNum; rw [if_pos ⟨ha,hb⟩]
theorem cmpNum_no {a b:List UInt8} (h:isNum a=false∨isNum b=false):cmpNum a b=0:=by
 unfold cmpNum; rw [if_neg]
 rintro ⟨ha,hb⟩
 rcases h with h | h
 ·rw [ha] at h; cases h
 ·rw [hb] at h; cases h

end Go.Proofs.YtnpjklaaokiikaaGreatDoor.Num
namespace Go.Proofs.YtnpjklaaokiikaaGreatDoor.Ident
open Num

def isLet (b:UInt8):Bool:=decide ((65≤b.toNat∧b.toNat≤90)∨(97≤b.toNat∧b.toNat≤122))
def isId (b:UInt8):Bool:=isDig b || isLet b || decide (b.toNat=45)
def lead:List UInt8→Nat
 | []=>0
 | b :: r=>if isId b then lead r+1 else 0

theorem isLet_iff (b:UInt8):isLet b=true↔(65≤b.toNat∧b.toNat≤90)∨(97≤b.toNat∧b.toNat≤122):=by simp [isLet]

theorem lead_le (l:List UInt8):lead l≤l.length:=by
 induction l with
 | nil=>simp [lead]
 | cons b r ih=>simp only [lead,List.length_cons]; split <;> omega

theorem lead_skip (l:List UInt8) (k:Nat) (hk:k≤l.length) (h:∀ j,j<k→isId (l.getD j 0)=true):lead l=k+lead (l.drop k):=by
 induction k generalizing l with
 | zero=>simp
 | succ k ih =>
  cases l with
  | nil=>simp at hk
  | cons b r =>
   have h0:isId b=true:=by simpa using h 0 (by omega)
   have:=ih r (by simpa using hk) (fun j hj=>by simpa using h (j+1) (by omega))
   simp only [lead,h0,if_true,List.drop_succ_cons]; omega

theorem drop_getD (l:List UInt8) (k:Nat) (h:k<l.length):l.drop k=l.getD k 0 :: l.drop (k+1):=by
 rw [List.drop_eq_getElem_cons h]; simp [List.getD,List.getElem?_eq_getElem h]

theorem lead_stop (l:List UInt8) (k:Nat) (hk:k≤l.length) (h:∀ j,j<k→isId (l.getD j 0)=true) (he:k=l.length∨isId (l.getD k 0)=false):lead l=k:=by
 rw [lead_skip l k hk h]
 rcases he with he | he
 ·subst he; simp [lead]
 ·rcases Nat.lt_or_ge k l.length with hlt | hge
  ·rw [drop_getD l k hlt,lead,he]; simp
  ·rw [List.drop_eq_nil_of_le hge]; simp [lead]

theorem lead_full {l:List UInt8}:lead l=l.length↔∀ b ∈ l,isId b=true:=by
 induction l with
 | nil=>simp [lead]
 | cons b r ih =>
  rw [lead]
  by_cases hb:isId b=true
  ·simp [hb,← ih]
  ·have:=lead_le r
   simp [hb]

def numeric (l:List UInt8):Bool:=decide (0<l.length∧run l=l.length)
theorem numeric_iff (l:List UInt8):numeric l=true↔0<l.length∧run l=l.length:=by simp [numeric]
theorem numeric_no (l:List UInt8):numeric l=false↔¬ (0<l.length∧run l=l.length):=by
 rw [← numeric_iff]; cases numeric l <;> simp

def fault (s:List UInt8) (i:Nat) (pre:Bool):Nat :=
 if s.length=0 then 5 else if 255<s.length∨16≤i then 4 else if pre=true∧numeric s=true∧isNum s=false then 3 else 0
theorem fault_pos {s:List UInt8} {i:Nat} {pre:Bool} (h:fault s i pre=0):0<s.length∧s.length≤255∧i<16:=by
 unfold fault at h
 split at h
 ·omega
 ·split at h
  ·omega
  ·rename_i h1 h2; omega

abbrev Res:=Nat × Nat × List (List UInt8)
def shut (pre:Bool) (w:List UInt8) (acc:List (List UInt8)) (n:Nat):Res :=
 if fault w acc.length pre=0 then (0,n,acc ++ [w]) else (fault w acc.length pre,0,[])
def go (pre:Bool):List UInt8→List UInt8→List (List UInt8)→Nat→Res
 | [],w,acc,n=>shut pre w acc n
 | b :: r,w,acc,n =>
  if isId b then go pre r (w ++ [b]) acc (n+1)
  else if b.toNat=46 then (if fault w acc.length pre=0 then go pre r [] (acc ++ [w]) (n+1) else (fault w acc.length pre,0,[]))
  else shut pre w acc n
def row (l:List UInt8) (p:Int) (pre:Bool):Res:=if p<0∨(l.length:Int)<p then (1,0,[]) else go pre (l.drop p.toNat) [] [] 0

theorem point_no:isId 46=false:=by decide
theorem go_id {pre:Bool} {b:UInt8} {r w:List UInt8} {acc:List (List UInt8)} {n:Nat} (h:isId b=true):go pre (b :: r) w acc n=go pre r (w ++ [b]) acc (n+1):=by
 rw [go,if_pos h]
theorem go_point {pre:Bool} {b:UInt8} {r w:List UInt8} {acc:List (List UInt8)} {n:Nat} (hb:b.toNat=46) (hf:fault w acc.length pre=0):go pre (b :: r) w acc n=go pre r [] (acc ++ [w]) (n+1):=by
 have e:b=46:=UInt8.toNat_inj.1 hb
 subst e
 rw [go,point_no]
 simp [hf]
theorem go_else {pre:Bool} {b:UInt8} {r w:List UInt8} {acc:List (List UInt8)} {n:Nat} (h:isId b=false) (hb:b.toNat≠46):go pre (b :: r) w acc n=shut pre w acc n:=by
 rw [go,h]; simp [hb]

def numeral (l:List UInt8):List UInt8:=if (Lib.trimLeftB l 48).length=0 then [48] else Lib.trimLeftB l 48

theorem trim_val (l:List UInt8):val (Lib.trimLeftB l 48)=val l:=by
 unfold Lib.trimLeftB
 induction l with
 | nil=>rfl
 | cons b r ih =>
  rw [List.dropWhile_cons]
  split
  ·rename_i hb
   have e:b=48:=by simpa using hb
   rw [ih,val_cons,e]; simp
  ·rfl
theorem trim_dig {l:List UInt8} (h:AllDig l):AllDig (Lib.trimLeftB l 48):=by
 intro b hb
 exact h b ((List.dropWhile_sublist _).subset hb)
theorem trim_pad (l:List UInt8):pad (Lib.trimLeftB l 48)=false:=by
 rw [pad_no]
 rintro ⟨h1,h2⟩
 unfold Lib.trimLeftB at h1 h2
 induction l with
 | nil=>simp at h1
 | cons b r ih =>
  rw [List.dropWhile_cons] at h1 h2
  split at h1
  ·rename_i hb
   rw [if_pos hb] at h2
   exact ih h1 h2
  ·rename_i hb
   rw [if_neg hb] at h2
   have:b.toNat=(48:UInt8).toNat:=by simpa using h2
   exact hb (by simp [UInt8.toNat_inj.1 this])
theorem numeral_num {l:List UInt8} (h:AllDig l):isNum (numeral l)=true:=by
 unfold numeral
 split
 ·decide
 ·rename_i h0
  rw [isNum_iff]
  exact ⟨by omega,run_all (trim_dig h),trim_pad l⟩
theorem numeral_val (l:List UInt8):val (numeral l)=val l:=by
 unfold numeral
 split
 ·rename_i h0
  have e:=List.eq_nil_of_length_eq_zero h0
  have:=trim_val l
  rw [e] at this
  rw [← this]; decide
 ·exact trim_val l

def cmpId (a b:List UInt8):Int :=
 if numeric a=true then
  if numeric b=true then (if ordN (val a) (val b)=0 then ordN a.length b.length else ordN (val a) (val b))
  else -1
 else if numeric b=true then 1 else Lib.compareBytes a b

theorem cmp_bytes_trans:∀ (a b c:List UInt8),Lib.compareBytes a b≤0→Lib.compareBytes b c≤0→Lib.compareBytes a c≤0:=by
 intro a
 induction a with
 | nil=>intro b c _ _; cases c <;> simp [Lib.compareBytes]
 | cons x a ih =>
  intro b c h1 h2
  cases b with
  | nil=>simp [Lib.compareBytes] at h1
  | cons y b =>
   cases c with
   | nil=>simp [Lib.compareBytes] at h2
   | cons z c =>
    unfold Lib.compareBytes at h1 h2 ⊢
    simp only [UInt8.lt_iff_toNat_lt] at h1 h2 ⊢
    by_cases hxy:x.toNat<y.toNat
    ·by_cases hyz:y.toNat<z.toNat
     ·rw [if_pos (by omega)]; omega
     ·by_cases hzy:z.toNat<y.toNat
      ·rw [if_neg hyz,if_pos hzy] at h2; omega
      ·rw [if_pos (by omega)]; omega
    ·by_cases hyx:y.toNat<x.toNat
     ·rw [if_neg hxy,if_pos hyx] at h1; omega
     ·rw [if_neg hxy,if_neg hyx] at h1
      by_cases hyz:y.toNat<z.toNat
      ·rw [if_pos (by omega)]; omega
      ·by_cases hzy:z.toNat<y.toNat
       ·rw [if_neg hyz,if_pos hzy] at h2; omega
       ·rw [if_neg hyz,if_neg hzy] at h2
        rw [if_neg (by omega),if_neg (by omega)]
        exact ih b c h1 h2
theorem cmp_bytes_self (a:List UInt8):Lib.compareBytes a a=0:=by
 induction a with
 | nil=>rfl
 | cons x a ih=>unfold Lib.compareBytes; simp [UInt8.lt_irrefl,ih]

theorem ordN_cases (x y:Nat):(x<y∧ordN x y=-1)∨(x=y∧ordN x y=0)∨(y<x∧ordN x y=1):=by
 rcases Nat.lt_trichotomy x y with h | h | h
 ·exact .inl ⟨h,ordN_lt h⟩
 ·exact .inr (.inl ⟨h,ordN_eq h⟩)
 ·exact .inr (.inr ⟨h,ordN_gt h⟩)

theorem cmpId_self (a:List UInt8):cmpId a a=0:=by
 unfold cmpId
 split
 ·rw [ordN_eq rfl,if_pos rfl,ordN_eq rfl]
 ·exact cmp_bytes_self a

theorem cmpId_trans (a b c:List UInt8) (h1:cmpId a b≤0) (h2:cmpId b c≤0):cmpId a c≤0:=by
 unfold cmpId at h1 h2 ⊢
 by_cases ha:numeric a=true
 ·by_cases hc:numeric c=true
  ·by_cases hb:numeric b=true
   ·rw [if_pos ha,if_pos hb] at h1
    rw [if_pos hb,if_pos hc] at h2
    rw [if_pos ha,if_pos hc]
    rcases ordN_cases (val a) (val b) with ⟨e1,e2⟩ | ⟨e1,e2⟩ | ⟨e1,e2⟩ <;>
    rcases ordN_cases (val b) (val c) with ⟨g1,g2⟩ | ⟨g1,g2⟩ | ⟨g1,g2⟩ <;>
    rcases ordN_cases (val a) (val c) with ⟨k1,k2⟩ | ⟨k1,k2⟩ | ⟨k1,k2⟩ <;>
    rcases ordN_cases a.length b.length with ⟨e3,e4⟩ | ⟨e3,e4⟩ | ⟨e3,e4⟩ <;>
    rcases ordN_cases b.length c.length with ⟨g3,g4⟩ | ⟨g3,g4⟩ | ⟨g3,g4⟩ <;>
    rcases ordN_cases a.length c.length with ⟨k3,k4⟩ | ⟨k3,k4⟩ | ⟨k3,k4⟩ <;>
    simp [e2,e4] at h1 <;> simp [g2,g4] at h2 <;> simp [k2,k4] <;> omega
   ·rw [if_neg hb,if_pos hc] at h2; omega
  ·rw [if_pos ha,if_neg hc]; omega
 ·by_cases hb:numeric b=true
  ·rw [if_neg ha,if_pos hb] at h1; omega
  ·rw [if_neg ha,if_neg hb] at h1
   by_cases hc:numeric c=true
   ·rw [if_neg hb,if_pos hc] at h2; omega
   ·rw [if_neg hb,if_neg hc] at h2
    rw [if_neg ha,if_neg hc]
    exact cmp_bytes_trans a b c h1 h2

def cmpRows:List (List UInt8)→List (List UInt8)→Int
 | a :: r,b :: s=>if cmpId a b=0 then cmpRows r s else cmpId a b
 | r,s=>ordN r.length s.length
theorem cmpRows_nil (s:List (List UInt8)):cmpRows [] s=ordN 0 s.length:=by unfold cmpRows; rfl
theorem cmpRows_nil' (r:List (List UInt8)):cmpRows r []=ordN r.length 0:=by cases r <;> simp [cmpRows]
theorem cmpRows_same {a b:List UInt8} {r s:List (List UInt8)} (h:cmpId a b=0):cmpRows (a :: r) (b :: s)=cmpRows r s:=by rw [cmpRows,if_pos h]
theorem cmpRows_diff {a b:List UInt8} {r s:List (List UInt8)} (h:cmpId a b≠0):cmpRows (a :: r) (b :: s)=cmpId a b:=by rw [cmpRows,if_neg h]

/-! How long a row is. -/

def shortB (xs:List (List UInt8)):Bool:=decide (xs.length≤40∧∀ x ∈ xs,x.length≤300)
theorem shortB_iff (xs:List (List UInt8)):shortB xs=true↔xs.length≤40∧∀ x ∈ xs,x.length≤300:=by simp [shortB]
end Go.Proofs.YtnpjklaaokiikaaGreatDoor.Ident
namespace Go.Proofs.YtnpjklaaokiikaaGreatDoor.Num
open Go.RowKit Go.Sort

def Tab (w:World):Prop:=Lib.TabIs Tryz.prog w "internal/strconv.uint64pow10" .u64 Lib.pow10Tab
theorem Tab.kept {w w':World} (h:Tab w) (hb:Below w.heap.size w w'):Tab w':=by
 unfold Tab Lib.TabIs World.var? at *
 cases hg:Tryz.prog.globalNamed "internal/strconv.uint64pow10" with
 | none=>simp [hg] at h
 | some g =>
  simp only [hg,Option.bind_some] at h ⊢
  have hlt:g<w.heap.size:=by
   rcases Nat.lt_or_ge g w.heap.size with h' | h'
   ·exact h'
   ·rw [Array.getElem?_eq_none h'] at h; simp at h
  rw [hb.block g hlt]
  exact h

theorem below_grow (w:World) (k:Nat) (os:Array Obj):Below w.heap.size w (grow (w.drewN k) os):=by
 refine ⟨rfl,rfl,rfl,?_,fun j hj=>?_⟩
 ·show w.heap.size≤(w.heap ++ os).size
  simp
 ·show (w.heap ++ os)[j]?=_
  rw [Array.getElem?_append_left hj]

theorem holds_zero0 (w:World) (T:TypeId) (nd:Nat) (hs:nd≤24):Holds (fun (b:UInt8)=>Value.int .u8 b.toNat) (w.alloc (.cells Lib.zeros24 T)) w.heap.size 0 (Array.replicate nd (0:UInt8)):=fun j hj=>by
 have hj':j<nd:=by simpa using hj
 refine ⟨?_,World.frozen?_alloc_new _ _ _ _⟩
 rw [World.cell?_alloc_new,Lib.zeros24_at _ (by omega),getElem!_pos _ j hj]
 simp

theorem fmt_any (u:Nat) (h:u<18446744073709551616) (w:World) (htab:Tab w) :
  Calls Tryz.prog 209 #[.int .u64 u,.int .i64 10] w fun e w'=>e=.returned (.string ⟨(Lib.decDigits u).toArray⟩)∧Below w.heap.size w w':=by
 have HU:=Lib.hid h; clear h
 by_cases hs:u<100
 ·go_enter Tryz.func209,Tryz.ntmps209
  go_wp2_with fail
  refine (Tryz.internal_strconv_small u hs _).mono ?_
  rintro e w' ⟨rfl,rfl⟩
  go_wp2
  go_ret
  exact ⟨rfl,Below.refl _ _⟩
 ·have hu1:1≤u:=by omega
  have hnd:=Lib.nDigits_le20 u HU.out
  have hal:Tryz.prog.arrayLen 284=24:=by simp [Program.arrayLen,Tryz.underlying284]
  have hsl:∀ W,(Instr.sliceAt 284 (.pointer (some ⟨w.heap.size,0,none⟩)) none (some (.int .i64 (Lib.nDigits u))) none).run Tryz.prog W=.ok (.slice (some ⟨w.heap.size,0,none⟩) (Lib.nDigits u) 24) W:=fun W=>by
   rw [run_sliceAt_array_h W 284 ⟨w.heap.size,0,none⟩ (by simp [Program.arrayLen,Program.elem,Tryz.underlying284]) .i64 (Lib.nDigits u:Int) (by omega) (by rw [hal]; omega)]
   go_simp
  have hH0:=holds_zero0 w 284 (Lib.nDigits u) (by omega)
  have hfmt:=Tryz.internal_strconv_formatBase10 w.heap.size 0 24 u (Array.replicate (Lib.nDigits u) 0) (w.alloc (.cells Lib.zeros24 284)) hH0 (by rw [Array.size_replicate]; exact Lib.lt_pow_nDigits u) HU.out (by rw [Array.size_replicate]; omega)
  rw [Array.size_replicate] at hfmt
  have HH0:=Lib.hid hH0
  have HFMT:=Lib.hid hfmt
  have HT:=Lib.hid htab
  clear hH0 hal hfmt htab
  go_enter Tryz.func209,Tryz.ntmps209
  go_wp2_with fail
  refine (Tryz.internal_strconv_numDigits u hu1 HU.out _ (Lib.tabIs_alloc HT.out _)).mono ?_
  rintro e w' ⟨rfl,rfl⟩
  go_wp2_with fail
  refine HFMT.out.mono ?_
  rintro e w' ⟨rfl,k,v',dk,rfl,hF⟩
  have hcv:(convert 48 9 (.slice (some ⟨w.heap.size,0,none⟩) (Lib.nDigits u) 24)).run Tryz.prog ((putRow (fun (b:UInt8)=>Value.int .u8 b.toNat) (w.alloc (.cells Lib.zeros24 284)) w.heap.size 0 dk).drewN k)=.ok (.string ⟨(Lib.decDigits u).toArray⟩) ((putRow (fun (b:UInt8)=>Value.int .u8 b.toNat) (w.alloc (.cells Lib.zeros24 284)) w.heap.size 0 dk).drewN k):=by
   have h:=run_convert_bytes_back (P:=Tryz.prog) ((putRow (fun (b:UInt8)=>Value.int .u8 b.toNat) (w.alloc (.cells Lib.zeros24 284)) w.heap.size 0 dk).drewN k) 48 9 5 ⟨w.heap.size,0,none⟩ 24 (Lib.decDigits u) Tryz.underlying48 Tryz.underlying5 Tryz.underlying9 (fun j hj=>by
    rw [Lib.row_is_numeral hF j hj,Lib.add_plain,World.cell?_drewN]
    exact cell?_putRow (fun (b:UInt8)=>Value.int .u8 b.toNat) _ w.heap.size 0 _ dk HH0.out (by rw [hF.size,Array.size_replicate]) j (by rw [hF.size]; rw [Lib.decDigits_length] at hj; exact hj))
   rw [Lib.decDigits_length] at h
   exact h
  have HB:Hid (Below w.heap.size w ((putRow (fun (b:UInt8)=>Value.int .u8 b.toNat) (w.alloc (.cells Lib.zeros24 284)) w.heap.size 0 dk).drewN k)):=by
   obtain ⟨os',_,e⟩:=putRow_grow_new (fun (b:UInt8)=>Value.int .u8 b.toNat) w #[.cells Lib.zeros24 284] w.heap.size 0 dk (Nat.le_refl _)
   unfold Hid
   rw [alloc_eq_grow,e]
   exact below_grow w k os'
  generalize (putRow (fun (b:UInt8)=>Value.int .u8 b.toNat) (w.alloc (.cells Lib.zeros24 284)) w.heap.size 0 dk).drewN k=W at hcv HB ⊢
  go_wp2
  go_ret
  exact ⟨rfl,HB.out⟩

theorem format_any (u:Nat) (h:u<18446744073709551616) (w:World) (htab:Tab w) :
  Calls Tryz.prog 168 #[.int .u64 u,.int .i64 10] w fun e w'=>e=.returned (.string ⟨(Lib.decDigits u).toArray⟩)∧Below w.heap.size w w':=by
 have HU:=Lib.hid h; clear h
 have HT:=Lib.hid htab; clear htab
 go_enter Tryz.func168,Tryz.ntmps168
 go_wp2_with fail
 refine (fmt_any u HU.out _ HT.out).mono ?_
 rintro e w1 ⟨rfl,hb1⟩
 go_wp2
 go_ret
 exact ⟨rfl,hb1⟩

theorem text_any (u:Nat) (h:u<18446744073709551616) (w:World) (htab:Tab w) :
  Calls Tryz.prog 116 #[.int .u64 u] w fun e w'=>e=.returned (.string ⟨(Lib.decDigits u).toArray⟩)∧Below w.heap.size w w':=by
 have HU:=Lib.hid h; clear h
 have HT:=Lib.hid htab; clear htab
 go_enter Tryz.func116,Tryz.ntmps116
 go_wp2_with fail
 refine (format_any u HU.out _ HT.out).mono ?_
 rintro e w1 ⟨rfl,hb1⟩
 go_wp2
 go_ret
 exact ⟨rfl,hb1⟩

theorem dec_all (u:Nat):AllDig (Lib.decDigits u):=by
 induction u using Nat.strongRecOn with
 | _ u ih =>
  rw [Lib.decDigits]
  split
  ·rename_i h
   intro b hb
   simp only [List.mem_singleton] at hb
   subst hb
   rw [isDig_iff,UInt8.toNat_ofNat']; omega
  ·rename_i h
   intro b hb
   rw [List.mem_append] at hb
   rcases hb with hb | hb
   ·exact ih (u / 10) (by omega) b hb
   ·simp only [List.mem_singleton] at hb
    subst hb
    rw [isDig_iff,UInt8.toNat_ofNat']; omega
theorem dec_val (u:Nat):val (Lib.decDigits u)=u:=by
 induction u using Nat.strongRecOn with
 | _ u ih =>
  rw [Lib.decDigits]
  split
  ·rename_i h
   rw [val_cons]
   simp [UInt8.toNat_ofNat',val,valFrom]; omega
  ·rename_i h
   rw [val_snoc,ih (u / 10) (by omega),UInt8.toNat_ofNat']; omega
theorem dec_pos (u:Nat):0<(Lib.decDigits u).length:=by rw [Lib.decDigits_length]; exact Lib.nDigits_pos u
theorem nd_le:∀ (k u:Nat),u<10 ^ k→1≤k→Lib.nDigits u≤k
 | 0,_,_,h=>by omega
 | k+1,u,h1,_=>by
  by_cases h:u<10
  ·rw [Lib.nDigits_small h]; omega
  ·rw [Lib.nDigits_big h]
   rw [Nat.pow_succ] at h1
   rcases Nat.eq_zero_or_pos k with h0 | h0
   ·subst h0; simp at h1; omega
   ·have:=nd_le k (u / 10) (by omega) h0
    omega
theorem dec_pad (u:Nat):pad (Lib.decDigits u)=false:=by
 rw [pad_no]
 rintro ⟨h1,h2⟩
 rw [Lib.decDigits_length] at h1
 have hv:=dec_val u
 have hl:=Lib.decDigits_length u
 cases hd:Lib.decDigits u with
 | nil=>rw [hd] at hl; simp at hl; omega
 | cons b r =>
  rw [hd] at hv h2 hl
  have ha:=dec_all u
  rw [hd,allDig_cons] at ha
  have hr:=val_lt ha.2
  have hb:b.toNat=48:=by simpa using h2
  rw [val_cons,hb] at hv
  simp at hv hl
  rw [hv] at hr
  have:=nd_le r.length u hr (by omega)
  omega
theorem dec_num (u:Nat):isNum (Lib.decDigits u)=true:=by
 rw [isNum_iff]
 exact ⟨dec_pos u,run_all (dec_all u),dec_pad u⟩
end Go.Proofs.YtnpjklaaokiikaaGreatDoor.Num
namespace Go.Proofs.YtnpjklaaokiikaaGreatDoor.Num
open Go.RowKit

theorem cmp_any (x y:Nat) (w:World) :
  Calls Tryz.prog 179 #[.int .i64 x,.int .i64 y] w fun e w'=>e=.returned (.int .i64 (ordN x y))∧w=w':=by
 rcases Nat.lt_trichotomy x y with h | h | h
 ·have HF:=Lib.hid (ordN_lt h)
  go_enter Tryz.func179,Tryz.ntmps179
  go_wp2
  go_ret
  exact ⟨by rw [HF.out]; rfl,rfl⟩
 ·have HF:=Lib.hid (ordN_eq h)
  subst h
  go_enter Tryz.func179,Tryz.ntmps179
  go_wp2
  go_ret
  exact ⟨by rw [HF.out]; rfl,rfl⟩
 ·have HF:=Lib.hid (ordN_gt h)
  go_enter Tryz.func179,Tryz.ntmps179
  go_wp2
  go_ret
  exact ⟨by rw [HF.out]; rfl,rfl⟩

theorem strcmp_any (s t:ByteArray) (w:World) :
  Calls Tryz.prog 66 #[.string s,.string t] w fun e w'=>e=.returned (.int .i64 (Lib.compareBytes s.data.toList t.data.toList))∧w=w':=by
 have hx:∀ W,(callFunc 174 #[.string s,.string t]).run Tryz.prog W=.ok (.value (.int .i64 (Lib.compareBytes s.data.toList t.data.toList))) W:=fun W=>by
  rw [run_callFunc_extern Tryz.func174 (by kernel_rfl) (by kernel_rfl) (by kernel_rfl) (e:=Extern.BytealgCompare.compare) (by kernel_rfl),Lib.run_compareString]
  rfl
 generalize Lib.compareBytes s.data.toList t.data.toList=r at hx ⊢
 go_enter Tryz.func66,Tryz.ntmps66
 go_wp2
 go_ret
 exact ⟨rfl,rfl⟩

theorem compare_anyD (s t:ByteArray) (w:World) (hs:s.size≤maxLen) (ht:t.size≤maxLen) :
  Calls Tryz.prog 254 #[.string s,.string t] w fun e w'=>e=.returned (.int .i64 (cmpNum s.data.toList t.data.toList))∧BelowD w.heap.size w w':=by
 have hs':=hs
 have ht':=ht
 unfold maxLen at hs' ht'
 have HS:=Lib.hid hs
 have HT:=Lib.hid ht
 clear hs ht
 have LS:=Lib.hid (Lib.size_eq s)
 have LT:=Lib.hid (Lib.size_eq t)
 cases ha:isNum s.data.toList
 ·have HF:=Lib.hid (cmpNum_no (b:=t.data.toList) (.inl ha))
  have HA:=Lib.hid ha; clear ha
  go_enter Tryz.func254,Tryz.ntmps254
  go_wp2_with fail
  refine (is_anyD s _ HS.out).mono ?_
  rintro e w1 ⟨rfl,hb1⟩
  rw [HA.out]
  go_wp2
  go_ret
  exact ⟨by rw [HF.out]; rfl,hb1⟩
 ·cases hb:isNum t.data.toList
  ·have HF:=Lib.hid (cmpNum_no (a:=s.data.toList) (.inr hb))
   have HA:=Lib.hid ha; clear ha
   have HB:=Lib.hid hb; clear hb
   go_enter Tryz.func254,Tryz.ntmps254
   go_wp2_with fail
   refine (is_anyD s _ HS.out).mono ?_
   rintro e w1 ⟨rfl,hb1⟩
   rw [HA.out]
   go_wp2_with fail
   refine (is_anyD t _ HT.out).mono ?_
   rintro e w2 ⟨rfl,hb2⟩
   rw [HB.out]
   have hz1:=hb1.size
   go_wp2
   go_ret
   exact ⟨by rw [HF.out]; rfl,hb1.trans (hb2.mono hz1)⟩
  ·have HF:=Lib.hid (cmpNum_yes ha hb)
   have HG:=Lib.hid (fun h=>ordN_lt (shorter ha hb h))
   have HG2:=Lib.hid (fun h=>ordN_gt (shorter hb ha h))
   have HG3:=Lib.hid (fun h=>alike_val ha hb h)
   have HA:=Lib.hid ha; clear ha
   have HB:=Lib.hid hb; clear hb
   go_enter Tryz.func254,Tryz.ntmps254
   go_wp2_with fail
   refine (is_anyD s _ HS.out).mono ?_
   rintro e w1 ⟨rfl,hb1⟩
   rw [HA.out]
   go_wp2_with fail
   refine (is_anyD t _ HT.out).mono ?_
   rintro e w2 ⟨rfl,hb2⟩
   rw [HB.out]
   have hz1:=hb1.size
   have HBB:=Lib.hid (hb1.trans (hb2.mono hz1))
   go_wp2_with fail
   refine (cmp_any _ _ _).mono ?_
   rintro e w' ⟨rfl,rfl⟩
   rcases Nat.lt_trichotomy s.size t.size with h | h | h
   ·rw [ordN_lt h]
    go_wp2
    go_ret
    exact ⟨by rw [HF.out,HG.out (by rw [← LS.out,← LT.out]; exact h)]; rfl,HBB.out⟩
   ·rw [ordN_eq h]
    have H:=Lib.hid h; clear h
    go_wp2_with fail
    refine (strcmp_any _ _ _).mono ?_
    rintro e w' ⟨rfl,rfl⟩
    go_wp2
    go_ret
    exact ⟨by rw [HF.out,← HG3.out (by rw [← LS.out,← LT.out]; exact H.out)]; rfl,HBB.out⟩
   ·rw [ordN_gt h]
    go_wp2
    go_ret
    exact ⟨by rw [HF.out,HG2.out (by rw [← LS.out,← LT.out]; exact h)]; rfl,HBB.out⟩
end Go.Proofs.YtnpjklaaokiikaaGreatDoor.Num
namespace Go.Proofs.YtnpjklaaokiikaaGreatDoor.Num
open Go.RowKit

theorem ref_is_any (s:ByteArray) (w:World) (hs:s.size≤1000000) :
  Calls Tryz.prog 229 #[.string s] w fun e w'=>e=.returned (.bool (isNum s.data.toList))∧w=w':=by
 have LS:=Lib.hid (Lib.size_eq s)
 go_enter Tryz.func229,Tryz.ntmps229
 go_wp2
 go_loop [3] (fun t=>∃ k:Nat,k≤s.size∧t=.int .i64 k∧Hid (∀ j,j<k→isDig (s.data.toList.getD j 0)=true)) (fun t=>s.size - (intOf t).toNat)
 case atStart=>exact ⟨0,by omega,rfl,fun j h=>by omega⟩
 case round =>
  obtain ⟨k,hk,rfl,HD⟩:=hrel
  by_cases hlt:k<s.size
  ·have HX:=Lib.hid (at_text s k hlt)
   have HI:=Lib.hid (isDig_at s.data.toList k)
   have HN:Hid (¬ (48≤(s[k].toNat:Int)∧(s[k].toNat:Int)≤57)→isNum s.data.toList=false):=fun hn=>(isNum_no _).2 fun hh=>hn (by
    have:=run_dig s.data.toList k (by rw [hh.2.1,← LS.out]; exact hlt)
    rw [HI.out,← HX.out] at this; exact this)
   by_cases h1:48≤(s[k].toNat:Int)
   ·by_cases h2:(s[k].toNat:Int)≤57
    ·go_wp2
     go_round
     case rel =>
      refine ⟨k+1,by omega,by go_num,fun j hj=>?_⟩
      rcases Nat.lt_or_ge j k with hj1 | hj1
      ·exact HD.out j hj1
      ·obtain rfl:j=k:=by omega
       exact HI.out.2 (by rw [← HX.out]; exact ⟨h1,h2⟩)
     case measure=>simp [intOf]; omega
    ·go_wp2
     go_ret
     exact ⟨by rw [HN.out (by omega)]; rfl,rfl⟩
   ·go_wp2
    go_ret
    exact ⟨by rw [HN.out (by omega)]; rfl,rfl⟩
  ·obtain rfl:k=s.size:=by omega
   have HR:Hid (run s.data.toList=s.data.toList.length):=run_stop _ _ (Nat.le_refl _) (by rw [← LS.out]; exact HD.out) (.inl rfl)
   by_cases hz:s.toList=[48]
   ·have hb:(s.toList == [48])=true:=by rw [hz]; rfl
    have HF:Hid (isNum s.data.toList=true):=by
     rw [Lib.toList_data] at hz
     unfold Hid; rw [hz]; decide
    have HZ:=Lib.hid hz; clear hz
    go_wp2
    go_ret
    exact ⟨by rw [HF.out]; rfl,rfl⟩
   ·have hb:(s.toList == [48])=false:=by simpa using hz
    by_cases h0:s.size=0
    ·have hem:s.toList.isEmpty=true:=by rw [Lib.toList_data,List.isEmpty_iff_length_eq_zero,← LS.out]; exact h0
     have hem2:(!s.toList.isEmpty)=false:=by rw [hem]; rfl
     have HF:Hid (isNum s.data.toList=false):=(isNum_no _).2 fun hh=>by have:=hh.1; rw [← LS.out] at this; omega
     have H0:=Lib.hid h0; clear h0
     go_wp2
     go_ret
     exact ⟨by rw [HF.out]; rfl,rfl⟩
    ·have hem:s.toList.isEmpty=false:=by rw [Lib.toList_data,← Bool.not_eq_true,List.isEmpty_iff_length_eq_zero,← LS.out]; exact h0
     have hem2:(!s.toList.isEmpty)=true:=by rw [hem]; rfl
     have HP:Hid (∀ h:0<s.size,isNum s.data.toList=((s[0].toNat:Int) != 48)):=by
      intro h
      have e:=at_text s 0 h
      rw [Bool.eq_iff_iff,isNum_iff,bne_iff_ne,pad_no,HR.out]
      unfold byteAt at e
      rw [e]
      constructor
      ·rintro ⟨_,_,hp⟩ h48
       have h48':(s.data.toList.getD 0 0).toNat=48:=by omega
       by_cases h1:1<s.data.toList.length
       ·exact hp ⟨h1,h48'⟩
       ·apply hz
        rw [Lib.toList_data]
        have hl:s.data.toList.length=1:=by have:=LS.out; omega
        obtain ⟨b,hb1⟩:=List.length_eq_one_iff.1 hl
        rw [hb1] at h48' ⊢
        have:b=48:=UInt8.toNat_inj.1 (by simpa using h48')
        rw [this]
      ·intro h48
       exact ⟨by have:=LS.out; omega,rfl,fun hh=>h48 (by have:=hh.2; omega)⟩
     have HZ:=Lib.hid hz; clear hz
     go_wp2
     go_ret
     exact ⟨by rw [HP.out (by omega)]; rfl,rfl⟩
end Go.Proofs.YtnpjklaaokiikaaGreatDoor.Num
namespace Go.Proofs.YtnpjklaaokiikaaGreatDoor.Num
open Go.RowKit

def strSize:Value→Nat
 | .string s=>s.size
 | _=>0
def Zeros (l:List UInt8) (t:ByteArray):Prop:=∃ z,t.data.toList=List.replicate z 48 ++ l
theorem zero_size (s:ByteArray):((⟨#[48]⟩:ByteArray) ++ s).size=s.size+1:=by
 rw [ByteArray.size_append]; show 1+s.size=_; omega
theorem zero_ahead {l:List UInt8} {s:ByteArray} (h:Zeros l s):Zeros l ((⟨#[48]⟩:ByteArray) ++ s):=by
 obtain ⟨z,hz⟩:=h
 refine ⟨z+1,?_⟩
 rw [ByteArray.data_append,Array.toList_append,hz,List.replicate_succ]
 rfl
theorem zeros_val (z:Nat) (l:List UInt8):val (List.replicate z 48 ++ l)=val l:=by
 induction z with
 | zero=>rfl
 | succ z ih =>
  rw [List.replicate_succ,List.cons_append,val_cons,ih]
  simp
theorem zeros_dig (z:Nat) {l:List UInt8} (h:AllDig l):AllDig (List.replicate z 48 ++ l):=by
 intro b hb
 rw [List.mem_append] at hb
 rcases hb with hb | hb
 ·rw [List.eq_of_mem_replicate hb]; decide
 ·exact h b hb

theorem zeros_less {l r:List UInt8} {s t:ByteArray} (hl:AllDig l) (hr:AllDig r) (hs:Zeros l s) (ht:Zeros r t) (h:s.size=t.size):(Op.bytesLess s.toList t.toList=true↔val l<val r):=by
 obtain ⟨y,hy⟩:=hs
 obtain ⟨z,hz⟩:=ht
 rw [Lib.size_eq,Lib.size_eq,hy,hz] at h
 rw [Lib.toList_data,Lib.toList_data,hy,hz,less_val _ _ (zeros_dig y hl) (zeros_dig z hr) h,zeros_val,zeros_val]
theorem zeros_eq {l r:List UInt8} {s t:ByteArray} (hl:AllDig l) (hr:AllDig r) (hs:Zeros l s) (ht:Zeros r t) (h:s.size=t.size):((s.toList == t.toList)=true↔val l=val r):=by
 obtain ⟨y,hy⟩:=hs
 obtain ⟨z,hz⟩:=ht
 rw [Lib.size_eq,Lib.size_eq,hy,hz] at h
 rw [Lib.toList_data,Lib.toList_data,hy,hz,beq_iff_eq]
 constructor
 ·intro e
  have:=congrArg val e
  rwa [zeros_val,zeros_val] at this
 ·intro e
  exact val_inj _ _ (zeros_dig y hl) (zeros_dig z hr) h (by rw [zeros_val,zeros_val]; exact e)
end Go.Proofs.YtnpjklaaokiikaaGreatDoor.Num
