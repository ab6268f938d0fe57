/-
  What the theorem of the last text needs of these: IdMath, NumText, NumCmp, NumZeros, NaWalk, SvMath, IdGoodMath, IdByte. Conditions: as each theorem states.
-/
import Derived.Test.YtnpjklaaokiikaaGreatDoorPlA1
import Derived.Test.YtnpjklaaokiikaaGreatDoorPlA2
import Derived.Lib.TrimByte
import Derived.Test.YtnpjklaaokiikaaGreatDoorShelf
import Derived.Lib.ItoaMem
import Derived.Lib.ItoaLen
set_option maxRecDepth 100000
set_option maxHeartbeats 25600000
namespace Go.Proofs.YtnpjklaaokiikaaGreatDoor.Ident
open Num

def isLet (b:UInt8):Bool:=decide ((65≤b.toNat∧b.toNat≤90)∨(97≤b.toNat∧b.toNat≤122))
def isId (b:UInt8):Bool:=isDig b || isLet b || decide (b.toNat=45)
def lead:List UInt8→Nat
 | []=>0
 | b :: r=>if isId b then lead r+1 else 0

theorem isLet_iff (b:UInt8):isLet b=true↔(65≤b.toNat∧b.toNat≤90)∨(97≤b.toNat∧b.toNat≤122):=by simp [isLet]

theorem lead_le (l:List UInt8):lead l≤l.length:=by
 induction l with
 | nil=>simp [lead]
 | cons b r ih=>simp only [lead,List.length_cons]; split <;> omega

theorem lead_skip (l:List UInt8) (k:Nat) (hk:k≤l.length) (h:∀ j,j<k→isId (l.getD j 0)=true):lead l=k+lead (l.drop k):=by
 induction k generalizing l with
 | zero=>simp
 | succ k ih =>
  cases l with
  | nil=>simp at hk
  | cons b r =>
   have h0:isId b=true:=by simpa using h 0 (by omega)
   have:=ih r (by simpa using hk) (fun j hj=>by simpa using h (j+1) (by omega))
   simp only [lead,h0,if_true,List.drop_succ_cons]; omega

theorem drop_getD (l:List UInt8) (k:Nat) (h:k<l.length):l.drop k=l.getD k 0 :: l.drop (k+1):=by
 rw [List.drop_eq_getElem_cons h]; simp [List.getD,List.getElem?_eq_getElem h]

theorem lead_stop (l:List UInt8) (k:Nat) (hk:k≤l.length) (h:∀ j,j<k→isId (l.getD j 0)=true) (he:k=l.length∨isId (l.getD k 0)=false):lead l=k:=by
 rw [lead_skip l k hk h]
 rcases he with he | he
 ·subst he; simp [lead]
 ·rcases Nat.lt_or_ge k l.length with hlt | hge
  ·rw [drop_getD l k hlt,lead,he]; simp
  ·rw [List.drop_eq_nil_of_le hge]; simp [lead]

theorem lead_full {l:List UInt8}:lead l=l.length↔∀ b ∈ l,isId b=true:=by
 induction l with
 | nil=>simp [lead]
 | cons b r ih =>
  rw [lead]
  by_cases hb:isId b=true
  ·simp [hb,← ih]
  ·have:=lead_le r
   simp [hb]

def numeric (l:List UInt8):Bool:=decide (0<l.length∧run l=l.length)
theorem numeric_iff (l:List UInt8):numeric l=true↔0<l.length∧run l=l.length:=by simp [numeric]
theorem numeric_no (l:List UInt8):numeric l=false↔¬ (0<l.length∧run l=l.length):=by
 rw [← numeric_iff]; cases numeric l <;> simp

def fault (s:List UInt8) (i:Nat) (pre:Bool):Nat :=
 if s.length=0 then 5 else if 255<s.length∨16≤i then 4 else if pre=true∧numeric s=true∧isNum s=false then 3 else 0
theorem fault_pos {s:List UInt8} {i:Nat} {pre:Bool} (h:fault s i pre=0):0<s.length∧s.length≤255∧i<16:=by
 unfold fault at h
 split at h
 ·omega
 ·split at h
  ·omega
  ·rename_i h1 h2; omega

abbrev Res:=Nat × Nat × List (List UInt8)
def shut (pre:Bool) (w:List UInt8) (acc:List (List UInt8)) (n:Nat):Res :=
 if fault w acc.length pre=0 then (0,n,acc ++ [w]) else (fault w acc.length pre,0,[])
def go (pre:Bool):List UInt8→List UInt8→List (List UInt8)→Nat→Res
 | [],w,acc,n=>shut pre w acc n
 | b :: r,w,acc,n =>
  if isId b then go pre r (w ++ [b]) acc (n+1)
  else if b.toNat=46 then (if fault w acc.length pre=0 then go pre r [] (acc ++ [w]) (n+1) else (fault w acc.length pre,0,[]))
  else shut pre w acc n
def row (l:List UInt8) (p:Int) (pre:Bool):Res:=if p<0∨(l.length:Int)<p then (1,0,[]) else go pre (l.drop p.toNat) [] [] 0

theorem point_no:isId 46=false:=by decide
theorem go_id {pre:Bool} {b:UInt8} {r w:List UInt8} {acc:List (List UInt8)} {n:Nat} (h:isId b=true):go pre (b :: r) w acc n=go pre r (w ++ [b]) acc (n+1):=by
 rw [go,if_pos h]
theorem go_point {pre:Bool} {b:UInt8} {r w:List UInt8} {acc:List (List UInt8)} {n:Nat} (hb:b.toNat=46) (hf:fault w acc.length pre=0):go pre (b :: r) w acc n=go pre r [] (acc ++ [w]) (n+1):=by
 have e:b=46:=UInt8.toNat_inj.1 hb
 subst e
 rw [go,point_no]
 simp [hf]
theorem go_else {pre:Bool} {b:UInt8} {r w:List UInt8} {acc:List (List UInt8)} {n:Nat} (h:isId b=false) (hb:b.toNat≠46):go pre (b :: r) w acc n=shut pre w acc n:=by
 rw [go,h]; simp [hb]

def numeral (l:List UInt8):List UInt8:=if (Lib.trimLeftB l 48).length=0 then [48] else Lib.trimLeftB l 48

theorem trim_val (l:List UInt8):val (Lib.trimLeftB l 48)=val l:=by
 unfold Lib.trimLeftB
 induction l with
 | nil=>rfl
 | cons b r ih =>
  rw [List.dropWhile_cons]
  split
  ·rename_i hb
   have e:b=48:=by simpa using hb
   rw [ih,val_cons,e]; simp
  ·rfl
theorem trim_dig {l:List UInt8} (h:AllDig l):AllDig (Lib.trimLeftB l 48):=by
 intro b hb
 exact h b ((List.dropWhile_sublist _).subset hb)
theorem trim_pad (l:List UInt8):pad (Lib.trimLeftB l 48)=false:=by
 rw [pad_no]
 rintro ⟨h1,h2⟩
 unfold Lib.trimLeftB at h1 h2
 induction l with
 | nil=>simp at h1
 | cons b r ih =>
  rw [List.dropWhile_cons] at h1 h2
  split at h1
  ·rename_i hb
   rw [if_pos hb] at h2
   exact ih h1 h2
  ·rename_i hb
   rw [if_neg hb] at h2
   have:b.toNat=(48:UInt8).toNat:=by simpa using h2
   exact hb (by simp [UInt8.toNat_inj.1 this])
theorem numeral_num {l:List UInt8} (h:AllDig l):isNum (numeral l)=true:=by
 unfold numeral
 split
 ·decide
 ·rename_i h0
  rw [isNum_iff]
  exact ⟨by omega,run_all (trim_dig h),trim_pad l⟩
theorem numeral_val (l:List UInt8):val (numeral l)=val l:=by
 unfold numeral
 split
 ·rename_i h0
  have e:=List.eq_nil_of_length_eq_zero h0
  have:=trim_val l
  rw [e] at this
  rw [← this]; decide
 ·exact trim_val l

def cmpId (a b:List UInt8):Int :=
 if numeric a=true then
  if numeric b=true then (if ordN (val a) (val b)=0 then ordN a.length b.length else ordN (val a) (val b))
  else -1
 else if numeric b=true then 1 else Lib.compareBytes a b

theorem cmp_bytes_trans:∀ (a b c:List UInt8),Lib.compareBytes a b≤0→Lib.compareBytes b c≤0→Lib.compareBytes a c≤0:=by
 intro a
 induction a with
 | nil=>intro b c _ _; cases c <;> simp [Lib.compareBytes]
 | cons x a ih =>
  intro b c h1 h2
  cases b with
  | nil=>simp [Lib.compareBytes] at h1
  | cons y b =>
   cases c with
   | nil=>simp [Lib.compareBytes] at h2
   | cons z c =>
    unfold Lib.compareBytes at h1 h2 ⊢
    simp only [UInt8.lt_iff_toNat_lt] at h1 h2 ⊢
    by_cases hxy:x.toNat<y.toNat
    ·by_cases hyz:y.toNat<z.toNat
     ·rw [if_pos (by omega)]; omega
     ·by_cases hzy:z.toNat<y.toNat
      ·rw [if_neg hyz,if_pos hzy] at h2; omega
      ·rw [if_pos (by omega)]; omega
    ·by_cases hyx:y.toNat<x.toNat
     ·rw [if_neg hxy,if_pos hyx] at h1; omega
     ·rw [if_neg hxy,if_neg hyx] at h1
      by_cases hyz:y.toNat<z.toNat
      ·rw [if_pos (by omega)]; omega
      ·by_cases hzy:z.toNat<y.toNat
       ·rw [if_neg hyz,if_pos hzy] at h2; omega
       ·rw [if_neg hyz,if_neg hzy] at h2
        rw [if_neg (by omega),if_neg (by omega)]
        exact ih b c h1 h2
theorem cmp_bytes_self (a:List UInt8):Lib.compareBytes a a=0:=by
 induction a with
 | nil=>rfl
 | cons x a ih=>unfold Lib.compareBytes; simp [UInt8.lt_irrefl,ih]

theorem ordN_cases (x y:Nat):(x<y∧ordN x y=-1)∨(x=y∧ordN x y=0)∨(y<x∧ordN x y=1):=by
 rcases Nat.lt_trichotomy x y with h | h | h
 ·exact .inl ⟨h,ordN_lt h⟩
 ·exact .inr (.inl ⟨h,ordN_eq h⟩)
 ·exact .inr (.inr ⟨h,ordN_gt h⟩)

theorem cmpId_self (a:List UInt8):cmpId a a=0:=by
 unfold cmpId
 split
 ·rw [ordN_eq rfl,if_pos rfl,ordN_eq rfl]
 ·exact cmp_bytes_self a

theorem cmpId_trans (a b c:List UInt8) (h1:cmpId a b≤0) (h2:cmpId b c≤0):cmpId a c≤0:=by
 unfold cmpId at h1 h2 ⊢
 by_cases ha:numeric a=true
 ·by_cases hc:numeric c=true
  ·by_cases hb:numeric b=true
   ·rw [if_pos ha,if_pos hb] at h1
    rw [if_pos hb,if_pos hc] at h2
    rw [if_pos ha,if_pos hc]
    rcases ordN_cases (val a) (val b) with ⟨e1,e2⟩ | ⟨e1,e2⟩ | ⟨e1,e2⟩ <;>
    rcases ordN_cases (val b) (val c) with ⟨g1,g2⟩ | ⟨g1,g2⟩ | ⟨g1,g2⟩ <;>
    rcases ordN_cases (val a) (val c) with ⟨k1,k2⟩ | ⟨k1,k2⟩ | ⟨k1,k2⟩ <;>
    rcases ordN_cases a.length b.length with ⟨e3,e4⟩ | ⟨e3,e4⟩ | ⟨e3,e4⟩ <;>
    rcases ordN_cases b.length c.length with ⟨g3,g4⟩ | ⟨g3,g4⟩ | ⟨g3,g4⟩ <;>
    rcases ordN_cases a.length c.length with ⟨k3,k4⟩ | ⟨k3,k4⟩ | ⟨k3,k4⟩ <;>
    simp [e2,e4] at h1 <;> simp [g2,g4] at h2 <;> simp [k2,k4] <;> omega
   ·rw [if_neg hb,if_pos hc] at h2; omega
  ·rw [if_pos ha,if_neg hc]; omega
 ·by_cases hb:numeric b=true
  ·rw [if_neg ha,if_pos hb] at h1; omega
  ·rw [if_neg ha,if_neg hb] at h1
   by_cases hc:numeric c=true
   ·rw [if_neg hb,if_pos hc] at h2; omega
   ·rw [if_neg hb,if_neg hc] at h2
    rw [if_neg ha,if_neg hc]
    exact cmp_bytes_trans a b c h1 h2

def cmpRows:List (List UInt8)→List (List UInt8)→Int
 | a :: r,b :: s=>if cmpId a b=0 then cmpRows r s else cmpId a b
 | r,s=>ordN r.length s.length
theorem cmpRows_nil (s:List (List UInt8)):cmpRows [] s=ordN 0 s.length:=by unfold cmpRows; rfl
theorem cmpRows_nil' (r:List (List UInt8)):cmpRows r []=ordN r.length 0:=by cases r <;> simp [cmpRows]
theorem cmpRows_same {a b:List UInt8} {r s:List (List UInt8)} (h:cmpId a b=0):cmpRows (a :: r) (b :: s)=cmpRows r s:=by rw [cmpRows,if_pos h]
theorem cmpRows_diff {a b:List UInt8} {r s:List (List UInt8)} (h:cmpId a b≠0):cmpRows (a :: r) (b :: s)=cmpId a b:=by rw [cmpRows,if_neg h]

/-! How long a row is. -/

def shortB (xs:List (List UInt8)):Bool:=decide (xs.length≤40∧∀ x ∈ xs,x.length≤300)
theorem shortB_iff (xs:List (List UInt8)):shortB xs=true↔xs.length≤40∧∀ x ∈ xs,x.length≤300:=by simp [shortB]
end Go.Proofs.YtnpjklaaokiikaaGreatDoor.Ident
namespace Go.Proofs.YtnpjklaaokiikaaGreatDoor.Num
open Go.RowKit Go.Sort

def Tab (w:World):Prop:=Lib.TabIs Tryz.prog w "internal/strconv.uint64pow10" .u64 Lib.pow10Tab
theorem Tab.kept {w w':World} (h:Tab w) (hb:Below w.heap.size w w'):Tab w':=by
 unfold Tab Lib.TabIs World.var? at *
 cases hg:Tryz.prog.globalNamed "internal/strconv.uint64pow10" with
 | none=>simp [hg] at h
 | some g =>
  simp only [hg,Option.bind_some] at h ⊢
  have hlt:g<w.heap.size:=by
   rcases Nat.lt_or_ge g w.heap.size with h' | h'
   ·exact h'
   ·rw [Array.getElem?_eq_none h'] at h; simp at h
  rw [hb.block g hlt]
  exact h

theorem below_grow (w:World) (k:Nat) (os:Array Obj):Below w.heap.size w (grow (w.drewN k) os):=by
 refine ⟨rfl,rfl,rfl,?_,fun j hj=>?_⟩
 ·show w.heap.size≤(w.heap ++ os).size
  simp
 ·show (w.heap ++ os)[j]?=_
  rw [Array.getElem?_append_left hj]

theorem holds_zero0 (w:World) (T:TypeId) (nd:Nat) (hs:nd≤24):Holds (fun (b:UInt8)=>Value.int .u8 b.toNat) (w.alloc (.cells Lib.zeros24 T)) w.heap.size 0 (Array.replicate nd (0:UInt8)):=fun j hj=>by
 have hj':j<nd:=by simpa using hj
 refine ⟨?_,World.frozen?_alloc_new _ _ _ _⟩
 rw [World.cell?_alloc_new,Lib.zeros24_at _ (by omega),getElem!_pos _ j hj]
 simp

theorem fmt_any (u:Nat) (h:u<18446744073709551616) (w:World) (htab:Tab w) :
  Calls Tryz.prog 209 #[.int .u64 u,.int .i64 10] w fun e w'=>e=.returned (.string ⟨(Lib.decDigits u).toArray⟩)∧Below w.heap.size w w':=by
 have HU:=Lib.hid h; clear h
 by_cases hs:u<100
 ·go_enter Tryz.func209,Tryz.ntmps209
  go_wp2_with fail
  refine (Tryz.internal_strconv_small u hs _).mono ?_
  rintro e w' ⟨rfl,rfl⟩
  go_wp2
  go_ret
  exact ⟨rfl,Below.refl _ _⟩
 ·have hu1:1≤u:=by omega
  have hnd:=Lib.nDigits_le20 u HU.out
  have hal:Tryz.prog.arrayLen 284=24:=by simp [Program.arrayLen,Tryz.underlying284]
  have hsl:∀ W,(Instr.sliceAt 284 (.pointer (some ⟨w.heap.size,0,none⟩)) none (some (.int .i64 (Lib.nDigits u))) none).run Tryz.prog W=.ok (.slice (some ⟨w.heap.size,0,none⟩) (Lib.nDigits u) 24) W:=fun W=>by
   rw [run_sliceAt_array_h W 284 ⟨w.heap.size,0,none⟩ (by simp [Program.arrayLen,Program.elem,Tryz.underlying284]) .i64 (Lib.nDigits u:Int) (by omega) (by rw [hal]; omega)]
   go_simp
  have hH0:=holds_zero0 w 284 (Lib.nDigits u) (by omega)
  have hfmt:=Tryz.internal_strconv_formatBase10 w.heap.size 0 24 u (Array.replicate (Lib.nDigits u) 0) (w.alloc (.cells Lib.zeros24 284)) hH0 (by rw [Array.size_replicate]; exact Lib.lt_pow_nDigits u) HU.out (by rw [Array.size_replicate]; omega)
  rw [Array.size_replicate] at hfmt
  have HH0:=Lib.hid hH0
  have HFMT:=Lib.hid hfmt
  have HT:=Lib.hid htab
  clear hH0 hal hfmt htab
  go_enter Tryz.func209,Tryz.ntmps209
  go_wp2_with fail
  refine (Tryz.internal_strconv_numDigits u hu1 HU.out _ (Lib.tabIs_alloc HT.out _)).mono ?_
  rintro e w' ⟨rfl,rfl⟩
  go_wp2_with fail
  refine HFMT.out.mono ?_
  rintro e w' ⟨rfl,k,v',dk,rfl,hF⟩
  have hcv:(convert 48 9 (.slice (some ⟨w.heap.size,0,none⟩) (Lib.nDigits u) 24)).run Tryz.prog ((putRow (fun (b:UInt8)=>Value.int .u8 b.toNat) (w.alloc (.cells Lib.zeros24 284)) w.heap.size 0 dk).drewN k)=.ok (.string ⟨(Lib.decDigits u).toArray⟩) ((putRow (fun (b:UInt8)=>Value.int .u8 b.toNat) (w.alloc (.cells Lib.zeros24 284)) w.heap.size 0 dk).drewN k):=by
   have h:=run_convert_bytes_back (P:=Tryz.prog) ((putRow (fun (b:UInt8)=>Value.int .u8 b.toNat) (w.alloc (.cells Lib.zeros24 284)) w.heap.size 0 dk).drewN k) 48 9 5 ⟨w.heap.size,0,none⟩ 24 (Lib.decDigits u) Tryz.underlying48 Tryz.underlying5 Tryz.underlying9 (fun j hj=>by
    rw [Lib.row_is_numeral hF j hj,Lib.add_plain,World.cell?_drewN]
    exact cell?_putRow (fun (b:UInt8)=>Value.int .u8 b.toNat) _ w.heap.size 0 _ dk HH0.out (by rw [hF.size,Array.size_replicate]) j (by rw [hF.size]; rw [Lib.decDigits_length] at hj; exact hj))
   rw [Lib.decDigits_length] at h
   exact h
  have HB:Hid (Below w.heap.size w ((putRow (fun (b:UInt8)=>Value.int .u8 b.toNat) (w.alloc (.cells Lib.zeros24 284)) w.heap.size 0 dk).drewN k)):=by
   obtain ⟨os',_,e⟩:=putRow_grow_new (fun (b:UInt8)=>Value.int .u8 b.toNat) w #[.cells Lib.zeros24 284] w.heap.size 0 dk (Nat.le_refl _)
   unfold Hid
   rw [alloc_eq_grow,e]
   exact below_grow w k os'
  generalize (putRow (fun (b:UInt8)=>Value.int .u8 b.toNat) (w.alloc (.cells Lib.zeros24 284)) w.heap.size 0 dk).drewN k=W at hcv HB ⊢
  go_wp2
  go_ret
  exact ⟨rfl,HB.out⟩

theorem format_any (u:Nat) (h:u<18446744073709551616) (w:World) (htab:Tab w) :
  Calls Tryz.prog 168 #[.int .u64 u,.int .i64 10] w fun e w'=>e=.returned (.string ⟨(Lib.decDigits u).toArray⟩)∧Below w.heap.size w w':=by
 have HU:=Lib.hid h; clear h
 have HT:=Lib.hid htab; clear htab
 go_enter Tryz.func168,Tryz.ntmps168
 go_wp2_with fail
 refine (fmt_any u HU.out _ HT.out).mono ?_
 rintro e w1 ⟨rfl,hb1⟩
 go_wp2
 go_ret
 exact ⟨rfl,hb1⟩

theorem text_any (u:Nat) (h:u<18446744073709551616) (w:World) (htab:Tab w) :
  Calls Tryz.prog 116 #[.int .u64 u] w fun e w'=>e=.returned (.string ⟨(Lib.decDigits u).toArray⟩)∧Below w.heap.size w w':=by
 have HU:=Lib.hid h; clear h
 have HT:=Lib.hid htab; clear htab
 go_enter Tryz.func116,Tryz.ntmps116
 go_wp2_with fail
 refine (format_any u HU.out _ HT.out).mono ?_
 rintro e w1 ⟨rfl,hb1⟩
 go_wp2
 go_ret
 exact ⟨rfl,hb1⟩

theorem dec_all (u:Nat):AllDig (Lib.decDigits u):=by
 induction u using Nat.strongRecOn with
 | _ u ih =>
  rw [Lib.decDigits]
  split
  ·rename_i h
   intro b hb
   simp only [List.mem_singleton] at hb
   subst hb
   rw [isDig_iff,UInt8.toNat_ofNat']; omega
  ·rename_i h
   intro b hb
   rw [List.mem_append] at hb
   rcases hb with hb | hb
   ·exact ih (u / 10) (by omega) b hb
   ·simp only [List.mem_singleton] at hb
    subst hb
    rw [isDig_iff,UInt8.toNat_ofNat']; omega
theorem dec_val (u:Nat):val (Lib.decDigits u)=u:=by
 induction u using Nat.strongRecOn with
 | _ u ih =>
  rw [Lib.decDigits]
  split
  ·rename_i h
   rw [val_cons]
   simp [UInt8.toNat_ofNat',val,valFrom]; omega
  ·rename_i h
   rw [val_snoc,ih (u / 10) (by omega),UInt8.toNat_ofNat']; omega
theorem dec_pos (u:Nat):0<(Lib.decDigits u).length:=by rw [Lib.decDigits_length]; exact Lib.nDigits_pos u
theorem nd_le:∀ (k u:Nat),u<10 ^ k→1≤k→Lib.nDigits u≤k
 | 0,_,_,h=>by omega
 | k+1,u,h1,_=>by
  by_cases h:u<10
  ·rw [Lib.nDigits_small h]; omega
  ·rw [Lib.nDigits_big h]
   rw [Nat.pow_succ] at h1
   rcases Nat.eq_zero_or_pos k with h0 | h0
   ·subst h0; simp at h1; omega
   ·have:=nd_le k (u / 10) (by omega) h0
    omega
theorem dec_pad (u:Nat):pad (Lib.decDigits u)=false:=by
 rw [pad_no]
 rintro ⟨h1,h2⟩
 rw [Lib.decDigits_length] at h1
 have hv:=dec_val u
 have hl:=Lib.decDigits_length u
 cases hd:Lib.decDigits u with
 | nil=>rw [hd] at hl; simp at hl; omega
 | cons b r =>
  rw [hd] at hv h2 hl
  have ha:=dec_all u
  rw [hd,allDig_cons] at ha
  have hr:=val_lt ha.2
  have hb:b.toNat=48:=by simpa using h2
  rw [val_cons,hb] at hv
  simp at hv hl
  rw [hv] at hr
  have:=nd_le r.length u hr (by omega)
  omega
theorem dec_num (u:Nat):isNum (Lib.decDigits u)=true:=by
 rw [isNum_iff]
 exact ⟨dec_pos u,run_all (dec_all u),dec_pad u⟩
end Go.Proofs.YtnpjklaaokiikaaGreatDoor.Num
namespace Go.Proofs.YtnpjklaaokiikaaGreatDoor.Num
open Go.RowKit

theorem cmp_any (x y:Nat) (w:World) :
  Calls Tryz.prog 179 #[.int .i64 x,.int .i64 y] w fun e w'=>e=.returned (.int .i64 (ordN x y))∧w=w':=by
 rcases Nat.lt_trichotomy x y with h | h | h
 ·have HF:=Lib.hid (ordN_lt h)
  go_enter Tryz.func179,Tryz.ntmps179
  go_wp2
  go_ret
  exact ⟨by rw [HF.out]; rfl,rfl⟩
 ·have HF:=Lib.hid (ordN_eq h)
  subst h
  go_enter Tryz.func179,Tryz.ntmps179
  go_wp2
  go_ret
  exact ⟨by rw [HF.out]; rfl,rfl⟩
 ·have HF:=Lib.hid (ordN_gt h)
  go_enter Tryz.func179,Tryz.ntmps179
  go_wp2
  go_ret
  exact ⟨by rw [HF.out]; rfl,rfl⟩

theorem strcmp_any (s t:ByteArray) (w:World) :
  Calls Tryz.prog 66 #[.string s,.string t] w fun e w'=>e=.returned (.int .i64 (Lib.compareBytes s.data.toList t.data.toList))∧w=w':=by
 have hx:∀ W,(callFunc 174 #[.string s,.string t]).run Tryz.prog W=.ok (.value (.int .i64 (Lib.compareBytes s.data.toList t.data.toList))) W:=fun W=>by
  rw [run_callFunc_extern Tryz.func174 (by kernel_rfl) (by kernel_rfl) (by kernel_rfl) (e:=Extern.BytealgCompare.compare) (by kernel_rfl),Lib.run_compareString]
  rfl
 generalize Lib.compareBytes s.data.toList t.data.toList=r at hx ⊢
 go_enter Tryz.func66,Tryz.ntmps66
 go_wp2
 go_ret
 exact ⟨rfl,rfl⟩

theorem compare_anyD (s t:ByteArray) (w:World) (hs:s.size≤maxLen) (ht:t.size≤maxLen) :
  Calls Tryz.prog 254 #[.string s,.string t] w fun e w'=>e=.returned (.int .i64 (cmpNum s.data.toList t.data.toList))∧BelowD w.heap.size w w':=by
 have hs':=hs
 have ht':=ht
 unfold maxLen at hs' ht'
 have HS:=Lib.hid hs
 have HT:=Lib.hid ht
 clear hs ht
 have LS:=Lib.hid (Lib.size_eq s)
 have LT:=Lib.hid (Lib.size_eq t)
 cases ha:isNum s.data.toList
 ·have HF:=Lib.hid (cmpNum_no (b:=t.data.toList) (.inl ha))
  have HA:=Lib.hid ha; clear ha
  go_enter Tryz.func254,Tryz.ntmps254
  go_wp2_with fail
  refine (is_anyD s _ HS.out).mono ?_
  rintro e w1 ⟨rfl,hb1⟩
  rw [HA.out]
  go_wp2
  go_ret
  exact ⟨by rw [HF.out]; rfl,hb1⟩
 ·cases hb:isNum t.data.toList
  ·have HF:=Lib.hid (cmpNum_no (a:=s.data.toList) (.inr hb))
   have HA:=Lib.hid ha; clear ha
   have HB:=Lib.hid hb; clear hb
   go_enter Tryz.func254,Tryz.ntmps254
   go_wp2_with fail
   refine (is_anyD s _ HS.out).mono ?_
   rintro e w1 ⟨rfl,hb1⟩
   rw [HA.out]
   go_wp2_with fail
   refine (is_anyD t _ HT.out).mono ?_
   rintro e w2 ⟨rfl,hb2⟩
   rw [HB.out]
   have hz1:=hb1.size
   go_wp2
   go_ret
   exact ⟨by rw [HF.out]; rfl,hb1.trans (hb2.mono hz1)⟩
  ·have HF:=Lib.hid (cmpNum_yes ha hb)
   have HG:=Lib.hid (fun h=>ordN_lt (shorter ha hb h))
   have HG2:=Lib.hid (fun h=>ordN_gt (shorter hb ha h))
   have HG3:=Lib.hid (fun h=>alike_val ha hb h)
   have HA:=Lib.hid ha; clear ha
   have HB:=Lib.hid hb; clear hb
   go_enter Tryz.func254,Tryz.ntmps254
   go_wp2_with fail
   refine (is_anyD s _ HS.out).mono ?_
   rintro e w1 ⟨rfl,hb1⟩
   rw [HA.out]
   go_wp2_with fail
   refine (is_anyD t _ HT.out).mono ?_
   rintro e w2 ⟨rfl,hb2⟩
   rw [HB.out]
   have hz1:=hb1.size
   have HBB:=Lib.hid (hb1.trans (hb2.mono hz1))
   go_wp2_with fail
   refine (cmp_any _ _ _).mono ?_
   rintro e w' ⟨rfl,rfl⟩
   rcases Nat.lt_trichotomy s.size t.size with h | h | h
   ·rw [ordN_lt h]
    go_wp2
    go_ret
    exact ⟨by rw [HF.out,HG.out (by rw [← LS.out,← LT.out]; exact h)]; rfl,HBB.out⟩
   ·rw [ordN_eq h]
    have H:=Lib.hid h; clear h
    go_wp2_with fail
    refine (strcmp_any _ _ _).mono ?_
    rintro e w' ⟨rfl,rfl⟩
    go_wp2
    go_ret
    exact ⟨by rw [HF.out,← HG3.out (by rw [← LS.out,← LT.out]; exact H.out)]; rfl,HBB.out⟩
   ·rw [ordN_gt h]
    go_wp2
    go_ret
    exact ⟨by rw [HF.out,HG2.out (by rw [← LS.out,← LT.out]; exact h)]; rfl,HBB.out⟩
end Go.Proofs.YtnpjklaaokiikaaGreatDoor.Num
namespace Go.Proofs.YtnpjklaaokiikaaGreatDoor.Num
open Go.RowKit

def strSize:Value→Nat
 | .string s=>s.size
 | _=>0
def Zeros (l:List UInt8) (t:ByteArray):Prop:=∃ z,t.data.toList=List.replicate z 48 ++ l
theorem zero_size (s:ByteArray):((⟨#[48]⟩:ByteArray) ++ s).size=s.size+1:=by
 rw [ByteArray.size_append]; show 1+s.size=_; omega
theorem zero_ahead {l:List UInt8} {s:ByteArray} (h:Zeros l s):Zeros l ((⟨#[48]⟩:ByteArray) ++ s):=by
 obtain ⟨z,hz⟩:=h
 refine ⟨z+1,?_⟩
 rw [ByteArray.data_append,Array.toList_append,hz,List.replicate_succ]
 rfl
theorem zeros_val (z:Nat) (l:List UInt8):val (List.replicate z 48 ++ l)=val l:=by
 induction z with
 | zero=>rfl
 | succ z ih =>
  rw [List.replicate_succ,List.cons_append,val_cons,ih]
  simp
theorem zeros_dig (z:Nat) {l:List UInt8} (h:AllDig l):AllDig (List.replicate z 48 ++ l):=by
 intro b hb
 rw [List.mem_append] at hb
 rcases hb with hb | hb
 ·rw [List.eq_of_mem_replicate hb]; decide
 ·exact h b hb

theorem zeros_less {l r:List UInt8} {s t:ByteArray} (hl:AllDig l) (hr:AllDig r) (hs:Zeros l s) (ht:Zeros r t) (h:s.size=t.size):(Op.bytesLess s.toList t.toList=true↔val l<val r):=by
 obtain ⟨y,hy⟩:=hs
 obtain ⟨z,hz⟩:=ht
 rw [Lib.size_eq,Lib.size_eq,hy,hz] at h
 rw [Lib.toList_data,Lib.toList_data,hy,hz,less_val _ _ (zeros_dig y hl) (zeros_dig z hr) h,zeros_val,zeros_val]
theorem zeros_eq {l r:List UInt8} {s t:ByteArray} (hl:AllDig l) (hr:AllDig r) (hs:Zeros l s) (ht:Zeros r t) (h:s.size=t.size):((s.toList == t.toList)=true↔val l=val r):=by
 obtain ⟨y,hy⟩:=hs
 obtain ⟨z,hz⟩:=ht
 rw [Lib.size_eq,Lib.size_eq,hy,hz] at h
 rw [Lib.toList_data,Lib.toList_data,hy,hz,beq_iff_eq]
 constructor
 ·intro e
  have:=congrArg val e
  rwa [zeros_val,zeros_val] at this
 ·intro e
  exact val_inj _ _ (zeros_dig y hl) (zeros_dig z hr) h (by rw [zeros_val,zeros_val]; exact e)
end Go.Proofs.YtnpjklaaokiikaaGreatDoor.Num
namespace Go.Proofs.YtnpjklaaokiikaaGreatDoor.Name
open Go.RowKit Num

theorem plain_any (x:Int) (w:World) (h0:0≤x) (h1:x≤255) :
  Calls Tryz.prog 201 #[.int .u8 x] w fun e w'=>e=.returned (.bool (fstB x))∧w=w':=by
 by_cases ha:97≤x
 ·by_cases hb:x≤122
  ·have HF:=Lib.hid ((fstB_iff x).2 (.inl ⟨ha,hb⟩))
   go_enter Tryz.func201,Tryz.ntmps201
   go_wp2
   go_ret
   exact ⟨by rw [HF.out]; rfl,rfl⟩
  ·have HF:=Lib.hid (fstB_no (x:=x) (by omega))
   have hc:48≤x:=by omega
   have hd:¬ x≤57:=by omega
   go_enter Tryz.func201,Tryz.ntmps201
   go_wp2
   go_ret
   exact ⟨by rw [HF.out]; rfl,rfl⟩
 ·by_cases hc:48≤x
  ·by_cases hd:x≤57
   ·have HF:=Lib.hid ((fstB_iff x).2 (.inr ⟨hc,hd⟩))
    go_enter Tryz.func201,Tryz.ntmps201
    go_wp2
    go_ret
    exact ⟨by rw [HF.out]; rfl,rfl⟩
   ·have HF:=Lib.hid (fstB_no (x:=x) (by omega))
    go_enter Tryz.func201,Tryz.ntmps201
    go_wp2
    go_ret
    exact ⟨by rw [HF.out]; rfl,rfl⟩
  ·have HF:=Lib.hid (fstB_no (x:=x) (by omega))
   go_enter Tryz.func201,Tryz.ntmps201
   go_wp2
   go_ret
   exact ⟨by rw [HF.out]; rfl,rfl⟩
def mrkB (x:Int):Bool:=decide (x=45∨x=95∨x=46)
theorem mrkB_iff (x:Int):mrkB x=true↔x=45∨x=95∨x=46:=by simp [mrkB]
theorem mark_any (x:Int) (w:World) :
  Calls Tryz.prog 202 #[.int .u8 x] w fun e w'=>e=.returned (.bool (mrkB x))∧w=w':=by
 by_cases h1:x=45
 ·have HF:=Lib.hid ((mrkB_iff x).2 (.inl h1))
  have b1:(x == 45)=true:=by rw [h1]; rfl
  clear h1
  go_enter Tryz.func202,Tryz.ntmps202
  go_wp2
  go_ret
  exact ⟨by rw [HF.out]; rfl,rfl⟩
 ·have b1:(x == 45)=false:=by simp [h1]
  by_cases h2:x=95
  ·have HF:=Lib.hid ((mrkB_iff x).2 (.inr (.inl h2)))
   have b2:(x == 95)=true:=by rw [h2]; rfl
   clear h2 h1
   go_enter Tryz.func202,Tryz.ntmps202
   go_wp2
   go_ret
   exact ⟨by rw [HF.out]; rfl,rfl⟩
  ·have b2:(x == 95)=false:=by simp [h2]
   have HF:Hid (mrkB x=(x == 46)):=by
    unfold Hid; rw [Bool.eq_iff_iff,mrkB_iff]; simp [h1,h2]
   clear h1 h2
   go_enter Tryz.func202,Tryz.ntmps202
   go_wp2
   go_ret
   exact ⟨by rw [HF.out]; rfl,rfl⟩
def NlJ (w:World) (A:Option Addr) (n c:Nat) (l:List UInt8) (a':Act) (w':World):Prop :=
 w=w'∧∃ (k:Nat) (u4 u5 u6 u7 u8 u9 u10 u11 u12 u13 u14 u15 u16 u17 u18 u19 u20 u21 u22 u23 u24 u25 u26 u27 u28:Value),k≤n∧(∀ j,j<k→okB j (byteAt l j)=true)∧a'={ tmps:=#[.slice A n c,undef,.int .i64 0,.int .i64 k,u4,u5,u6,u7,u8,u9,u10,u11,u12,u13,u14,u15,u16,u17,u18,u19,u20,u21,u22,u23,u24,u25,u26,u27,u28],defers:=[] }
def NlM (n:Nat) (a':Act) (_:World):Nat:=n - (intOf (a'.tmps.getD 3 undef)).toNat
theorem nlength_any (A:Option Addr) (n c:Nat) (l:List UInt8) (w:World) (h:Row w A n l) :
  Calls Tryz.prog 149 #[.slice A n c] w fun e w'=>e=.returned (.int .i64 (nlen l))∧w=w':=by
 obtain ⟨hl,hm,hc⟩:=h
 unfold maxLen at hm
 have HC:=Lib.hid hc; clear hc
 have HL:=Lib.hid hl; clear hl
 go_enter Tryz.func149,Tryz.ntmps149
 go_wp2
 refine wp_scope_back 0 (NlJ w A n c l) (NlM n) rfl ?_ ?_
 ·rintro a' w' ⟨rfl,k,u4,u5,u6,u7,u8,u9,u10,u11,u12,u13,u14,u15,u16,u17,u18,u19,u20,u21,u22,u23,u24,u25,u26,u27,u28,hk,hd,rfl⟩
  have HD:=Lib.hid hd; clear hd
  by_cases hlt:k<n
  ·obtain ⟨b,o,rfl,hb,hcell⟩:=HC.out (by omega)
   have hx:=hcell k hlt
   clear hcell HC
   have hbd:=byteAt_bd l k
   have HN:Hid (okB k (byteAt l k)=true→∀ j,j<k+1→okB j (byteAt l j)=true):=fun hi j hj=>by
    rcases Nat.lt_or_ge j k with hj1 | hj1
    ·exact HD.out j hj1
    ·obtain rfl:j=k:=by omega
     exact hi
   have HS:Hid (okB k (byteAt l k)=false→nlen l=k):=fun hn=>nrun_stop l 0 k (by rw [HL.out]; omega) (fun j hj=>by rw [Nat.zero_add]; exact HD.out j hj) (.inr (by rw [Nat.zero_add]; exact hn))
   generalize byteAt l k=x at hx hbd HN HS
   obtain ⟨hx0,hx1⟩:=hbd
   go_wp2_with fail
   refine (plain_any _ _ hx0 hx1).mono ?_
   rintro e w' ⟨rfl,rfl⟩
   cases h1:fstB x
   ·have H1:=Lib.hid h1; clear h1
    by_cases hk0:k=0
    ·have HZ:=Lib.hid (HS.out (okB_no H1.out (.inl hk0)))
     have hk1:¬ 0<k:=by omega
     clear hk0
     go_wp2
     simp only [Exit.jump]
     go_ret
     exact ⟨ret_int (by rw [HZ.out]),rfl⟩
    ·have hk1:0<k:=by omega
     have HK:=Lib.hid hk0; clear hk0
     go_wp2_with fail
     refine (mark_any _ _).mono ?_
     rintro e w' ⟨rfl,rfl⟩
     cases h2:mrkB x
     ·have HZ:=Lib.hid (HS.out (okB_no H1.out (.inr (fun h=>by rw [(mrkB_iff x).2 h] at h2; cases h2))))
      clear h2
      go_wp2
      simp only [Exit.jump]
      go_ret
      exact ⟨ret_int (by rw [HZ.out]),rfl⟩
     ·have HY:=Lib.hid (HN.out ((okB_iff k x).2 (.inr ⟨hk1,(mrkB_iff x).1 h2⟩)))
      clear h2
      go_wp2
      go_step3
      rw [show ((k:Int)+1)=((k+1:Nat):Int) from rfl]
      refine ⟨rfl,⟨rfl,k+1,_,_,_,_,_,_,_,_,_,_,_,_,_,_,_,_,_,_,_,_,_,_,_,_,_,by omega,HY.out,rfl⟩,?_⟩
      simp [NlM,intOf]; omega
   ·have HY:=Lib.hid (HN.out ((okB_iff k x).2 (.inl h1)))
    clear h1
    go_wp2
    go_step3
    rw [show ((k:Int)+1)=((k+1:Nat):Int) from rfl]
    refine ⟨rfl,⟨rfl,k+1,_,_,_,_,_,_,_,_,_,_,_,_,_,_,_,_,_,_,_,_,_,_,_,_,_,by omega,HY.out,rfl⟩,?_⟩
    simp [NlM,intOf]; omega
  ·have HS:Hid (nlen l=k):=nrun_stop l 0 k (by rw [HL.out]; omega) (fun j hj=>by rw [Nat.zero_add]; exact HD.out j hj) (.inl (by rw [HL.out]; omega))
   go_wp2
   simp only [Exit.jump]
   go_ret
   exact ⟨ret_int (by rw [HS.out]),rfl⟩
 ·intro HP
  go_wp2
  go_step3
  rename_i hK
  exact hK _ _ (HP.out _ _ ⟨rfl,0,_,_,_,_,_,_,_,_,_,_,_,_,_,_,_,_,_,_,_,_,_,_,_,_,_,by omega,(fun j hj=>by omega),rfl⟩)

theorem scan_any (A:Option Addr) (n c:Nat) (l:List UInt8) (p:Int) (w:World) (h:Row w A n l) (hc:n≤c) :
  Calls Tryz.prog 93 #[.slice A n c,.int .i64 p] w fun e w'=>e=.returned (scanOut l p)∧w=w':=by
 have hm:=h.2.1
 unfold maxLen at hm
 by_cases ho:p<0∨(n:Int)<p
 ·have HF:Hid (scanOut l p=.tuple #[.int .i64 0,.int .i64 1]):=by unfold Hid scanOut; rw [nscan_arg (by rw [h.1]; exact ho)]
  by_cases h0:p<0
  ·go_enter Tryz.func93,Tryz.ntmps93
   go_wp2
   go_ret2
   exact ⟨by rw [HF.out]; rfl,rfl⟩
  ·have h1:(n:Int)<p:=by omega
   clear ho
   go_enter Tryz.func93,Tryz.ntmps93
   go_wp2
   go_ret2
   exact ⟨by rw [HF.out]; rfl,rfl⟩
 ·obtain ⟨q,rfl⟩:=Int.eq_ofNat_of_zero_le (show 0≤p by omega)
  have hp:q≤n:=by omega
  have hp0:¬ (q:Int)<0:=by omega
  have hp1:¬ n<q:=by omega
  obtain ⟨R,hR⟩:∃ R,(if c=q then A else A.map (fun x=>x.add q))=R:=⟨_,rfl⟩
  have HR:=Lib.hid (Ident.Row.from_ h q c hp hc hR)
  have HA:Hid (¬ ((q:Int)<0∨(l.length:Int)<q)):=by unfold Hid; rw [h.1]; omega
  have HO:Hid ((if nlen (l.drop q)=0∨255<nlen (l.drop q) then Value.tuple #[.int .i64 0,.int .i64 12] else .tuple #[.int .i64 (nlen (l.drop q):Nat),.int .i64 0])=scanOut l q):=by
   unfold Hid scanOut
   by_cases g:nlen (l.drop q)=0∨255<nlen (l.drop q)
   ·rw [nscan_bad HA.out (by rw [Int.toNat_natCast]; exact g),if_pos g]
   ·rw [nscan_good HA.out (by rw [Int.toNat_natCast]; exact g),if_neg g,Int.toNat_natCast]
  have hnl:=nrun_le 0 (l.drop q)
  rw [show nrun 0 (l.drop q)=nlen (l.drop q) from rfl,HR.out.1] at hnl
  clear ho h HA
  go_enter Tryz.func93,Tryz.ntmps93
  go_wp2_with fail
  refine (nlength_any _ _ _ _ _ HR.out).mono ?_
  rintro e w' ⟨rfl,rfl⟩
  clear hR
  generalize nlen (l.drop q)=m at hnl HO ⊢
  have hm2:m≤9223372036854775807:=by omega
  clear hnl
  by_cases hz:m=0
  ·subst hz
   rw [if_pos (.inl rfl)] at HO
   go_wp2
   go_ret2
   exact ⟨by rw [← HO.out]; rfl,rfl⟩
  ·have hzb:((m:Int) == 0)=false:=by simp [hz]
   by_cases hg:255<m
   ·rw [if_pos (.inr hg)] at HO
    have HZ:=Lib.hid hz; clear hz
    go_wp2
    go_ret2
    exact ⟨by rw [← HO.out]; rfl,rfl⟩
   ·rw [if_neg (by omega)] at HO
    have HZ:=Lib.hid hz; clear hz
    go_wp2
    go_ret2
    exact ⟨by rw [← HO.out]; rfl,rfl⟩

theorem good_any (s:ByteArray) (w:World) (hs:s.size≤maxLen) :
  Calls Tryz.prog 51 #[.string s] w fun e w'=>e=.returned (.bool (isName s.data.toList))∧Below w.heap.size w w':=by
 have HW:=Lib.hid (nscan_whole s.data.toList)
 have LS:=Lib.hid (Lib.size_eq s)
 obtain ⟨cc,W1,hcc,hconv,hR,hb⟩:=run_bytes w s hs
 have HB:=Lib.hid hb
 have HR:=Lib.hid hR
 clear hb hR
 unfold maxLen at hs
 go_enter Tryz.func51,Tryz.ntmps51
 go_wp2_with fail
 refine (scan_any _ _ _ _ 0 _ HR.out hcc).mono ?_
 unfold scanOut
 obtain ⟨⟨n,e⟩,hr⟩:∃ t,nscan s.data.toList 0=t:=⟨_,rfl⟩
 rw [hr] at HW ⊢
 clear hr
 rintro e' w' ⟨rfl,rfl⟩
 by_cases he:e=0
 ·have hb:(e == 0)=true:=by simp [he]
  have HE:=Lib.hid he; clear he
  by_cases hn:n=s.size
  ·have hb2:(n == (s.size:Int))=true:=by simp [hn]
   have HF:Hid (isName s.data.toList=true):=HW.out.1 ⟨HE.out,by rw [← LS.out]; exact hn⟩
   have HN:=Lib.hid hn; clear hn
   go_wp2
   go_ret
   exact ⟨by rw [HF.out]; rfl,HB.out⟩
  ·have hb2:(n == (s.size:Int))=false:=by simp [hn]
   have HF:Hid (isName s.data.toList=false):=by
    unfold Hid; rw [← Bool.not_eq_true,← HW.out,← LS.out]; exact fun h=>hn h.2
   have HN:=Lib.hid hn; clear hn
   go_wp2
   go_ret
   exact ⟨by rw [HF.out]; rfl,HB.out⟩
 ·have hb:(e == 0)=false:=by simp [he]
  have HF:Hid (isName s.data.toList=false):=by
   unfold Hid; rw [← Bool.not_eq_true,← HW.out]; exact fun h=>he h.1
  have HE:=Lib.hid he; clear he
  go_wp2
  go_ret
  exact ⟨by rw [HF.out]; rfl,HB.out⟩
end Go.Proofs.YtnpjklaaokiikaaGreatDoor.Name
namespace Go.Proofs.YtnpjklaaokiikaaGreatDoor.Semver
open Num Ident

structure Ver where
 a:Nat
 b:Nat
 c:Nat
 pre:List (List UInt8)
 build:List (List UInt8)
deriving DecidableEq
def noVer:Ver:=⟨0,0,0,[],[]⟩
def point (l:List UInt8) (q:Nat):Nat:=if q=l.length then 2 else if byteAt l q≠46 then 3 else 0
abbrev Core:=Nat × Nat × Nat × Nat × Nat
def core2 (l:List UInt8) (x y p:Nat):Core:=if (parse l p).2.2≠0 then ((parse l p).2.2,p,0,0,0) else (0,p+(parse l p).2.1,x,y,(parse l p).1)
def after2 (l:List UInt8) (x y q:Nat):Core:=if point l q≠0 then (point l q,q,0,0,0) else core2 l x y (q+1)
def core1 (l:List UInt8) (x p:Nat):Core:=if (parse l p).2.2≠0 then ((parse l p).2.2,p,0,0,0) else after2 l x (parse l p).1 (p+(parse l p).2.1)
def after1 (l:List UInt8) (x q:Nat):Core:=if point l q≠0 then (point l q,q,0,0,0) else core1 l x (q+1)
def core (l:List UInt8) (p:Nat):Core:=if (parse l p).2.2≠0 then ((parse l p).2.2,p,0,0,0) else after1 l (parse l p).1 (p+(parse l p).2.1)
def rowAt (l:List UInt8) (p m:Nat):Res :=
 if p=l.length∨byteAt l p≠(m:Int) then (0,p,[]) else ((row l ((p+1:Nat):Int) (m == 45)).1,p+1+(row l ((p+1:Nat):Int) (m == 45)).2.1,(row l ((p+1:Nat):Int) (m == 45)).2.2)
abbrev Out:=Nat × Nat × Ver
def tail2 (l:List UInt8) (x y z:Nat) (pre:List (List UInt8)) (q:Nat):Out :=
 if (rowAt l q 43).1≠0 then ((rowAt l q 43).1,(rowAt l q 43).2.1,noVer) else (0,(rowAt l q 43).2.1,⟨x,y,z,pre,(rowAt l q 43).2.2⟩)
def tail1 (l:List UInt8) (x y z q:Nat):Out :=
 if (rowAt l q 45).1≠0 then ((rowAt l q 45).1,(rowAt l q 45).2.1,noVer) else tail2 l x y z (rowAt l q 45).2.2 (rowAt l q 45).2.1
def inside (l:List UInt8) (p:Nat):Out :=
 if (core l p).1≠0 then ((core l p).1,(core l p).2.1,noVer) else tail1 l (core l p).2.2.1 (core l p).2.2.2.1 (core l p).2.2.2.2 (core l p).2.1
def vparse (l:List UInt8) (p:Int):Out:=if p<0∨(l.length:Int)<p then (1,0,noVer) else inside l p.toNat
def vread (l:List UInt8):Out :=
 if (vparse l 0).1≠0 then ((vparse l 0).1,(vparse l 0).2.1,noVer) else if (vparse l 0).2.1≠l.length then (13,(vparse l 0).2.1,noVer) else (0,0,(vparse l 0).2.2)

theorem point_no {l:List UInt8} {q:Nat} (h:q≠l.length) (h2:byteAt l q≠46):point l q=3:=by unfold point; rw [if_neg h,if_pos h2]
theorem point_yes {l:List UInt8} {q:Nat} (h:q≠l.length) (h2:byteAt l q=46):point l q=0:=by unfold point; rw [if_neg h,if_neg (by simp [h2])]


theorem rowAt_none {l:List UInt8} {p m:Nat} (h:p=l.length∨byteAt l p≠(m:Int)):rowAt l p m=(0,p,[]):=by unfold rowAt; rw [if_pos h]
theorem rowAt_some {l:List UInt8} {p m:Nat} (h1:p≠l.length) (h2:byteAt l p=(m:Int)):rowAt l p m=((row l ((p+1:Nat):Int) (m == 45)).1,p+1+(row l ((p+1:Nat):Int) (m == 45)).2.1,(row l ((p+1:Nat):Int) (m == 45)).2.2):=by
 unfold rowAt; rw [if_neg]; rintro (h | h)
 ·exact h1 h
 ·exact h h2

/-! What stands ahead of a place. -/
theorem byteAt_place (a b:List UInt8) (p:Nat):byteAt (a ++ b) (a.length+p)=byteAt b p:=by
 unfold byteAt List.getD
 rw [List.getElem?_append_right (by omega),show a.length+p - a.length=p by omega]
def move (n:Nat) (r:Out):Out:=(r.1,n+r.2.1,r.2.2)
end Go.Proofs.YtnpjklaaokiikaaGreatDoor.Semver
namespace Go.Proofs.YtnpjklaaokiikaaGreatDoor.Ident
open Go.RowKit Num

def goodFrom (pre:Bool):List (List UInt8)→Nat→Bool
 | [],_=>true
 | x :: r,i=>fault x i pre == 0 && lead x == x.length && goodFrom pre r (i+1)
theorem goodFrom_yes {pre:Bool} {x:List UInt8} {r:List (List UInt8)} {i:Nat} (h1:fault x i pre=0) (h2:lead x=x.length):goodFrom pre (x :: r) i=goodFrom pre r (i+1):=by
 rw [goodFrom]; simp [h1,h2]
theorem goodFrom_no {pre:Bool} {x:List UInt8} {r:List (List UInt8)} {i:Nat} (h:fault x i pre≠0∨lead x≠x.length):goodFrom pre (x :: r) i=false:=by
 rw [goodFrom]
 rcases h with h | h
 ·rw [beq_eq_false_iff_ne.2 h]; rfl
 ·rw [beq_eq_false_iff_ne.2 h]; simp
theorem goodFrom_step {pre:Bool} {xs:List (List UInt8)} {k:Nat} (hk:k<xs.length) (h1:fault (xs.getD k []) k pre=0) (h2:lead (xs.getD k [])=(xs.getD k []).length):goodFrom pre (xs.drop k) k=goodFrom pre (xs.drop (k+1)) (k+1):=by
 have e:xs.drop k=xs.getD k [] :: xs.drop (k+1):=by
  rw [List.drop_eq_getElem_cons hk]; simp [List.getD,List.getElem?_eq_getElem hk]
 rw [e]; exact goodFrom_yes h1 h2
theorem goodFrom_stop {pre:Bool} {xs:List (List UInt8)} {k:Nat} (hk:k<xs.length) (h:fault (xs.getD k []) k pre≠0∨lead (xs.getD k [])≠(xs.getD k []).length):goodFrom pre (xs.drop k) k=false:=by
 have e:xs.drop k=xs.getD k [] :: xs.drop (k+1):=by
  rw [List.drop_eq_getElem_cons hk]; simp [List.getD,List.getElem?_eq_getElem hk]
 rw [e]; exact goodFrom_no h
end Go.Proofs.YtnpjklaaokiikaaGreatDoor.Ident
namespace Go.Proofs.YtnpjklaaokiikaaGreatDoor.Ident
open Go.RowKit Num

def digB (x:Int):Bool:=decide (48≤x∧x≤57)
def letB (x:Int):Bool:=decide ((65≤x∧x≤90)∨(97≤x∧x≤122))
theorem digB_yes {x:Int} (h:48≤x∧x≤57):digB x=true:=decide_eq_true h
theorem digB_no {x:Int} (h:¬ (48≤x∧x≤57)):digB x=false:=decide_eq_false h
theorem letB_yes {x:Int} (h:(65≤x∧x≤90)∨(97≤x∧x≤122)):letB x=true:=decide_eq_true h
theorem letB_no {x:Int} (h:¬ ((65≤x∧x≤90)∨(97≤x∧x≤122))):letB x=false:=decide_eq_false h
theorem digB_at (b:UInt8):digB (b.toNat:Int)=isDig b:=by
 rw [Bool.eq_iff_iff,isDig_iff]; unfold digB; rw [decide_eq_true_eq]; omega
theorem letB_at (b:UInt8):letB (b.toNat:Int)=isLet b:=by
 rw [Bool.eq_iff_iff,isLet_iff]; unfold letB; rw [decide_eq_true_eq]; omega
def idB (x:Int):Bool:=digB x || letB x || x == 45
theorem idB_at (b:UInt8):idB (b.toNat:Int)=isId b:=by
 unfold idB isId; rw [digB_at,letB_at]; congr 1; rw [Bool.eq_iff_iff]; simp; omega
theorem fault_5 {s:List UInt8} (i:Nat) (pre:Bool) (h:s.length=0):fault s i pre=5:=by unfold fault; rw [if_pos h]
theorem fault_4 {s:List UInt8} {i:Nat} (pre:Bool) (h0:s.length≠0) (h:255<s.length∨16≤i):fault s i pre=4:=by unfold fault; rw [if_neg h0,if_pos h]
theorem fault_3 {s:List UInt8} {i:Nat} {pre:Bool} (h0:s.length≠0) (h1:¬ (255<s.length∨16≤i)) (h:pre=true∧numeric s=true∧isNum s=false):fault s i pre=3:=by
 unfold fault; rw [if_neg h0,if_neg h1,if_pos h]
theorem fault_0 {s:List UInt8} {i:Nat} {pre:Bool} (h0:s.length≠0) (h1:¬ (255<s.length∨16≤i)) (h:¬ (pre=true∧numeric s=true∧isNum s=false)):fault s i pre=0:=by
 unfold fault; rw [if_neg h0,if_neg h1,if_neg h]
theorem empty_iff (s:ByteArray):s.toList.isEmpty=true↔s.size=0:=by
 rw [Lib.toList_data,List.isEmpty_iff_length_eq_zero,← Lib.size_eq]
theorem empty_no (s:ByteArray):s.toList.isEmpty=false↔s.size≠0:=by
 rw [← Bool.not_eq_true,empty_iff]
end Go.Proofs.YtnpjklaaokiikaaGreatDoor.Ident
