/-
  What the theorem of the last text needs of these: NumText, NumCmp, NumRefIs, NumZeros, SvMath, IdGoodMath, IdByte, IdJoin, SvMem, IdNumeric. Conditions: as each theorem states.
-/
import Derived.Test.YtgfbflnhjpbceaaGreatDoorSetB1
import Derived.Test.YtgfbflnhjpbceaaGreatDoorSetB2
import Derived.Test.YtgfbflnhjpbceaaGreatDoorShelf
import Derived.Lib.ItoaMem
import Derived.Lib.ItoaLen
import Derived.Lib.Join
set_option maxRecDepth 100000
set_option maxHeartbeats 25600000
namespace Go.Proofs.YtgfbflnhjpbceaaGreatDoor.Num
open Go.RowKit Go.Sort

def Tab (w:World):Prop:=Lib.TabIs Tryz.prog w "internal/strconv.uint64pow10" .u64 Lib.pow10Tab
theorem Tab.kept {w w':World} (h:Tab w) (hb:Below w.heap.size w w'):Tab w':=by
 unfold Tab Lib.TabIs World.var? at *
 cases hg:Tryz.prog.globalNamed "internal/strconv.uint64pow10" with
 | none=>simp [hg] at h
 | some g =>
  simp only [hg,Option.bind_some] at h ⊢
  have hlt:g<w.heap.size:=by
   rcases Nat.lt_or_ge g w.heap.size with h' | h'
   ·exact h'
   ·rw [Array.getElem?_eq_none h'] at h; simp at h
  rw [hb.block g hlt]
  exact h

theorem below_grow (w:World) (k:Nat) (os:Array Obj):Below w.heap.size w (grow (w.drewN k) os):=by
 refine ⟨rfl,rfl,rfl,?_,fun j hj=>?_⟩
 ·show w.heap.size≤(w.heap ++ os).size
  simp
 ·show (w.heap ++ os)[j]?=_
  rw [Array.getElem?_append_left hj]

theorem holds_zero0 (w:World) (T:TypeId) (nd:Nat) (hs:nd≤24):Holds (fun (b:UInt8)=>Value.int .u8 b.toNat) (w.alloc (.cells Lib.zeros24 T)) w.heap.size 0 (Array.replicate nd (0:UInt8)):=fun j hj=>by
 have hj':j<nd:=by simpa using hj
 refine ⟨?_,World.frozen?_alloc_new _ _ _ _⟩
 rw [World.cell?_alloc_new,Lib.zeros24_at _ (by omega),getElem!_pos _ j hj]
 simp

theorem fmt_any (u:Nat) (h:u<18446744073709551616) (w:World) (htab:Tab w) :
  Calls Tryz.prog 163 #[.int .u64 u,.int .i64 10] w fun e w'=>e=.returned (.string ⟨(Lib.decDigits u).toArray⟩)∧Below w.heap.size w w':=by
 have HU:=Lib.hid h; clear h
 by_cases hs:u<100
 ·go_enter Tryz.func163,Tryz.ntmps163
  go_wp2_with fail
  refine (Tryz.internal_strconv_small u hs _).mono ?_
  rintro e w' ⟨rfl,rfl⟩
  go_wp2
  go_ret
  exact ⟨rfl,Below.refl _ _⟩
 ·have hu1:1≤u:=by omega
  have hnd:=Lib.nDigits_le20 u HU.out
  have hal:Tryz.prog.arrayLen 188=24:=by simp [Program.arrayLen,Tryz.underlying188]
  have hsl:∀ W,(Instr.sliceAt 188 (.pointer (some ⟨w.heap.size,0,none⟩)) none (some (.int .i64 (Lib.nDigits u))) none).run Tryz.prog W=.ok (.slice (some ⟨w.heap.size,0,none⟩) (Lib.nDigits u) 24) W:=fun W=>by
   rw [run_sliceAt_array_h W 188 ⟨w.heap.size,0,none⟩ (by simp [Program.arrayLen,Program.elem,Tryz.underlying188]) .i64 (Lib.nDigits u:Int) (by omega) (by rw [hal]; omega)]
   go_simp
  have hH0:=holds_zero0 w 188 (Lib.nDigits u) (by omega)
  have hfmt:=Tryz.internal_strconv_formatBase10 w.heap.size 0 24 u (Array.replicate (Lib.nDigits u) 0) (w.alloc (.cells Lib.zeros24 188)) hH0 (by rw [Array.size_replicate]; exact Lib.lt_pow_nDigits u) HU.out (by rw [Array.size_replicate]; omega)
  rw [Array.size_replicate] at hfmt
  have HH0:=Lib.hid hH0
  have HFMT:=Lib.hid hfmt
  have HT:=Lib.hid htab
  clear hH0 hal hfmt htab
  go_enter Tryz.func163,Tryz.ntmps163
  go_wp2_with fail
  refine (Tryz.internal_strconv_numDigits u hu1 HU.out _ (Lib.tabIs_alloc HT.out _)).mono ?_
  rintro e w' ⟨rfl,rfl⟩
  go_wp2_with fail
  refine HFMT.out.mono ?_
  rintro e w' ⟨rfl,k,v',dk,rfl,hF⟩
  have hcv:(convert 68 9 (.slice (some ⟨w.heap.size,0,none⟩) (Lib.nDigits u) 24)).run Tryz.prog ((putRow (fun (b:UInt8)=>Value.int .u8 b.toNat) (w.alloc (.cells Lib.zeros24 188)) w.heap.size 0 dk).drewN k)=.ok (.string ⟨(Lib.decDigits u).toArray⟩) ((putRow (fun (b:UInt8)=>Value.int .u8 b.toNat) (w.alloc (.cells Lib.zeros24 188)) w.heap.size 0 dk).drewN k):=by
   have h:=run_convert_bytes_back (P:=Tryz.prog) ((putRow (fun (b:UInt8)=>Value.int .u8 b.toNat) (w.alloc (.cells Lib.zeros24 188)) w.heap.size 0 dk).drewN k) 68 9 5 ⟨w.heap.size,0,none⟩ 24 (Lib.decDigits u) Tryz.underlying68 Tryz.underlying5 Tryz.underlying9 (fun j hj=>by
    rw [Lib.row_is_numeral hF j hj,Lib.add_plain,World.cell?_drewN]
    exact cell?_putRow (fun (b:UInt8)=>Value.int .u8 b.toNat) _ w.heap.size 0 _ dk HH0.out (by rw [hF.size,Array.size_replicate]) j (by rw [hF.size]; rw [Lib.decDigits_length] at hj; exact hj))
   rw [Lib.decDigits_length] at h
   exact h
  have HB:Hid (Below w.heap.size w ((putRow (fun (b:UInt8)=>Value.int .u8 b.toNat) (w.alloc (.cells Lib.zeros24 188)) w.heap.size 0 dk).drewN k)):=by
   obtain ⟨os',_,e⟩:=putRow_grow_new (fun (b:UInt8)=>Value.int .u8 b.toNat) w #[.cells Lib.zeros24 188] w.heap.size 0 dk (Nat.le_refl _)
   unfold Hid
   rw [alloc_eq_grow,e]
   exact below_grow w k os'
  generalize (putRow (fun (b:UInt8)=>Value.int .u8 b.toNat) (w.alloc (.cells Lib.zeros24 188)) w.heap.size 0 dk).drewN k=W at hcv HB ⊢
  go_wp2
  go_ret
  exact ⟨rfl,HB.out⟩

theorem format_any (u:Nat) (h:u<18446744073709551616) (w:World) (htab:Tab w) :
  Calls Tryz.prog 145 #[.int .u64 u,.int .i64 10] w fun e w'=>e=.returned (.string ⟨(Lib.decDigits u).toArray⟩)∧Below w.heap.size w w':=by
 have HU:=Lib.hid h; clear h
 have HT:=Lib.hid htab; clear htab
 go_enter Tryz.func145,Tryz.ntmps145
 go_wp2_with fail
 refine (fmt_any u HU.out _ HT.out).mono ?_
 rintro e w1 ⟨rfl,hb1⟩
 go_wp2
 go_ret
 exact ⟨rfl,hb1⟩

theorem text_any (u:Nat) (h:u<18446744073709551616) (w:World) (htab:Tab w) :
  Calls Tryz.prog 117 #[.int .u64 u] w fun e w'=>e=.returned (.string ⟨(Lib.decDigits u).toArray⟩)∧Below w.heap.size w w':=by
 have HU:=Lib.hid h; clear h
 have HT:=Lib.hid htab; clear htab
 go_enter Tryz.func117,Tryz.ntmps117
 go_wp2_with fail
 refine (format_any u HU.out _ HT.out).mono ?_
 rintro e w1 ⟨rfl,hb1⟩
 go_wp2
 go_ret
 exact ⟨rfl,hb1⟩

theorem dec_all (u:Nat):AllDig (Lib.decDigits u):=by
 induction u using Nat.strongRecOn with
 | _ u ih =>
  rw [Lib.decDigits]
  split
  ·rename_i h
   intro b hb
   simp only [List.mem_singleton] at hb
   subst hb
   rw [isDig_iff,UInt8.toNat_ofNat']; omega
  ·rename_i h
   intro b hb
   rw [List.mem_append] at hb
   rcases hb with hb | hb
   ·exact ih (u / 10) (by omega) b hb
   ·simp only [List.mem_singleton] at hb
    subst hb
    rw [isDig_iff,UInt8.toNat_ofNat']; omega
theorem dec_val (u:Nat):val (Lib.decDigits u)=u:=by
 induction u using Nat.strongRecOn with
 | _ u ih =>
  rw [Lib.decDigits]
  split
  ·rename_i h
   rw [val_cons]
   simp [UInt8.toNat_ofNat',val,valFrom]; omega
  ·rename_i h
   rw [val_snoc,ih (u / 10) (by omega),UInt8.toNat_ofNat']; omega
theorem dec_pos (u:Nat):0<(Lib.decDigits u).length:=by rw [Lib.decDigits_length]; exact Lib.nDigits_pos u
theorem nd_le:∀ (k u:Nat),u<10 ^ k→1≤k→Lib.nDigits u≤k
 | 0,_,_,h=>by omega
 | k+1,u,h1,_=>by
  by_cases h:u<10
  ·rw [Lib.nDigits_small h]; omega
  ·rw [Lib.nDigits_big h]
   rw [Nat.pow_succ] at h1
   rcases Nat.eq_zero_or_pos k with h0 | h0
   ·subst h0; simp at h1; omega
   ·have:=nd_le k (u / 10) (by omega) h0
    omega
theorem dec_pad (u:Nat):pad (Lib.decDigits u)=false:=by
 rw [pad_no]
 rintro ⟨h1,h2⟩
 rw [Lib.decDigits_length] at h1
 have hv:=dec_val u
 have hl:=Lib.decDigits_length u
 cases hd:Lib.decDigits u with
 | nil=>rw [hd] at hl; simp at hl; omega
 | cons b r =>
  rw [hd] at hv h2 hl
  have ha:=dec_all u
  rw [hd,allDig_cons] at ha
  have hr:=val_lt ha.2
  have hb:b.toNat=48:=by simpa using h2
  rw [val_cons,hb] at hv
  simp at hv hl
  rw [hv] at hr
  have:=nd_le r.length u hr (by omega)
  omega
theorem dec_num (u:Nat):isNum (Lib.decDigits u)=true:=by
 rw [isNum_iff]
 exact ⟨dec_pos u,run_all (dec_all u),dec_pad u⟩
end Go.Proofs.YtgfbflnhjpbceaaGreatDoor.Num
namespace Go.Proofs.YtgfbflnhjpbceaaGreatDoor.Num
open Go.RowKit

theorem cmp_any (x y:Nat) (w:World) :
  Calls Tryz.prog 80 #[.int .i64 x,.int .i64 y] w fun e w'=>e=.returned (.int .i64 (ordN x y))∧w=w':=by
 rcases Nat.lt_trichotomy x y with h | h | h
 ·have HF:=Lib.hid (ordN_lt h)
  go_enter Tryz.func80,Tryz.ntmps80
  go_wp2
  go_ret
  exact ⟨by rw [HF.out]; rfl,rfl⟩
 ·have HF:=Lib.hid (ordN_eq h)
  subst h
  go_enter Tryz.func80,Tryz.ntmps80
  go_wp2
  go_ret
  exact ⟨by rw [HF.out]; rfl,rfl⟩
 ·have HF:=Lib.hid (ordN_gt h)
  go_enter Tryz.func80,Tryz.ntmps80
  go_wp2
  go_ret
  exact ⟨by rw [HF.out]; rfl,rfl⟩

theorem strcmp_any (s t:ByteArray) (w:World) :
  Calls Tryz.prog 180 #[.string s,.string t] w fun e w'=>e=.returned (.int .i64 (Lib.compareBytes s.data.toList t.data.toList))∧w=w':=by
 have hx:∀ W,(callFunc 200 #[.string s,.string t]).run Tryz.prog W=.ok (.value (.int .i64 (Lib.compareBytes s.data.toList t.data.toList))) W:=fun W=>by
  rw [run_callFunc_extern Tryz.func200 (by kernel_rfl) (by kernel_rfl) (by kernel_rfl) (e:=Extern.BytealgCompare.compare) (by kernel_rfl),Lib.run_compareString]
  rfl
 generalize Lib.compareBytes s.data.toList t.data.toList=r at hx ⊢
 go_enter Tryz.func180,Tryz.ntmps180
 go_wp2
 go_ret
 exact ⟨rfl,rfl⟩

theorem compare_anyD (s t:ByteArray) (w:World) (hs:s.size≤maxLen) (ht:t.size≤maxLen) :
  Calls Tryz.prog 189 #[.string s,.string t] w fun e w'=>e=.returned (.int .i64 (cmpNum s.data.toList t.data.toList))∧BelowD w.heap.size w w':=by
 have hs':=hs
 have ht':=ht
 unfold maxLen at hs' ht'
 have HS:=Lib.hid hs
 have HT:=Lib.hid ht
 clear hs ht
 have LS:=Lib.hid (Lib.size_eq s)
 have LT:=Lib.hid (Lib.size_eq t)
 cases ha:isNum s.data.toList
 ·have HF:=Lib.hid (cmpNum_no (b:=t.data.toList) (.inl ha))
  have HA:=Lib.hid ha; clear ha
  go_enter Tryz.func189,Tryz.ntmps189
  go_wp2_with fail
  refine (is_anyD s _ HS.out).mono ?_
  rintro e w1 ⟨rfl,hb1⟩
  rw [HA.out]
  go_wp2
  go_ret
  exact ⟨by rw [HF.out]; rfl,hb1⟩
 ·cases hb:isNum t.data.toList
  ·have HF:=Lib.hid (cmpNum_no (a:=s.data.toList) (.inr hb))
   have HA:=Lib.hid ha; clear ha
   have HB:=Lib.hid hb; clear hb
   go_enter Tryz.func189,Tryz.ntmps189
   go_wp2_with fail
   refine (is_anyD s _ HS.out).mono ?_
   rintro e w1 ⟨rfl,hb1⟩
   rw [HA.out]
   go_wp2_with fail
   refine (is_anyD t _ HT.out).mono ?_
   rintro e w2 ⟨rfl,hb2⟩
   rw [HB.out]
   have hz1:=hb1.size
   go_wp2
   go_ret
   exact ⟨by rw [HF.out]; rfl,hb1.trans (hb2.mono hz1)⟩
  ·have HF:=Lib.hid (cmpNum_yes ha hb)
   have HG:=Lib.hid (fun h=>ordN_lt (shorter ha hb h))
   have HG2:=Lib.hid (fun h=>ordN_gt (shorter hb ha h))
   have HG3:=Lib.hid (fun h=>alike_val ha hb h)
   have HA:=Lib.hid ha; clear ha
   have HB:=Lib.hid hb; clear hb
   go_enter Tryz.func189,Tryz.ntmps189
   go_wp2_with fail
   refine (is_anyD s _ HS.out).mono ?_
   rintro e w1 ⟨rfl,hb1⟩
   rw [HA.out]
   go_wp2_with fail
   refine (is_anyD t _ HT.out).mono ?_
   rintro e w2 ⟨rfl,hb2⟩
   rw [HB.out]
   have hz1:=hb1.size
   have HBB:=Lib.hid (hb1.trans (hb2.mono hz1))
   go_wp2_with fail
   refine (cmp_any _ _ _).mono ?_
   rintro e w' ⟨rfl,rfl⟩
   rcases Nat.lt_trichotomy s.size t.size with h | h | h
   ·rw [ordN_lt h]
    go_wp2
    go_ret
    exact ⟨by rw [HF.out,HG.out (by rw [← LS.out,← LT.out]; exact h)]; rfl,HBB.out⟩
   ·rw [ordN_eq h]
    have H:=Lib.hid h; clear h
    go_wp2_with fail
    refine (strcmp_any _ _ _).mono ?_
    rintro e w' ⟨rfl,rfl⟩
    go_wp2
    go_ret
    exact ⟨by rw [HF.out,← HG3.out (by rw [← LS.out,← LT.out]; exact H.out)]; rfl,HBB.out⟩
   ·rw [ordN_gt h]
    go_wp2
    go_ret
    exact ⟨by rw [HF.out,HG2.out (by rw [← LS.out,← LT.out]; exact h)]; rfl,HBB.out⟩
end Go.Proofs.YtgfbflnhjpbceaaGreatDoor.Num
namespace Go.Proofs.YtgfbflnhjpbceaaGreatDoor.Num
open Go.RowKit

theorem ref_is_any (s:ByteArray) (w:World) (hs:s.size≤1000000) :
  Calls Tryz.prog 121 #[.string s] w fun e w'=>e=.returned (.bool (isNum s.data.toList))∧w=w':=by
 have LS:=Lib.hid (Lib.size_eq s)
 go_enter Tryz.func121,Tryz.ntmps121
 go_wp2
 go_loop [3] (fun t=>∃ k:Nat,k≤s.size∧t=.int .i64 k∧Hid (∀ j,j<k→isDig (s.data.toList.getD j 0)=true)) (fun t=>s.size - (intOf t).toNat)
 case atStart=>exact ⟨0,by omega,rfl,fun j h=>by omega⟩
 case round =>
  obtain ⟨k,hk,rfl,HD⟩:=hrel
  by_cases hlt:k<s.size
  ·have HX:=Lib.hid (at_text s k hlt)
   have HI:=Lib.hid (isDig_at s.data.toList k)
   have HN:Hid (¬ (48≤(s[k].toNat:Int)∧(s[k].toNat:Int)≤57)→isNum s.data.toList=false):=fun hn=>(isNum_no _).2 fun hh=>hn (by
    have:=run_dig s.data.toList k (by rw [hh.2.1,← LS.out]; exact hlt)
    rw [HI.out,← HX.out] at this; exact this)
   by_cases h1:48≤(s[k].toNat:Int)
   ·by_cases h2:(s[k].toNat:Int)≤57
    ·go_wp2
     go_round
     case rel =>
      refine ⟨k+1,by omega,by go_num,fun j hj=>?_⟩
      rcases Nat.lt_or_ge j k with hj1 | hj1
      ·exact HD.out j hj1
      ·obtain rfl:j=k:=by omega
       exact HI.out.2 (by rw [← HX.out]; exact ⟨h1,h2⟩)
     case measure=>simp [intOf]; omega
    ·go_wp2
     go_ret
     exact ⟨by rw [HN.out (by omega)]; rfl,rfl⟩
   ·go_wp2
    go_ret
    exact ⟨by rw [HN.out (by omega)]; rfl,rfl⟩
  ·obtain rfl:k=s.size:=by omega
   have HR:Hid (run s.data.toList=s.data.toList.length):=run_stop _ _ (Nat.le_refl _) (by rw [← LS.out]; exact HD.out) (.inl rfl)
   by_cases hz:s.toList=[48]
   ·have hb:(s.toList == [48])=true:=by rw [hz]; rfl
    have HF:Hid (isNum s.data.toList=true):=by
     rw [Lib.toList_data] at hz
     unfold Hid; rw [hz]; decide
    have HZ:=Lib.hid hz; clear hz
    go_wp2
    go_ret
    exact ⟨by rw [HF.out]; rfl,rfl⟩
   ·have hb:(s.toList == [48])=false:=by simpa using hz
    by_cases h0:s.size=0
    ·have hem:s.toList.isEmpty=true:=by rw [Lib.toList_data,List.isEmpty_iff_length_eq_zero,← LS.out]; exact h0
     have hem2:(!s.toList.isEmpty)=false:=by rw [hem]; rfl
     have HF:Hid (isNum s.data.toList=false):=(isNum_no _).2 fun hh=>by have:=hh.1; rw [← LS.out] at this; omega
     have H0:=Lib.hid h0; clear h0
     go_wp2
     go_ret
     exact ⟨by rw [HF.out]; rfl,rfl⟩
    ·have hem:s.toList.isEmpty=false:=by rw [Lib.toList_data,← Bool.not_eq_true,List.isEmpty_iff_length_eq_zero,← LS.out]; exact h0
     have hem2:(!s.toList.isEmpty)=true:=by rw [hem]; rfl
     have HP:Hid (∀ h:0<s.size,isNum s.data.toList=((s[0].toNat:Int) != 48)):=by
      intro h
      have e:=at_text s 0 h
      rw [Bool.eq_iff_iff,isNum_iff,bne_iff_ne,pad_no,HR.out]
      unfold byteAt at e
      rw [e]
      constructor
      ·rintro ⟨_,_,hp⟩ h48
       have h48':(s.data.toList.getD 0 0).toNat=48:=by omega
       by_cases h1:1<s.data.toList.length
       ·exact hp ⟨h1,h48'⟩
       ·apply hz
        rw [Lib.toList_data]
        have hl:s.data.toList.length=1:=by have:=LS.out; omega
        obtain ⟨b,hb1⟩:=List.length_eq_one_iff.1 hl
        rw [hb1] at h48' ⊢
        have:b=48:=UInt8.toNat_inj.1 (by simpa using h48')
        rw [this]
      ·intro h48
       exact ⟨by have:=LS.out; omega,rfl,fun hh=>h48 (by have:=hh.2; omega)⟩
     have HZ:=Lib.hid hz; clear hz
     go_wp2
     go_ret
     exact ⟨by rw [HP.out (by omega)]; rfl,rfl⟩
end Go.Proofs.YtgfbflnhjpbceaaGreatDoor.Num
namespace Go.Proofs.YtgfbflnhjpbceaaGreatDoor.Num
open Go.RowKit

def strSize:Value→Nat
 | .string s=>s.size
 | _=>0
def Zeros (l:List UInt8) (t:ByteArray):Prop:=∃ z,t.data.toList=List.replicate z 48 ++ l
theorem zero_size (s:ByteArray):((⟨#[48]⟩:ByteArray) ++ s).size=s.size+1:=by
 rw [ByteArray.size_append]; show 1+s.size=_; omega
theorem zero_ahead {l:List UInt8} {s:ByteArray} (h:Zeros l s):Zeros l ((⟨#[48]⟩:ByteArray) ++ s):=by
 obtain ⟨z,hz⟩:=h
 refine ⟨z+1,?_⟩
 rw [ByteArray.data_append,Array.toList_append,hz,List.replicate_succ]
 rfl
theorem zeros_val (z:Nat) (l:List UInt8):val (List.replicate z 48 ++ l)=val l:=by
 induction z with
 | zero=>rfl
 | succ z ih =>
  rw [List.replicate_succ,List.cons_append,val_cons,ih]
  simp
theorem zeros_dig (z:Nat) {l:List UInt8} (h:AllDig l):AllDig (List.replicate z 48 ++ l):=by
 intro b hb
 rw [List.mem_append] at hb
 rcases hb with hb | hb
 ·rw [List.eq_of_mem_replicate hb]; decide
 ·exact h b hb

theorem zeros_less {l r:List UInt8} {s t:ByteArray} (hl:AllDig l) (hr:AllDig r) (hs:Zeros l s) (ht:Zeros r t) (h:s.size=t.size):(Op.bytesLess s.toList t.toList=true↔val l<val r):=by
 obtain ⟨y,hy⟩:=hs
 obtain ⟨z,hz⟩:=ht
 rw [Lib.size_eq,Lib.size_eq,hy,hz] at h
 rw [Lib.toList_data,Lib.toList_data,hy,hz,less_val _ _ (zeros_dig y hl) (zeros_dig z hr) h,zeros_val,zeros_val]
theorem zeros_eq {l r:List UInt8} {s t:ByteArray} (hl:AllDig l) (hr:AllDig r) (hs:Zeros l s) (ht:Zeros r t) (h:s.size=t.size):((s.toList == t.toList)=true↔val l=val r):=by
 obtain ⟨y,hy⟩:=hs
 obtain ⟨z,hz⟩:=ht
 rw [Lib.size_eq,Lib.size_eq,hy,hz] at h
 rw [Lib.toList_data,Lib.toList_data,hy,hz,beq_iff_eq]
 constructor
 ·intro e
  have:=congrArg val e
  rwa [zeros_val,zeros_val] at this
 ·intro e
  exact val_inj _ _ (zeros_dig y hl) (zeros_dig z hr) h (by rw [zeros_val,zeros_val]; exact e)
end Go.Proofs.YtgfbflnhjpbceaaGreatDoor.Num
namespace Go.Proofs.YtgfbflnhjpbceaaGreatDoor.Semver
open Num Ident

structure Ver where
 a:Nat
 b:Nat
 c:Nat
 pre:List (List UInt8)
 build:List (List UInt8)
deriving DecidableEq
def noVer:Ver:=⟨0,0,0,[],[]⟩
def point (l:List UInt8) (q:Nat):Nat:=if q=l.length then 2 else if byteAt l q≠46 then 3 else 0
abbrev Core:=Nat × Nat × Nat × Nat × Nat
def core2 (l:List UInt8) (x y p:Nat):Core:=if (parse l p).2.2≠0 then ((parse l p).2.2,p,0,0,0) else (0,p+(parse l p).2.1,x,y,(parse l p).1)
def after2 (l:List UInt8) (x y q:Nat):Core:=if point l q≠0 then (point l q,q,0,0,0) else core2 l x y (q+1)
def core1 (l:List UInt8) (x p:Nat):Core:=if (parse l p).2.2≠0 then ((parse l p).2.2,p,0,0,0) else after2 l x (parse l p).1 (p+(parse l p).2.1)
def after1 (l:List UInt8) (x q:Nat):Core:=if point l q≠0 then (point l q,q,0,0,0) else core1 l x (q+1)
def core (l:List UInt8) (p:Nat):Core:=if (parse l p).2.2≠0 then ((parse l p).2.2,p,0,0,0) else after1 l (parse l p).1 (p+(parse l p).2.1)
def rowAt (l:List UInt8) (p m:Nat):Res :=
 if p=l.length∨byteAt l p≠(m:Int) then (0,p,[]) else ((row l ((p+1:Nat):Int) (m == 45)).1,p+1+(row l ((p+1:Nat):Int) (m == 45)).2.1,(row l ((p+1:Nat):Int) (m == 45)).2.2)
abbrev Out:=Nat × Nat × Ver
def tail2 (l:List UInt8) (x y z:Nat) (pre:List (List UInt8)) (q:Nat):Out :=
 if (rowAt l q 43).1≠0 then ((rowAt l q 43).1,(rowAt l q 43).2.1,noVer) else (0,(rowAt l q 43).2.1,⟨x,y,z,pre,(rowAt l q 43).2.2⟩)
def tail1 (l:List UInt8) (x y z q:Nat):Out :=
 if (rowAt l q 45).1≠0 then ((rowAt l q 45).1,(rowAt l q 45).2.1,noVer) else tail2 l x y z (rowAt l q 45).2.2 (rowAt l q 45).2.1
def inside (l:List UInt8) (p:Nat):Out :=
 if (core l p).1≠0 then ((core l p).1,(core l p).2.1,noVer) else tail1 l (core l p).2.2.1 (core l p).2.2.2.1 (core l p).2.2.2.2 (core l p).2.1
def vparse (l:List UInt8) (p:Int):Out:=if p<0∨(l.length:Int)<p then (1,0,noVer) else inside l p.toNat

theorem point_lt {l:List UInt8} {q:Nat} (hq:q≤l.length) (h:point l q=0):q<l.length:=by
 unfold point at h
 split at h
 ·omega
 ·omega
theorem point_end {l:List UInt8} {q:Nat} (h:q=l.length):point l q=2:=by unfold point; rw [if_pos h]
theorem point_no {l:List UInt8} {q:Nat} (h:q≠l.length) (h2:byteAt l q≠46):point l q=3:=by unfold point; rw [if_neg h,if_pos h2]
theorem point_yes {l:List UInt8} {q:Nat} (h:q≠l.length) (h2:byteAt l q=46):point l q=0:=by unfold point; rw [if_neg h,if_neg (by simp [h2])]

theorem core2_end (l:List UInt8) (x y p:Nat) (hp:p≤l.length):(core2 l x y p).2.1≤l.length:=by
 unfold core2; split
 ·exact hp
 ·exact parse_end l p hp
theorem after2_end (l:List UInt8) (x y q:Nat) (hq:q≤l.length):(after2 l x y q).2.1≤l.length:=by
 unfold after2; split
 ·exact hq
 ·rename_i h; exact core2_end l x y _ (point_lt hq (by simpa using h))
theorem core1_end (l:List UInt8) (x p:Nat) (hp:p≤l.length):(core1 l x p).2.1≤l.length:=by
 unfold core1; split
 ·exact hp
 ·exact after2_end l x _ _ (parse_end l p hp)
theorem after1_end (l:List UInt8) (x q:Nat) (hq:q≤l.length):(after1 l x q).2.1≤l.length:=by
 unfold after1; split
 ·exact hq
 ·rename_i h; exact core1_end l x _ (point_lt hq (by simpa using h))
theorem core_end (l:List UInt8) (p:Nat) (hp:p≤l.length):(core l p).2.1≤l.length:=by
 unfold core; split
 ·exact hp
 ·exact after1_end l _ _ (parse_end l p hp)

theorem rowAt_end (l:List UInt8) (p m:Nat) (hp:p≤l.length):(rowAt l p m).2.1≤l.length:=by
 unfold rowAt; split
 ·exact hp
 ·rename_i h
  have h1:p+1≤l.length:=by
   have:¬ p=l.length:=fun h2=>h (.inl h2)
   omega
  exact row_end l (p+1) _ h1
theorem rowAt_none {l:List UInt8} {p m:Nat} (h:p=l.length∨byteAt l p≠(m:Int)):rowAt l p m=(0,p,[]):=by unfold rowAt; rw [if_pos h]
theorem rowAt_some {l:List UInt8} {p m:Nat} (h1:p≠l.length) (h2:byteAt l p=(m:Int)):rowAt l p m=((row l ((p+1:Nat):Int) (m == 45)).1,p+1+(row l ((p+1:Nat):Int) (m == 45)).2.1,(row l ((p+1:Nat):Int) (m == 45)).2.2):=by
 unfold rowAt; rw [if_neg]; rintro (h | h)
 ·exact h1 h
 ·exact h h2
theorem inside_end (l:List UInt8) (p:Nat) (hp:p≤l.length):(inside l p).2.1≤l.length:=by
 unfold inside; split
 ·exact core_end l p hp
 ·have h1:=core_end l p hp
  unfold tail1; split
  ·exact rowAt_end _ _ _ h1
  ·have h2:=rowAt_end l _ 45 h1
   unfold tail2; split
   ·exact rowAt_end _ _ _ h2
   ·exact rowAt_end _ _ _ h2
theorem vparse_end (l:List UInt8) (p:Int):(vparse l p).2.1≤l.length:=by
 unfold vparse; split
 ·simp
 ·rename_i h; exact inside_end _ _ (by omega)

/-! What stands ahead of a place. -/
theorem byteAt_place (a b:List UInt8) (p:Nat):byteAt (a ++ b) (a.length+p)=byteAt b p:=by
 unfold byteAt List.getD
 rw [List.getElem?_append_right (by omega),show a.length+p - a.length=p by omega]
theorem point_place (a b:List UInt8) (q:Nat):point (a ++ b) (a.length+q)=point b q:=by
 unfold point
 rw [byteAt_place,List.length_append]
 by_cases h:q=b.length
 ·rw [if_pos (by omega),if_pos h]
 ·rw [if_neg (by omega),if_neg h]
def shift (n:Nat) (k:Core):Core:=(k.1,n+k.2.1,k.2.2)
theorem core2_place (a b:List UInt8) (x y p:Nat) (hp:p≤b.length):core2 (a ++ b) x y (a.length+p)=shift a.length (core2 b x y p):=by
 unfold core2
 rw [parse_place_at a b p hp]
 split
 ·rfl
 ·unfold shift; simp only [Nat.add_assoc]
theorem after2_place (a b:List UInt8) (x y q:Nat) (hq:q≤b.length):after2 (a ++ b) x y (a.length+q)=shift a.length (after2 b x y q):=by
 unfold after2
 rw [point_place]
 split
 ·rfl
 ·rename_i h
  exact core2_place a b x y (q+1) (point_lt hq (by simpa using h))
theorem core1_place (a b:List UInt8) (x p:Nat) (hp:p≤b.length):core1 (a ++ b) x (a.length+p)=shift a.length (core1 b x p):=by
 unfold core1
 rw [parse_place_at a b p hp]
 split
 ·rfl
 ·rw [Nat.add_assoc]; exact after2_place a b x _ _ (parse_end b p hp)
theorem after1_place (a b:List UInt8) (x q:Nat) (hq:q≤b.length):after1 (a ++ b) x (a.length+q)=shift a.length (after1 b x q):=by
 unfold after1
 rw [point_place]
 split
 ·rfl
 ·rename_i h
  exact core1_place a b x (q+1) (point_lt hq (by simpa using h))
theorem core_place (a b:List UInt8) (p:Nat) (hp:p≤b.length):core (a ++ b) (a.length+p)=shift a.length (core b p):=by
 unfold core
 rw [parse_place_at a b p hp]
 split
 ·rfl
 ·rw [Nat.add_assoc]; exact after1_place a b _ _ (parse_end b p hp)
theorem rowAt_place (a b:List UInt8) (p m:Nat) (hp:p≤b.length):rowAt (a ++ b) (a.length+p) m=((rowAt b p m).1,a.length+(rowAt b p m).2.1,(rowAt b p m).2.2):=by
 unfold rowAt
 rw [byteAt_place,List.length_append]
 by_cases h:p=b.length∨byteAt b p≠(m:Int)
 ·rw [if_pos (by rcases h with h | h; (· left; omega); (· right; exact h)),if_pos h]
 ·have h1:p+1≤b.length:=by
   have:¬ p=b.length:=fun h2=>h (.inl h2)
   omega
  rw [if_neg (by rintro (h2 | h2); (· exact h (.inl (by omega))); (· exact h (.inr h2))),if_neg h,Nat.add_assoc a.length p 1,row_place a b (p+1) _ h1]
  simp only [Nat.add_assoc]
def move (n:Nat) (r:Out):Out:=(r.1,n+r.2.1,r.2.2)
theorem inside_place (a b:List UInt8) (p:Nat) (hp:p≤b.length):inside (a ++ b) (a.length+p)=move a.length (inside b p):=by
 unfold inside
 rw [core_place a b p hp]
 have h1:=core_end b p hp
 unfold shift
 simp only
 split
 ·rfl
 ·unfold tail1
  rw [rowAt_place a b _ 45 h1]
  have h2:=rowAt_end b _ 45 h1
  simp only
  split
  ·rfl
  ·unfold tail2
   rw [rowAt_place a b _ 43 h2]
   simp only
   split <;> rfl
theorem vparse_place (a b:List UInt8):vparse (a ++ b) a.length=move a.length (vparse b 0):=by
 unfold vparse
 rw [if_neg (by simp only [List.length_append]; omega),if_neg (by omega),Int.toNat_natCast]
 exact inside_place a b 0 (Nat.zero_le _)
end Go.Proofs.YtgfbflnhjpbceaaGreatDoor.Semver
namespace Go.Proofs.YtgfbflnhjpbceaaGreatDoor.Ident
open Go.RowKit Num

def goodFrom (pre:Bool):List (List UInt8)→Nat→Bool
 | [],_=>true
 | x :: r,i=>fault x i pre == 0 && lead x == x.length && goodFrom pre r (i+1)
theorem goodFrom_yes {pre:Bool} {x:List UInt8} {r:List (List UInt8)} {i:Nat} (h1:fault x i pre=0) (h2:lead x=x.length):goodFrom pre (x :: r) i=goodFrom pre r (i+1):=by
 rw [goodFrom]; simp [h1,h2]
theorem goodFrom_no {pre:Bool} {x:List UInt8} {r:List (List UInt8)} {i:Nat} (h:fault x i pre≠0∨lead x≠x.length):goodFrom pre (x :: r) i=false:=by
 rw [goodFrom]
 rcases h with h | h
 ·rw [beq_eq_false_iff_ne.2 h]; rfl
 ·rw [beq_eq_false_iff_ne.2 h]; simp
theorem goodFrom_step {pre:Bool} {xs:List (List UInt8)} {k:Nat} (hk:k<xs.length) (h1:fault (xs.getD k []) k pre=0) (h2:lead (xs.getD k [])=(xs.getD k []).length):goodFrom pre (xs.drop k) k=goodFrom pre (xs.drop (k+1)) (k+1):=by
 have e:xs.drop k=xs.getD k [] :: xs.drop (k+1):=by
  rw [List.drop_eq_getElem_cons hk]; simp [List.getD,List.getElem?_eq_getElem hk]
 rw [e]; exact goodFrom_yes h1 h2
theorem goodFrom_stop {pre:Bool} {xs:List (List UInt8)} {k:Nat} (hk:k<xs.length) (h:fault (xs.getD k []) k pre≠0∨lead (xs.getD k [])≠(xs.getD k []).length):goodFrom pre (xs.drop k) k=false:=by
 have e:xs.drop k=xs.getD k [] :: xs.drop (k+1):=by
  rw [List.drop_eq_getElem_cons hk]; simp [List.getD,List.getElem?_eq_getElem hk]
 rw [e]; exact goodFrom_no h
end Go.Proofs.YtgfbflnhjpbceaaGreatDoor.Ident
namespace Go.Proofs.YtgfbflnhjpbceaaGreatDoor.Ident
open Go.RowKit Num

def digB (x:Int):Bool:=decide (48≤x∧x≤57)
def letB (x:Int):Bool:=decide ((65≤x∧x≤90)∨(97≤x∧x≤122))
theorem digB_yes {x:Int} (h:48≤x∧x≤57):digB x=true:=decide_eq_true h
theorem digB_no {x:Int} (h:¬ (48≤x∧x≤57)):digB x=false:=decide_eq_false h
theorem letB_yes {x:Int} (h:(65≤x∧x≤90)∨(97≤x∧x≤122)):letB x=true:=decide_eq_true h
theorem letB_no {x:Int} (h:¬ ((65≤x∧x≤90)∨(97≤x∧x≤122))):letB x=false:=decide_eq_false h
theorem digB_at (b:UInt8):digB (b.toNat:Int)=isDig b:=by
 rw [Bool.eq_iff_iff,isDig_iff]; unfold digB; rw [decide_eq_true_eq]; omega
theorem letB_at (b:UInt8):letB (b.toNat:Int)=isLet b:=by
 rw [Bool.eq_iff_iff,isLet_iff]; unfold letB; rw [decide_eq_true_eq]; omega
def idB (x:Int):Bool:=digB x || letB x || x == 45
theorem idB_at (b:UInt8):idB (b.toNat:Int)=isId b:=by
 unfold idB isId; rw [digB_at,letB_at]; congr 1; rw [Bool.eq_iff_iff]; simp; omega
theorem fault_5 {s:List UInt8} (i:Nat) (pre:Bool) (h:s.length=0):fault s i pre=5:=by unfold fault; rw [if_pos h]
theorem fault_4 {s:List UInt8} {i:Nat} (pre:Bool) (h0:s.length≠0) (h:255<s.length∨16≤i):fault s i pre=4:=by unfold fault; rw [if_neg h0,if_pos h]
theorem fault_3 {s:List UInt8} {i:Nat} {pre:Bool} (h0:s.length≠0) (h1:¬ (255<s.length∨16≤i)) (h:pre=true∧numeric s=true∧isNum s=false):fault s i pre=3:=by
 unfold fault; rw [if_neg h0,if_neg h1,if_pos h]
theorem fault_0 {s:List UInt8} {i:Nat} {pre:Bool} (h0:s.length≠0) (h1:¬ (255<s.length∨16≤i)) (h:¬ (pre=true∧numeric s=true∧isNum s=false)):fault s i pre=0:=by
 unfold fault; rw [if_neg h0,if_neg h1,if_neg h]
theorem empty_iff (s:ByteArray):s.toList.isEmpty=true↔s.size=0:=by
 rw [Lib.toList_data,List.isEmpty_iff_length_eq_zero,← Lib.size_eq]
theorem empty_no (s:ByteArray):s.toList.isEmpty=false↔s.size≠0:=by
 rw [← Bool.not_eq_true,empty_iff]
end Go.Proofs.YtgfbflnhjpbceaaGreatDoor.Ident
namespace Go.Proofs.YtgfbflnhjpbceaaGreatDoor.Ident
open Go.RowKit Num

def joined (xs:List (List UInt8)):List UInt8:=Lib.join xs [46]
theorem joinTail_snoc (r:List (List UInt8)) (x:List UInt8):Lib.joinTail [46] (r ++ [x])=Lib.joinTail [46] r ++ ([46] ++ x):=by
 simp [Lib.joinTail]
theorem joined_nil:joined []=[]:=rfl
theorem joined_one (x:List UInt8):joined [x]=x:=Lib.join_one x [46]
theorem joined_cons (x y:List UInt8) (r:List (List UInt8)):joined (x :: y :: r)=x ++ 46 :: joined (y :: r):=by
 unfold joined
 rw [Lib.join_cons,Lib.join_cons]; simp [Lib.joinTail]
theorem joined_snoc (xs:List (List UInt8)) (x:List UInt8) (h:xs≠[]):joined (xs ++ [x])=joined xs ++ [46] ++ x:=by
 cases xs with
 | nil=>exact absurd rfl h
 | cons a r =>
  unfold joined
  rw [List.cons_append,Lib.join_cons,Lib.join_cons,joinTail_snoc]; simp
theorem joined_le:∀ (xs:List (List UInt8)),(∀ x ∈ xs,x.length≤300)→(joined xs).length≤301 * xs.length
 | [],_=>by simp [joined_nil]
 | [x],h=>by rw [joined_one]; have:=h x (by simp); simp; omega
 | x :: y :: r,h=>by
  rw [joined_cons]
  have h1:=h x (by simp)
  have h2:=joined_le (y :: r) (fun z hz=>h z (by simp [hz]))
  simp only [List.length_append,List.length_cons] at h2 ⊢
  omega
theorem mk_cat (t x:List UInt8):mk t ++ mk x=mk (t ++ x):=by
 have:(mk t ++ mk x).data.toList=t ++ x:=by
  rw [ByteArray.data_append,Array.toList_append]; rfl
 rw [← this]; rfl
end Go.Proofs.YtgfbflnhjpbceaaGreatDoor.Ident
namespace Go.Proofs.YtgfbflnhjpbceaaGreatDoor.Semver
open Go.RowKit Num Ident

def At7 (W:World) (b:Nat) (u0 u1 u2 u3 u4 u5 u6:Value):Prop:=b<W.heap.size∧(∀ o,W.frozen? ⟨b,o,none⟩=false)∧W.cell? ⟨b,0,none⟩=some u0∧W.cell? ⟨b,1,none⟩=some u1∧W.cell? ⟨b,2,none⟩=some u2∧W.cell? ⟨b,3,none⟩=some u3∧W.cell? ⟨b,4,none⟩=some u4∧W.cell? ⟨b,5,none⟩=some u5∧W.cell? ⟨b,6,none⟩=some u6
theorem At7.new (w:World) (t:TypeId) (u0 u1 u2 u3 u4 u5 u6:Value):At7 (w.alloc (.cells #[u0,u1,u2,u3,u4,u5,u6] t)) w.heap.size u0 u1 u2 u3 u4 u5 u6:=by
 unfold At7
 refine ⟨by simp,fun o=>by simp [go_sem],?_,?_,?_,?_,?_,?_,?_⟩ <;> simp [go_sem]
theorem At7.kept {W W':World} {b B:Nat} {u0 u1 u2 u3 u4 u5 u6:Value} (h:At7 W b u0 u1 u2 u3 u4 u5 u6) (hb:Below B W W') (hB:b<B):At7 W' b u0 u1 u2 u3 u4 u5 u6:=by
 obtain ⟨h1,h2,c0,c1,c2,c3,c4,c5,c6⟩:=h
 exact ⟨Nat.lt_of_lt_of_le h1 hb.size,fun o=>(hb.frozen (p:=⟨b,o,none⟩) hB).trans (h2 o),(hb.cell (p:=⟨b,0,none⟩) hB).trans c0,(hb.cell (p:=⟨b,1,none⟩) hB).trans c1,(hb.cell (p:=⟨b,2,none⟩) hB).trans c2,(hb.cell (p:=⟨b,3,none⟩) hB).trans c3,(hb.cell (p:=⟨b,4,none⟩) hB).trans c4,(hb.cell (p:=⟨b,5,none⟩) hB).trans c5,(hb.cell (p:=⟨b,6,none⟩) hB).trans c6⟩
theorem set7 {w:World} {A:Option Addr} {n:Nat} {xs:List (List UInt8)} (h:SRow w A n xs) {b:Nat} {u0 u1 u2 u3 u4 u5 u6:Value} (k:At7 w b u0 u1 u2 u3 u4 u5 u6)
  (s0:∀ s,u0≠.string s) (s1:∀ s,u1≠.string s) (s2:∀ s,u2≠.string s) (s3:∀ s,u3≠.string s) (s4:∀ s,u4≠.string s) (s5:∀ s,u5≠.string s) (s6:∀ s,u6≠.string s) (v0 v1 v2 v3 v4 v5 v6:Value) :
  SRow (((((((w.setCell ⟨b,0,none⟩ v0).setCell ⟨b,1,none⟩ v1).setCell ⟨b,2,none⟩ v2).setCell ⟨b,3,none⟩ v3).setCell ⟨b,4,none⟩ v4).setCell ⟨b,5,none⟩ v5).setCell ⟨b,6,none⟩ v6) A n xs:=by
 obtain ⟨_,_,c0,c1,c2,c3,c4,c5,c6⟩:=k
 refine SRow.set (SRow.set (SRow.set (SRow.set (SRow.set (SRow.set (SRow.set h c0 s0 v0) (u:=u1) ?_ s1 v1) (u:=u2) ?_ s2 v2) (u:=u3) ?_ s3 v3) (u:=u4) ?_ s4 v4) (u:=u5) ?_ s5 v5) (u:=u6) ?_ s6 v6
 ·exact (cell_beside _ _ _ _ _ (by omega)).trans (c1)
 ·exact (cell_beside _ _ _ _ _ (by omega)).trans ((cell_beside _ _ _ _ _ (by omega)).trans (c2))
 ·exact (cell_beside _ _ _ _ _ (by omega)).trans ((cell_beside _ _ _ _ _ (by omega)).trans ((cell_beside _ _ _ _ _ (by omega)).trans (c3)))
 ·exact (cell_beside _ _ _ _ _ (by omega)).trans ((cell_beside _ _ _ _ _ (by omega)).trans ((cell_beside _ _ _ _ _ (by omega)).trans ((cell_beside _ _ _ _ _ (by omega)).trans (c4))))
 ·exact (cell_beside _ _ _ _ _ (by omega)).trans ((cell_beside _ _ _ _ _ (by omega)).trans ((cell_beside _ _ _ _ _ (by omega)).trans ((cell_beside _ _ _ _ _ (by omega)).trans ((cell_beside _ _ _ _ _ (by omega)).trans (c5)))))
 ·exact (cell_beside _ _ _ _ _ (by omega)).trans ((cell_beside _ _ _ _ _ (by omega)).trans ((cell_beside _ _ _ _ _ (by omega)).trans ((cell_beside _ _ _ _ _ (by omega)).trans ((cell_beside _ _ _ _ _ (by omega)).trans ((cell_beside _ _ _ _ _ (by omega)).trans (c6))))))

theorem At3.set1 {W:World} {b:Nat} {x y z:Value} (h:At3 W b x y z) (v:Value):At3 (W.setCell ⟨b,1,none⟩ v) b x v z:=by
 obtain ⟨h1,h2,c0,c1,c2⟩:=h
 refine ⟨by simpa using h1,fun o=>by simp [go_sem,h2],?_,?_,?_⟩ <;> simp [go_sem,c0,c1,c2]
theorem At3.set2 {W:World} {b:Nat} {x y z:Value} (h:At3 W b x y z) (v:Value):At3 (W.setCell ⟨b,2,none⟩ v) b x y v:=by
 obtain ⟨h1,h2,c0,c1,c2⟩:=h
 refine ⟨by simpa using h1,fun o=>by simp [go_sem,h2],?_,?_,?_⟩ <;> simp [go_sem,c0,c1,c2]


end Go.Proofs.YtgfbflnhjpbceaaGreatDoor.Semver
namespace Go.Proofs.YtgfbflnhjpbceaaGreatDoor.Ident
open Go.RowKit Num

theorem digit_any (x:Int) (w:World) (h0:0≤x) (h1:x≤255) :
  Calls Tryz.prog 128 #[.int .u8 x] w fun e w'=>e=.returned (.bool (digB x))∧w=w':=by
 by_cases ha:48≤x
 ·by_cases hb:x≤57
  ·have HF:=Lib.hid (digB_yes ⟨ha,hb⟩)
   go_enter Tryz.func128,Tryz.ntmps128
   go_wp2
   go_ret
   exact ⟨by rw [HF.out]; rfl,rfl⟩
  ·have HF:=Lib.hid (digB_no (x:=x) (by omega))
   go_enter Tryz.func128,Tryz.ntmps128
   go_wp2
   go_ret
   exact ⟨by rw [HF.out]; rfl,rfl⟩
 ·have HF:=Lib.hid (digB_no (x:=x) (by omega))
  go_enter Tryz.func128,Tryz.ntmps128
  go_wp2
  go_ret
  exact ⟨by rw [HF.out]; rfl,rfl⟩
def NumcJ (w:World) (s:ByteArray) (a':Act) (w':World):Prop :=
 w=w'∧∃ (k:Nat) (u4 u5 u6 u7 u8 u9 u10 u11 u12 u13 u14 u15 u16 u17 u18 u19 u20 u21 u22 u23:Value),k≤s.size∧(∀ j,j<k→isDig (s.data.toList.getD j 0)=true)∧a'={ tmps:=#[.string s,undef,.bool false,.int .i64 k,u4,u5,u6,u7,u8,u9,u10,u11,u12,u13,u14,u15,u16,u17,u18,u19,u20,u21,u22,u23],defers:=[] }
def NumcM (n:Nat) (a':Act) (_:World):Nat:=n - (intOf (a'.tmps.getD 3 undef)).toNat
theorem numeric_any (s:ByteArray) (w:World) (hs:s.size≤maxLen) :
  Calls Tryz.prog 126 #[.string s] w fun e w'=>e=.returned (.bool (numeric s.data.toList))∧w=w':=by
 unfold maxLen at hs
 have HL:=Lib.hid (Lib.size_eq s)
 go_enter Tryz.func126,Tryz.ntmps126
 go_wp2
 refine wp_scope_back 0 (NumcJ w s) (NumcM s.size) rfl ?_ ?_
 ·rintro a' w' ⟨rfl,k,u4,u5,u6,u7,u8,u9,u10,u11,u12,u13,u14,u15,u16,u17,u18,u19,u20,u21,u22,u23,hk,hd,rfl⟩
  have HD:=Lib.hid hd; clear hd
  by_cases hlt:k<s.size
  ·have hbd:=byteAt_bd s.data.toList k
   have HX:=Lib.hid (at_text s k hlt)
   have HI:Hid (isDig (s.data.toList.getD k 0)=digB (byteAt s.data.toList k)):=(digB_at _).symm
   rw [← HX.out] at hbd HI
   obtain ⟨hx0,hx1⟩:=hbd
   go_wp2_with fail
   refine (digit_any _ _ hx0 hx1).mono ?_
   rintro e w' ⟨rfl,rfl⟩
   cases h1:digB (s[k].toNat:Int)
   ·have HS:Hid (run s.data.toList=k):=run_stop _ k (by rw [← HL.out]; omega) HD.out (.inr (by rw [HI.out]; exact h1))
    have HF:Hid (numeric s.data.toList=false):=(numeric_no _).2 fun hh=>by rw [HS.out,← HL.out] at hh; omega
    have H1:=Lib.hid h1; clear h1
    have hne:((k:Int) == (s.size:Int))=false:=by simp; omega
    by_cases h0:0<k
    ·go_wp2
     simp only [Exit.jump]
     go_ret
     exact ⟨by rw [HF.out]; rfl,rfl⟩
    ·go_wp2
     simp only [Exit.jump]
     go_ret
     exact ⟨by rw [HF.out]; rfl,rfl⟩
   ·have HN:Hid (∀ j,j<k+1→isDig (s.data.toList.getD j 0)=true):=fun j hj=>by
     rcases Nat.lt_or_ge j k with hj1 | hj1
     ·exact HD.out j hj1
     ·obtain rfl:j=k:=by omega
      rw [HI.out]; exact h1
    have H1:=Lib.hid h1; clear h1
    go_wp2
    go_step3
    rw [show ((k:Int)+1)=((k+1:Nat):Int) from rfl]
    refine ⟨rfl,⟨rfl,k+1,_,_,_,_,_,_,_,_,_,_,_,_,_,_,_,_,_,_,_,_,by omega,HN.out,rfl⟩,?_⟩
    simp [NumcM,intOf]; omega
  ·obtain rfl:k=s.size:=by omega
   have HS:Hid (run s.data.toList=s.size):=run_stop _ s.size (by rw [← HL.out]; omega) HD.out (.inl HL.out)
   by_cases h0:0<s.size
   ·have HF:Hid (numeric s.data.toList=true):=(numeric_iff _).2 ⟨by rw [← HL.out]; exact h0,by rw [HS.out,HL.out]⟩
    go_wp2
    simp only [Exit.jump]
    go_ret
    exact ⟨by rw [HF.out]; rfl,rfl⟩
   ·have HF:Hid (numeric s.data.toList=false):=(numeric_no _).2 fun hh=>h0 (by rw [HL.out]; exact hh.1)
    go_wp2
    simp only [Exit.jump]
    go_ret
    exact ⟨by rw [HF.out]; rfl,rfl⟩
 ·intro HP
  go_wp2
  go_step3
  rename_i hK
  exact hK _ _ (HP.out _ _ ⟨rfl,0,_,_,_,_,_,_,_,_,_,_,_,_,_,_,_,_,_,_,_,_,by omega,(fun j hj=>by omega),rfl⟩)
end Go.Proofs.YtgfbflnhjpbceaaGreatDoor.Ident
