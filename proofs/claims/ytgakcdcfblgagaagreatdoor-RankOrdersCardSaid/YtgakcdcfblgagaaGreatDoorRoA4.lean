/-
  What the theorem of the last text needs of these: NumRefIs, NumZeros, NaWalk, SvMath, IdGoodMath, IdByte, IdJoin, SvMem, IdNumeric, IdRef, SvCame. Conditions: as each theorem states.
-/
import Derived.Test.YtgakcdcfblgagaaGreatDoorRoA1
import Derived.Test.YtgakcdcfblgagaaGreatDoorRoA2
import Derived.Test.YtgakcdcfblgagaaGreatDoorRoA3
import Derived.Lib.Join
import Derived.Deep.Fields
set_option maxRecDepth 100000
set_option maxHeartbeats 25600000
namespace Go.Proofs.YtgakcdcfblgagaaGreatDoor.Num
open Go.RowKit

theorem ref_is_any (s:ByteArray) (w:World) (hs:s.size≤1000000) :
  Calls Tryz.prog 185 #[.string s] w fun e w'=>e=.returned (.bool (isNum s.data.toList))∧w=w':=by
 have LS:=Lib.hid (Lib.size_eq s)
 go_enter Tryz.func185,Tryz.ntmps185
 go_wp2
 go_loop [3] (fun t=>∃ k:Nat,k≤s.size∧t=.int .i64 k∧Hid (∀ j,j<k→isDig (s.data.toList.getD j 0)=true)) (fun t=>s.size - (intOf t).toNat)
 case atStart=>exact ⟨0,by omega,rfl,fun j h=>by omega⟩
 case round =>
  obtain ⟨k,hk,rfl,HD⟩:=hrel
  by_cases hlt:k<s.size
  ·have HX:=Lib.hid (at_text s k hlt)
   have HI:=Lib.hid (isDig_at s.data.toList k)
   have HN:Hid (¬ (48≤(s[k].toNat:Int)∧(s[k].toNat:Int)≤57)→isNum s.data.toList=false):=fun hn=>(isNum_no _).2 fun hh=>hn (by
    have:=run_dig s.data.toList k (by rw [hh.2.1,← LS.out]; exact hlt)
    rw [HI.out,← HX.out] at this; exact this)
   by_cases h1:48≤(s[k].toNat:Int)
   ·by_cases h2:(s[k].toNat:Int)≤57
    ·go_wp2
     go_round
     case rel =>
      refine ⟨k+1,by omega,by go_num,fun j hj=>?_⟩
      rcases Nat.lt_or_ge j k with hj1 | hj1
      ·exact HD.out j hj1
      ·obtain rfl:j=k:=by omega
       exact HI.out.2 (by rw [← HX.out]; exact ⟨h1,h2⟩)
     case measure=>simp [intOf]; omega
    ·go_wp2
     go_ret
     exact ⟨by rw [HN.out (by omega)]; rfl,rfl⟩
   ·go_wp2
    go_ret
    exact ⟨by rw [HN.out (by omega)]; rfl,rfl⟩
  ·obtain rfl:k=s.size:=by omega
   have HR:Hid (run s.data.toList=s.data.toList.length):=run_stop _ _ (Nat.le_refl _) (by rw [← LS.out]; exact HD.out) (.inl rfl)
   by_cases hz:s.toList=[48]
   ·have hb:(s.toList == [48])=true:=by rw [hz]; rfl
    have HF:Hid (isNum s.data.toList=true):=by
     rw [Lib.toList_data] at hz
     unfold Hid; rw [hz]; decide
    have HZ:=Lib.hid hz; clear hz
    go_wp2
    go_ret
    exact ⟨by rw [HF.out]; rfl,rfl⟩
   ·have hb:(s.toList == [48])=false:=by simpa using hz
    by_cases h0:s.size=0
    ·have hem:s.toList.isEmpty=true:=by rw [Lib.toList_data,List.isEmpty_iff_length_eq_zero,← LS.out]; exact h0
     have hem2:(!s.toList.isEmpty)=false:=by rw [hem]; rfl
     have HF:Hid (isNum s.data.toList=false):=(isNum_no _).2 fun hh=>by have:=hh.1; rw [← LS.out] at this; omega
     have H0:=Lib.hid h0; clear h0
     go_wp2
     go_ret
     exact ⟨by rw [HF.out]; rfl,rfl⟩
    ·have hem:s.toList.isEmpty=false:=by rw [Lib.toList_data,← Bool.not_eq_true,List.isEmpty_iff_length_eq_zero,← LS.out]; exact h0
     have hem2:(!s.toList.isEmpty)=true:=by rw [hem]; rfl
     have HP:Hid (∀ h:0<s.size,isNum s.data.toList=((s[0].toNat:Int) != 48)):=by
      intro h
      have e:=at_text s 0 h
      rw [Bool.eq_iff_iff,isNum_iff,bne_iff_ne,pad_no,HR.out]
      unfold byteAt at e
      rw [e]
      constructor
      ·rintro ⟨_,_,hp⟩ h48
       have h48':(s.data.toList.getD 0 0).toNat=48:=by omega
       by_cases h1:1<s.data.toList.length
       ·exact hp ⟨h1,h48'⟩
       ·apply hz
        rw [Lib.toList_data]
        have hl:s.data.toList.length=1:=by have:=LS.out; omega
        obtain ⟨b,hb1⟩:=List.length_eq_one_iff.1 hl
        rw [hb1] at h48' ⊢
        have:b=48:=UInt8.toNat_inj.1 (by simpa using h48')
        rw [this]
      ·intro h48
       exact ⟨by have:=LS.out; omega,rfl,fun hh=>h48 (by have:=hh.2; omega)⟩
     have HZ:=Lib.hid hz; clear hz
     go_wp2
     go_ret
     exact ⟨by rw [HP.out (by omega)]; rfl,rfl⟩
end Go.Proofs.YtgakcdcfblgagaaGreatDoor.Num
namespace Go.Proofs.YtgakcdcfblgagaaGreatDoor.Num
open Go.RowKit

def strSize:Value→Nat
 | .string s=>s.size
 | _=>0
def Zeros (l:List UInt8) (t:ByteArray):Prop:=∃ z,t.data.toList=List.replicate z 48 ++ l
theorem zero_size (s:ByteArray):((⟨#[48]⟩:ByteArray) ++ s).size=s.size+1:=by
 rw [ByteArray.size_append]; show 1+s.size=_; omega
theorem zero_ahead {l:List UInt8} {s:ByteArray} (h:Zeros l s):Zeros l ((⟨#[48]⟩:ByteArray) ++ s):=by
 obtain ⟨z,hz⟩:=h
 refine ⟨z+1,?_⟩
 rw [ByteArray.data_append,Array.toList_append,hz,List.replicate_succ]
 rfl
theorem zeros_val (z:Nat) (l:List UInt8):val (List.replicate z 48 ++ l)=val l:=by
 induction z with
 | zero=>rfl
 | succ z ih =>
  rw [List.replicate_succ,List.cons_append,val_cons,ih]
  simp
theorem zeros_dig (z:Nat) {l:List UInt8} (h:AllDig l):AllDig (List.replicate z 48 ++ l):=by
 intro b hb
 rw [List.mem_append] at hb
 rcases hb with hb | hb
 ·rw [List.eq_of_mem_replicate hb]; decide
 ·exact h b hb

theorem zeros_less {l r:List UInt8} {s t:ByteArray} (hl:AllDig l) (hr:AllDig r) (hs:Zeros l s) (ht:Zeros r t) (h:s.size=t.size):(Op.bytesLess s.toList t.toList=true↔val l<val r):=by
 obtain ⟨y,hy⟩:=hs
 obtain ⟨z,hz⟩:=ht
 rw [Lib.size_eq,Lib.size_eq,hy,hz] at h
 rw [Lib.toList_data,Lib.toList_data,hy,hz,less_val _ _ (zeros_dig y hl) (zeros_dig z hr) h,zeros_val,zeros_val]
theorem zeros_eq {l r:List UInt8} {s t:ByteArray} (hl:AllDig l) (hr:AllDig r) (hs:Zeros l s) (ht:Zeros r t) (h:s.size=t.size):((s.toList == t.toList)=true↔val l=val r):=by
 obtain ⟨y,hy⟩:=hs
 obtain ⟨z,hz⟩:=ht
 rw [Lib.size_eq,Lib.size_eq,hy,hz] at h
 rw [Lib.toList_data,Lib.toList_data,hy,hz,beq_iff_eq]
 constructor
 ·intro e
  have:=congrArg val e
  rwa [zeros_val,zeros_val] at this
 ·intro e
  exact val_inj _ _ (zeros_dig y hl) (zeros_dig z hr) h (by rw [zeros_val,zeros_val]; exact e)
end Go.Proofs.YtgakcdcfblgagaaGreatDoor.Num
namespace Go.Proofs.YtgakcdcfblgagaaGreatDoor.Name
open Go.RowKit Num

theorem plain_any (x:Int) (w:World) (h0:0≤x) (h1:x≤255) :
  Calls Tryz.prog 236 #[.int .u8 x] w fun e w'=>e=.returned (.bool (fstB x))∧w=w':=by
 by_cases ha:97≤x
 ·by_cases hb:x≤122
  ·have HF:=Lib.hid ((fstB_iff x).2 (.inl ⟨ha,hb⟩))
   go_enter Tryz.func236,Tryz.ntmps236
   go_wp2
   go_ret
   exact ⟨by rw [HF.out]; rfl,rfl⟩
  ·have HF:=Lib.hid (fstB_no (x:=x) (by omega))
   have hc:48≤x:=by omega
   have hd:¬ x≤57:=by omega
   go_enter Tryz.func236,Tryz.ntmps236
   go_wp2
   go_ret
   exact ⟨by rw [HF.out]; rfl,rfl⟩
 ·by_cases hc:48≤x
  ·by_cases hd:x≤57
   ·have HF:=Lib.hid ((fstB_iff x).2 (.inr ⟨hc,hd⟩))
    go_enter Tryz.func236,Tryz.ntmps236
    go_wp2
    go_ret
    exact ⟨by rw [HF.out]; rfl,rfl⟩
   ·have HF:=Lib.hid (fstB_no (x:=x) (by omega))
    go_enter Tryz.func236,Tryz.ntmps236
    go_wp2
    go_ret
    exact ⟨by rw [HF.out]; rfl,rfl⟩
  ·have HF:=Lib.hid (fstB_no (x:=x) (by omega))
   go_enter Tryz.func236,Tryz.ntmps236
   go_wp2
   go_ret
   exact ⟨by rw [HF.out]; rfl,rfl⟩
def mrkB (x:Int):Bool:=decide (x=45∨x=95∨x=46)
theorem mrkB_iff (x:Int):mrkB x=true↔x=45∨x=95∨x=46:=by simp [mrkB]
theorem mark_any (x:Int) (w:World) :
  Calls Tryz.prog 237 #[.int .u8 x] w fun e w'=>e=.returned (.bool (mrkB x))∧w=w':=by
 by_cases h1:x=45
 ·have HF:=Lib.hid ((mrkB_iff x).2 (.inl h1))
  have b1:(x == 45)=true:=by rw [h1]; rfl
  clear h1
  go_enter Tryz.func237,Tryz.ntmps237
  go_wp2
  go_ret
  exact ⟨by rw [HF.out]; rfl,rfl⟩
 ·have b1:(x == 45)=false:=by simp [h1]
  by_cases h2:x=95
  ·have HF:=Lib.hid ((mrkB_iff x).2 (.inr (.inl h2)))
   have b2:(x == 95)=true:=by rw [h2]; rfl
   clear h2 h1
   go_enter Tryz.func237,Tryz.ntmps237
   go_wp2
   go_ret
   exact ⟨by rw [HF.out]; rfl,rfl⟩
  ·have b2:(x == 95)=false:=by simp [h2]
   have HF:Hid (mrkB x=(x == 46)):=by
    unfold Hid; rw [Bool.eq_iff_iff,mrkB_iff]; simp [h1,h2]
   clear h1 h2
   go_enter Tryz.func237,Tryz.ntmps237
   go_wp2
   go_ret
   exact ⟨by rw [HF.out]; rfl,rfl⟩
def NlJ (w:World) (A:Option Addr) (n c:Nat) (l:List UInt8) (a':Act) (w':World):Prop :=
 w=w'∧∃ (k:Nat) (u4 u5 u6 u7 u8 u9 u10 u11 u12 u13 u14 u15 u16 u17 u18 u19 u20 u21 u22 u23 u24 u25 u26 u27 u28:Value),k≤n∧(∀ j,j<k→okB j (byteAt l j)=true)∧a'={ tmps:=#[.slice A n c,undef,.int .i64 0,.int .i64 k,u4,u5,u6,u7,u8,u9,u10,u11,u12,u13,u14,u15,u16,u17,u18,u19,u20,u21,u22,u23,u24,u25,u26,u27,u28],defers:=[] }
def NlM (n:Nat) (a':Act) (_:World):Nat:=n - (intOf (a'.tmps.getD 3 undef)).toNat
theorem nlength_any (A:Option Addr) (n c:Nat) (l:List UInt8) (w:World) (h:Row w A n l) :
  Calls Tryz.prog 198 #[.slice A n c] w fun e w'=>e=.returned (.int .i64 (nlen l))∧w=w':=by
 obtain ⟨hl,hm,hc⟩:=h
 unfold maxLen at hm
 have HC:=Lib.hid hc; clear hc
 have HL:=Lib.hid hl; clear hl
 go_enter Tryz.func198,Tryz.ntmps198
 go_wp2
 refine wp_scope_back 0 (NlJ w A n c l) (NlM n) rfl ?_ ?_
 ·rintro a' w' ⟨rfl,k,u4,u5,u6,u7,u8,u9,u10,u11,u12,u13,u14,u15,u16,u17,u18,u19,u20,u21,u22,u23,u24,u25,u26,u27,u28,hk,hd,rfl⟩
  have HD:=Lib.hid hd; clear hd
  by_cases hlt:k<n
  ·obtain ⟨b,o,rfl,hb,hcell⟩:=HC.out (by omega)
   have hx:=hcell k hlt
   clear hcell HC
   have hbd:=byteAt_bd l k
   have HN:Hid (okB k (byteAt l k)=true→∀ j,j<k+1→okB j (byteAt l j)=true):=fun hi j hj=>by
    rcases Nat.lt_or_ge j k with hj1 | hj1
    ·exact HD.out j hj1
    ·obtain rfl:j=k:=by omega
     exact hi
   have HS:Hid (okB k (byteAt l k)=false→nlen l=k):=fun hn=>nrun_stop l 0 k (by rw [HL.out]; omega) (fun j hj=>by rw [Nat.zero_add]; exact HD.out j hj) (.inr (by rw [Nat.zero_add]; exact hn))
   generalize byteAt l k=x at hx hbd HN HS
   obtain ⟨hx0,hx1⟩:=hbd
   go_wp2_with fail
   refine (plain_any _ _ hx0 hx1).mono ?_
   rintro e w' ⟨rfl,rfl⟩
   cases h1:fstB x
   ·have H1:=Lib.hid h1; clear h1
    by_cases hk0:k=0
    ·have HZ:=Lib.hid (HS.out (okB_no H1.out (.inl hk0)))
     have hk1:¬ 0<k:=by omega
     clear hk0
     go_wp2
     simp only [Exit.jump]
     go_ret
     exact ⟨ret_int (by rw [HZ.out]),rfl⟩
    ·have hk1:0<k:=by omega
     have HK:=Lib.hid hk0; clear hk0
     go_wp2_with fail
     refine (mark_any _ _).mono ?_
     rintro e w' ⟨rfl,rfl⟩
     cases h2:mrkB x
     ·have HZ:=Lib.hid (HS.out (okB_no H1.out (.inr (fun h=>by rw [(mrkB_iff x).2 h] at h2; cases h2))))
      clear h2
      go_wp2
      simp only [Exit.jump]
      go_ret
      exact ⟨ret_int (by rw [HZ.out]),rfl⟩
     ·have HY:=Lib.hid (HN.out ((okB_iff k x).2 (.inr ⟨hk1,(mrkB_iff x).1 h2⟩)))
      clear h2
      go_wp2
      go_step3
      rw [show ((k:Int)+1)=((k+1:Nat):Int) from rfl]
      refine ⟨rfl,⟨rfl,k+1,_,_,_,_,_,_,_,_,_,_,_,_,_,_,_,_,_,_,_,_,_,_,_,_,_,by omega,HY.out,rfl⟩,?_⟩
      simp [NlM,intOf]; omega
   ·have HY:=Lib.hid (HN.out ((okB_iff k x).2 (.inl h1)))
    clear h1
    go_wp2
    go_step3
    rw [show ((k:Int)+1)=((k+1:Nat):Int) from rfl]
    refine ⟨rfl,⟨rfl,k+1,_,_,_,_,_,_,_,_,_,_,_,_,_,_,_,_,_,_,_,_,_,_,_,_,_,by omega,HY.out,rfl⟩,?_⟩
    simp [NlM,intOf]; omega
  ·have HS:Hid (nlen l=k):=nrun_stop l 0 k (by rw [HL.out]; omega) (fun j hj=>by rw [Nat.zero_add]; exact HD.out j hj) (.inl (by rw [HL.out]; omega))
   go_wp2
   simp only [Exit.jump]
   go_ret
   exact ⟨ret_int (by rw [HS.out]),rfl⟩
 ·intro HP
  go_wp2
  go_step3
  rename_i hK
  exact hK _ _ (HP.out _ _ ⟨rfl,0,_,_,_,_,_,_,_,_,_,_,_,_,_,_,_,_,_,_,_,_,_,_,_,_,_,by omega,(fun j hj=>by omega),rfl⟩)

theorem scan_any (A:Option Addr) (n c:Nat) (l:List UInt8) (p:Int) (w:World) (h:Row w A n l) (hc:n≤c) :
  Calls Tryz.prog 161 #[.slice A n c,.int .i64 p] w fun e w'=>e=.returned (scanOut l p)∧w=w':=by
 have hm:=h.2.1
 unfold maxLen at hm
 by_cases ho:p<0∨(n:Int)<p
 ·have HF:Hid (scanOut l p=.tuple #[.int .i64 0,.int .i64 1]):=by unfold Hid scanOut; rw [nscan_arg (by rw [h.1]; exact ho)]
  by_cases h0:p<0
  ·go_enter Tryz.func161,Tryz.ntmps161
   go_wp2
   go_ret2
   exact ⟨by rw [HF.out]; rfl,rfl⟩
  ·have h1:(n:Int)<p:=by omega
   clear ho
   go_enter Tryz.func161,Tryz.ntmps161
   go_wp2
   go_ret2
   exact ⟨by rw [HF.out]; rfl,rfl⟩
 ·obtain ⟨q,rfl⟩:=Int.eq_ofNat_of_zero_le (show 0≤p by omega)
  have hp:q≤n:=by omega
  have hp0:¬ (q:Int)<0:=by omega
  have hp1:¬ n<q:=by omega
  obtain ⟨R,hR⟩:∃ R,(if c=q then A else A.map (fun x=>x.add q))=R:=⟨_,rfl⟩
  have HR:=Lib.hid (Ident.Row.from_ h q c hp hc hR)
  have HA:Hid (¬ ((q:Int)<0∨(l.length:Int)<q)):=by unfold Hid; rw [h.1]; omega
  have HO:Hid ((if nlen (l.drop q)=0∨255<nlen (l.drop q) then Value.tuple #[.int .i64 0,.int .i64 12] else .tuple #[.int .i64 (nlen (l.drop q):Nat),.int .i64 0])=scanOut l q):=by
   unfold Hid scanOut
   by_cases g:nlen (l.drop q)=0∨255<nlen (l.drop q)
   ·rw [nscan_bad HA.out (by rw [Int.toNat_natCast]; exact g),if_pos g]
   ·rw [nscan_good HA.out (by rw [Int.toNat_natCast]; exact g),if_neg g,Int.toNat_natCast]
  have hnl:=nrun_le 0 (l.drop q)
  rw [show nrun 0 (l.drop q)=nlen (l.drop q) from rfl,HR.out.1] at hnl
  clear ho h HA
  go_enter Tryz.func161,Tryz.ntmps161
  go_wp2_with fail
  refine (nlength_any _ _ _ _ _ HR.out).mono ?_
  rintro e w' ⟨rfl,rfl⟩
  clear hR
  generalize nlen (l.drop q)=m at hnl HO ⊢
  have hm2:m≤9223372036854775807:=by omega
  clear hnl
  by_cases hz:m=0
  ·subst hz
   rw [if_pos (.inl rfl)] at HO
   go_wp2
   go_ret2
   exact ⟨by rw [← HO.out]; rfl,rfl⟩
  ·have hzb:((m:Int) == 0)=false:=by simp [hz]
   by_cases hg:255<m
   ·rw [if_pos (.inr hg)] at HO
    have HZ:=Lib.hid hz; clear hz
    go_wp2
    go_ret2
    exact ⟨by rw [← HO.out]; rfl,rfl⟩
   ·rw [if_neg (by omega)] at HO
    have HZ:=Lib.hid hz; clear hz
    go_wp2
    go_ret2
    exact ⟨by rw [← HO.out]; rfl,rfl⟩

theorem good_any (s:ByteArray) (w:World) (hs:s.size≤maxLen) :
  Calls Tryz.prog 106 #[.string s] w fun e w'=>e=.returned (.bool (isName s.data.toList))∧Below w.heap.size w w':=by
 have HW:=Lib.hid (nscan_whole s.data.toList)
 have LS:=Lib.hid (Lib.size_eq s)
 obtain ⟨cc,W1,hcc,hconv,hR,hb⟩:=run_bytes w s hs
 have HB:=Lib.hid hb
 have HR:=Lib.hid hR
 clear hb hR
 unfold maxLen at hs
 go_enter Tryz.func106,Tryz.ntmps106
 go_wp2_with fail
 refine (scan_any _ _ _ _ 0 _ HR.out hcc).mono ?_
 unfold scanOut
 obtain ⟨⟨n,e⟩,hr⟩:∃ t,nscan s.data.toList 0=t:=⟨_,rfl⟩
 rw [hr] at HW ⊢
 clear hr
 rintro e' w' ⟨rfl,rfl⟩
 by_cases he:e=0
 ·have hb:(e == 0)=true:=by simp [he]
  have HE:=Lib.hid he; clear he
  by_cases hn:n=s.size
  ·have hb2:(n == (s.size:Int))=true:=by simp [hn]
   have HF:Hid (isName s.data.toList=true):=HW.out.1 ⟨HE.out,by rw [← LS.out]; exact hn⟩
   have HN:=Lib.hid hn; clear hn
   go_wp2
   go_ret
   exact ⟨by rw [HF.out]; rfl,HB.out⟩
  ·have hb2:(n == (s.size:Int))=false:=by simp [hn]
   have HF:Hid (isName s.data.toList=false):=by
    unfold Hid; rw [← Bool.not_eq_true,← HW.out,← LS.out]; exact fun h=>hn h.2
   have HN:=Lib.hid hn; clear hn
   go_wp2
   go_ret
   exact ⟨by rw [HF.out]; rfl,HB.out⟩
 ·have hb:(e == 0)=false:=by simp [he]
  have HF:Hid (isName s.data.toList=false):=by
   unfold Hid; rw [← Bool.not_eq_true,← HW.out]; exact fun h=>he h.1
  have HE:=Lib.hid he; clear he
  go_wp2
  go_ret
  exact ⟨by rw [HF.out]; rfl,HB.out⟩
end Go.Proofs.YtgakcdcfblgagaaGreatDoor.Name
namespace Go.Proofs.YtgakcdcfblgagaaGreatDoor.Semver
open Num Ident

structure Ver where
 a:Nat
 b:Nat
 c:Nat
 pre:List (List UInt8)
 build:List (List UInt8)
deriving DecidableEq
def noVer:Ver:=⟨0,0,0,[],[]⟩
def point (l:List UInt8) (q:Nat):Nat:=if q=l.length then 2 else if byteAt l q≠46 then 3 else 0
abbrev Core:=Nat × Nat × Nat × Nat × Nat
def core2 (l:List UInt8) (x y p:Nat):Core:=if (parse l p).2.2≠0 then ((parse l p).2.2,p,0,0,0) else (0,p+(parse l p).2.1,x,y,(parse l p).1)
def after2 (l:List UInt8) (x y q:Nat):Core:=if point l q≠0 then (point l q,q,0,0,0) else core2 l x y (q+1)
def core1 (l:List UInt8) (x p:Nat):Core:=if (parse l p).2.2≠0 then ((parse l p).2.2,p,0,0,0) else after2 l x (parse l p).1 (p+(parse l p).2.1)
def after1 (l:List UInt8) (x q:Nat):Core:=if point l q≠0 then (point l q,q,0,0,0) else core1 l x (q+1)
def core (l:List UInt8) (p:Nat):Core:=if (parse l p).2.2≠0 then ((parse l p).2.2,p,0,0,0) else after1 l (parse l p).1 (p+(parse l p).2.1)
def rowAt (l:List UInt8) (p m:Nat):Res :=
 if p=l.length∨byteAt l p≠(m:Int) then (0,p,[]) else ((row l ((p+1:Nat):Int) (m == 45)).1,p+1+(row l ((p+1:Nat):Int) (m == 45)).2.1,(row l ((p+1:Nat):Int) (m == 45)).2.2)
abbrev Out:=Nat × Nat × Ver
def tail2 (l:List UInt8) (x y z:Nat) (pre:List (List UInt8)) (q:Nat):Out :=
 if (rowAt l q 43).1≠0 then ((rowAt l q 43).1,(rowAt l q 43).2.1,noVer) else (0,(rowAt l q 43).2.1,⟨x,y,z,pre,(rowAt l q 43).2.2⟩)
def tail1 (l:List UInt8) (x y z q:Nat):Out :=
 if (rowAt l q 45).1≠0 then ((rowAt l q 45).1,(rowAt l q 45).2.1,noVer) else tail2 l x y z (rowAt l q 45).2.2 (rowAt l q 45).2.1
def inside (l:List UInt8) (p:Nat):Out :=
 if (core l p).1≠0 then ((core l p).1,(core l p).2.1,noVer) else tail1 l (core l p).2.2.1 (core l p).2.2.2.1 (core l p).2.2.2.2 (core l p).2.1
def vparse (l:List UInt8) (p:Int):Out:=if p<0∨(l.length:Int)<p then (1,0,noVer) else inside l p.toNat
def vread (l:List UInt8):Out :=
 if (vparse l 0).1≠0 then ((vparse l 0).1,(vparse l 0).2.1,noVer) else if (vparse l 0).2.1≠l.length then (13,(vparse l 0).2.1,noVer) else (0,0,(vparse l 0).2.2)

theorem point_no {l:List UInt8} {q:Nat} (h:q≠l.length) (h2:byteAt l q≠46):point l q=3:=by unfold point; rw [if_neg h,if_pos h2]
theorem point_yes {l:List UInt8} {q:Nat} (h:q≠l.length) (h2:byteAt l q=46):point l q=0:=by unfold point; rw [if_neg h,if_neg (by simp [h2])]


theorem rowAt_none {l:List UInt8} {p m:Nat} (h:p=l.length∨byteAt l p≠(m:Int)):rowAt l p m=(0,p,[]):=by unfold rowAt; rw [if_pos h]
theorem rowAt_some {l:List UInt8} {p m:Nat} (h1:p≠l.length) (h2:byteAt l p=(m:Int)):rowAt l p m=((row l ((p+1:Nat):Int) (m == 45)).1,p+1+(row l ((p+1:Nat):Int) (m == 45)).2.1,(row l ((p+1:Nat):Int) (m == 45)).2.2):=by
 unfold rowAt; rw [if_neg]; rintro (h | h)
 ·exact h1 h
 ·exact h h2

/-! What stands ahead of a place. -/
theorem byteAt_place (a b:List UInt8) (p:Nat):byteAt (a ++ b) (a.length+p)=byteAt b p:=by
 unfold byteAt List.getD
 rw [List.getElem?_append_right (by omega),show a.length+p - a.length=p by omega]
def move (n:Nat) (r:Out):Out:=(r.1,n+r.2.1,r.2.2)
end Go.Proofs.YtgakcdcfblgagaaGreatDoor.Semver
namespace Go.Proofs.YtgakcdcfblgagaaGreatDoor.Ident
open Go.RowKit Num

def goodFrom (pre:Bool):List (List UInt8)→Nat→Bool
 | [],_=>true
 | x :: r,i=>fault x i pre == 0 && lead x == x.length && goodFrom pre r (i+1)
theorem goodFrom_yes {pre:Bool} {x:List UInt8} {r:List (List UInt8)} {i:Nat} (h1:fault x i pre=0) (h2:lead x=x.length):goodFrom pre (x :: r) i=goodFrom pre r (i+1):=by
 rw [goodFrom]; simp [h1,h2]
theorem goodFrom_no {pre:Bool} {x:List UInt8} {r:List (List UInt8)} {i:Nat} (h:fault x i pre≠0∨lead x≠x.length):goodFrom pre (x :: r) i=false:=by
 rw [goodFrom]
 rcases h with h | h
 ·rw [beq_eq_false_iff_ne.2 h]; rfl
 ·rw [beq_eq_false_iff_ne.2 h]; simp
theorem goodFrom_step {pre:Bool} {xs:List (List UInt8)} {k:Nat} (hk:k<xs.length) (h1:fault (xs.getD k []) k pre=0) (h2:lead (xs.getD k [])=(xs.getD k []).length):goodFrom pre (xs.drop k) k=goodFrom pre (xs.drop (k+1)) (k+1):=by
 have e:xs.drop k=xs.getD k [] :: xs.drop (k+1):=by
  rw [List.drop_eq_getElem_cons hk]; simp [List.getD,List.getElem?_eq_getElem hk]
 rw [e]; exact goodFrom_yes h1 h2
theorem goodFrom_stop {pre:Bool} {xs:List (List UInt8)} {k:Nat} (hk:k<xs.length) (h:fault (xs.getD k []) k pre≠0∨lead (xs.getD k [])≠(xs.getD k []).length):goodFrom pre (xs.drop k) k=false:=by
 have e:xs.drop k=xs.getD k [] :: xs.drop (k+1):=by
  rw [List.drop_eq_getElem_cons hk]; simp [List.getD,List.getElem?_eq_getElem hk]
 rw [e]; exact goodFrom_no h
end Go.Proofs.YtgakcdcfblgagaaGreatDoor.Ident
namespace Go.Proofs.YtgakcdcfblgagaaGreatDoor.Ident
open Go.RowKit Num

def digB (x:Int):Bool:=decide (48≤x∧x≤57)
def letB (x:Int):Bool:=decide ((65≤x∧x≤90)∨(97≤x∧x≤122))
theorem digB_yes {x:Int} (h:48≤x∧x≤57):digB x=true:=decide_eq_true h
theorem digB_no {x:Int} (h:¬ (48≤x∧x≤57)):digB x=false:=decide_eq_false h
theorem letB_yes {x:Int} (h:(65≤x∧x≤90)∨(97≤x∧x≤122)):letB x=true:=decide_eq_true h
theorem letB_no {x:Int} (h:¬ ((65≤x∧x≤90)∨(97≤x∧x≤122))):letB x=false:=decide_eq_false h
theorem digB_at (b:UInt8):digB (b.toNat:Int)=isDig b:=by
 rw [Bool.eq_iff_iff,isDig_iff]; unfold digB; rw [decide_eq_true_eq]; omega
theorem letB_at (b:UInt8):letB (b.toNat:Int)=isLet b:=by
 rw [Bool.eq_iff_iff,isLet_iff]; unfold letB; rw [decide_eq_true_eq]; omega
def idB (x:Int):Bool:=digB x || letB x || x == 45
theorem idB_at (b:UInt8):idB (b.toNat:Int)=isId b:=by
 unfold idB isId; rw [digB_at,letB_at]; congr 1; rw [Bool.eq_iff_iff]; simp; omega
theorem fault_5 {s:List UInt8} (i:Nat) (pre:Bool) (h:s.length=0):fault s i pre=5:=by unfold fault; rw [if_pos h]
theorem fault_4 {s:List UInt8} {i:Nat} (pre:Bool) (h0:s.length≠0) (h:255<s.length∨16≤i):fault s i pre=4:=by unfold fault; rw [if_neg h0,if_pos h]
theorem fault_3 {s:List UInt8} {i:Nat} {pre:Bool} (h0:s.length≠0) (h1:¬ (255<s.length∨16≤i)) (h:pre=true∧numeric s=true∧isNum s=false):fault s i pre=3:=by
 unfold fault; rw [if_neg h0,if_neg h1,if_pos h]
theorem fault_0 {s:List UInt8} {i:Nat} {pre:Bool} (h0:s.length≠0) (h1:¬ (255<s.length∨16≤i)) (h:¬ (pre=true∧numeric s=true∧isNum s=false)):fault s i pre=0:=by
 unfold fault; rw [if_neg h0,if_neg h1,if_neg h]
theorem empty_iff (s:ByteArray):s.toList.isEmpty=true↔s.size=0:=by
 rw [Lib.toList_data,List.isEmpty_iff_length_eq_zero,← Lib.size_eq]
theorem empty_no (s:ByteArray):s.toList.isEmpty=false↔s.size≠0:=by
 rw [← Bool.not_eq_true,empty_iff]
end Go.Proofs.YtgakcdcfblgagaaGreatDoor.Ident
namespace Go.Proofs.YtgakcdcfblgagaaGreatDoor.Ident
open Go.RowKit Num

def joined (xs:List (List UInt8)):List UInt8:=Lib.join xs [46]
theorem joined_nil:joined []=[]:=rfl
theorem joined_one (x:List UInt8):joined [x]=x:=Lib.join_one x [46]
theorem joined_cons (x y:List UInt8) (r:List (List UInt8)):joined (x :: y :: r)=x ++ 46 :: joined (y :: r):=by
 unfold joined
 rw [Lib.join_cons,Lib.join_cons]; simp [Lib.joinTail]
theorem joined_le:∀ (xs:List (List UInt8)),(∀ x ∈ xs,x.length≤300)→(joined xs).length≤301 * xs.length
 | [],_=>by simp [joined_nil]
 | [x],h=>by rw [joined_one]; have:=h x (by simp); simp; omega
 | x :: y :: r,h=>by
  rw [joined_cons]
  have h1:=h x (by simp)
  have h2:=joined_le (y :: r) (fun z hz=>h z (by simp [hz]))
  simp only [List.length_append,List.length_cons] at h2 ⊢
  omega
theorem go_ids {pre:Bool} (x t w:List UInt8) (acc:List (List UInt8)) (n:Nat) (h:∀ b ∈ x,isId b=true):go pre (x ++ t) w acc n=go pre t (w ++ x) acc (n+x.length):=by
 induction x generalizing w n with
 | nil=>simp
 | cons b x ih =>
  rw [List.cons_append,go_id (h b (by simp)),ih _ _ (fun c hc=>h c (by simp [hc])),List.append_assoc,List.singleton_append,List.length_cons]
  congr 1; omega
end Go.Proofs.YtgakcdcfblgagaaGreatDoor.Ident
namespace Go.Proofs.YtgakcdcfblgagaaGreatDoor.Semver
open Go.RowKit Num Ident

def At7 (W:World) (b:Nat) (u0 u1 u2 u3 u4 u5 u6:Value):Prop:=b<W.heap.size∧(∀ o,W.frozen? ⟨b,o,none⟩=false)∧W.cell? ⟨b,0,none⟩=some u0∧W.cell? ⟨b,1,none⟩=some u1∧W.cell? ⟨b,2,none⟩=some u2∧W.cell? ⟨b,3,none⟩=some u3∧W.cell? ⟨b,4,none⟩=some u4∧W.cell? ⟨b,5,none⟩=some u5∧W.cell? ⟨b,6,none⟩=some u6
theorem At7.new (w:World) (t:TypeId) (u0 u1 u2 u3 u4 u5 u6:Value):At7 (w.alloc (.cells #[u0,u1,u2,u3,u4,u5,u6] t)) w.heap.size u0 u1 u2 u3 u4 u5 u6:=by
 unfold At7
 refine ⟨by simp,fun o=>by simp [go_sem],?_,?_,?_,?_,?_,?_,?_⟩ <;> simp [go_sem]
theorem At7.kept {W W':World} {b B:Nat} {u0 u1 u2 u3 u4 u5 u6:Value} (h:At7 W b u0 u1 u2 u3 u4 u5 u6) (hb:Below B W W') (hB:b<B):At7 W' b u0 u1 u2 u3 u4 u5 u6:=by
 obtain ⟨h1,h2,c0,c1,c2,c3,c4,c5,c6⟩:=h
 exact ⟨Nat.lt_of_lt_of_le h1 hb.size,fun o=>(hb.frozen (p:=⟨b,o,none⟩) hB).trans (h2 o),(hb.cell (p:=⟨b,0,none⟩) hB).trans c0,(hb.cell (p:=⟨b,1,none⟩) hB).trans c1,(hb.cell (p:=⟨b,2,none⟩) hB).trans c2,(hb.cell (p:=⟨b,3,none⟩) hB).trans c3,(hb.cell (p:=⟨b,4,none⟩) hB).trans c4,(hb.cell (p:=⟨b,5,none⟩) hB).trans c5,(hb.cell (p:=⟨b,6,none⟩) hB).trans c6⟩
theorem set7 {w:World} {A:Option Addr} {n:Nat} {xs:List (List UInt8)} (h:SRow w A n xs) {b:Nat} {u0 u1 u2 u3 u4 u5 u6:Value} (k:At7 w b u0 u1 u2 u3 u4 u5 u6)
  (s0:∀ s,u0≠.string s) (s1:∀ s,u1≠.string s) (s2:∀ s,u2≠.string s) (s3:∀ s,u3≠.string s) (s4:∀ s,u4≠.string s) (s5:∀ s,u5≠.string s) (s6:∀ s,u6≠.string s) (v0 v1 v2 v3 v4 v5 v6:Value) :
  SRow (((((((w.setCell ⟨b,0,none⟩ v0).setCell ⟨b,1,none⟩ v1).setCell ⟨b,2,none⟩ v2).setCell ⟨b,3,none⟩ v3).setCell ⟨b,4,none⟩ v4).setCell ⟨b,5,none⟩ v5).setCell ⟨b,6,none⟩ v6) A n xs:=by
 obtain ⟨_,_,c0,c1,c2,c3,c4,c5,c6⟩:=k
 refine SRow.set (SRow.set (SRow.set (SRow.set (SRow.set (SRow.set (SRow.set h c0 s0 v0) (u:=u1) ?_ s1 v1) (u:=u2) ?_ s2 v2) (u:=u3) ?_ s3 v3) (u:=u4) ?_ s4 v4) (u:=u5) ?_ s5 v5) (u:=u6) ?_ s6 v6
 ·exact (cell_beside _ _ _ _ _ (by omega)).trans (c1)
 ·exact (cell_beside _ _ _ _ _ (by omega)).trans ((cell_beside _ _ _ _ _ (by omega)).trans (c2))
 ·exact (cell_beside _ _ _ _ _ (by omega)).trans ((cell_beside _ _ _ _ _ (by omega)).trans ((cell_beside _ _ _ _ _ (by omega)).trans (c3)))
 ·exact (cell_beside _ _ _ _ _ (by omega)).trans ((cell_beside _ _ _ _ _ (by omega)).trans ((cell_beside _ _ _ _ _ (by omega)).trans ((cell_beside _ _ _ _ _ (by omega)).trans (c4))))
 ·exact (cell_beside _ _ _ _ _ (by omega)).trans ((cell_beside _ _ _ _ _ (by omega)).trans ((cell_beside _ _ _ _ _ (by omega)).trans ((cell_beside _ _ _ _ _ (by omega)).trans ((cell_beside _ _ _ _ _ (by omega)).trans (c5)))))
 ·exact (cell_beside _ _ _ _ _ (by omega)).trans ((cell_beside _ _ _ _ _ (by omega)).trans ((cell_beside _ _ _ _ _ (by omega)).trans ((cell_beside _ _ _ _ _ (by omega)).trans ((cell_beside _ _ _ _ _ (by omega)).trans ((cell_beside _ _ _ _ _ (by omega)).trans (c6))))))

theorem At3.set1 {W:World} {b:Nat} {x y z:Value} (h:At3 W b x y z) (v:Value):At3 (W.setCell ⟨b,1,none⟩ v) b x v z:=by
 obtain ⟨h1,h2,c0,c1,c2⟩:=h
 refine ⟨by simpa using h1,fun o=>by simp [go_sem,h2],?_,?_,?_⟩ <;> simp [go_sem,c0,c1,c2]
theorem At3.set2 {W:World} {b:Nat} {x y z:Value} (h:At3 W b x y z) (v:Value):At3 (W.setCell ⟨b,2,none⟩ v) b x y v:=by
 obtain ⟨h1,h2,c0,c1,c2⟩:=h
 refine ⟨by simpa using h1,fun o=>by simp [go_sem,h2],?_,?_,?_⟩ <;> simp [go_sem,c0,c1,c2]


end Go.Proofs.YtgakcdcfblgagaaGreatDoor.Semver
namespace Go.Proofs.YtgakcdcfblgagaaGreatDoor.Ident
open Go.RowKit Num

theorem digit_any (x:Int) (w:World) (h0:0≤x) (h1:x≤255) :
  Calls Tryz.prog 242 #[.int .u8 x] w fun e w'=>e=.returned (.bool (digB x))∧w=w':=by
 by_cases ha:48≤x
 ·by_cases hb:x≤57
  ·have HF:=Lib.hid (digB_yes ⟨ha,hb⟩)
   go_enter Tryz.func242,Tryz.ntmps242
   go_wp2
   go_ret
   exact ⟨by rw [HF.out]; rfl,rfl⟩
  ·have HF:=Lib.hid (digB_no (x:=x) (by omega))
   go_enter Tryz.func242,Tryz.ntmps242
   go_wp2
   go_ret
   exact ⟨by rw [HF.out]; rfl,rfl⟩
 ·have HF:=Lib.hid (digB_no (x:=x) (by omega))
  go_enter Tryz.func242,Tryz.ntmps242
  go_wp2
  go_ret
  exact ⟨by rw [HF.out]; rfl,rfl⟩
def NumcJ (w:World) (s:ByteArray) (a':Act) (w':World):Prop :=
 w=w'∧∃ (k:Nat) (u4 u5 u6 u7 u8 u9 u10 u11 u12 u13 u14 u15 u16 u17 u18 u19 u20 u21 u22 u23:Value),k≤s.size∧(∀ j,j<k→isDig (s.data.toList.getD j 0)=true)∧a'={ tmps:=#[.string s,undef,.bool false,.int .i64 k,u4,u5,u6,u7,u8,u9,u10,u11,u12,u13,u14,u15,u16,u17,u18,u19,u20,u21,u22,u23],defers:=[] }
def NumcM (n:Nat) (a':Act) (_:World):Nat:=n - (intOf (a'.tmps.getD 3 undef)).toNat
theorem numeric_any (s:ByteArray) (w:World) (hs:s.size≤maxLen) :
  Calls Tryz.prog 209 #[.string s] w fun e w'=>e=.returned (.bool (numeric s.data.toList))∧w=w':=by
 unfold maxLen at hs
 have HL:=Lib.hid (Lib.size_eq s)
 go_enter Tryz.func209,Tryz.ntmps209
 go_wp2
 refine wp_scope_back 0 (NumcJ w s) (NumcM s.size) rfl ?_ ?_
 ·rintro a' w' ⟨rfl,k,u4,u5,u6,u7,u8,u9,u10,u11,u12,u13,u14,u15,u16,u17,u18,u19,u20,u21,u22,u23,hk,hd,rfl⟩
  have HD:=Lib.hid hd; clear hd
  by_cases hlt:k<s.size
  ·have hbd:=byteAt_bd s.data.toList k
   have HX:=Lib.hid (at_text s k hlt)
   have HI:Hid (isDig (s.data.toList.getD k 0)=digB (byteAt s.data.toList k)):=(digB_at _).symm
   rw [← HX.out] at hbd HI
   obtain ⟨hx0,hx1⟩:=hbd
   go_wp2_with fail
   refine (digit_any _ _ hx0 hx1).mono ?_
   rintro e w' ⟨rfl,rfl⟩
   cases h1:digB (s[k].toNat:Int)
   ·have HS:Hid (run s.data.toList=k):=run_stop _ k (by rw [← HL.out]; omega) HD.out (.inr (by rw [HI.out]; exact h1))
    have HF:Hid (numeric s.data.toList=false):=(numeric_no _).2 fun hh=>by rw [HS.out,← HL.out] at hh; omega
    have H1:=Lib.hid h1; clear h1
    have hne:((k:Int) == (s.size:Int))=false:=by simp; omega
    by_cases h0:0<k
    ·go_wp2
     simp only [Exit.jump]
     go_ret
     exact ⟨by rw [HF.out]; rfl,rfl⟩
    ·go_wp2
     simp only [Exit.jump]
     go_ret
     exact ⟨by rw [HF.out]; rfl,rfl⟩
   ·have HN:Hid (∀ j,j<k+1→isDig (s.data.toList.getD j 0)=true):=fun j hj=>by
     rcases Nat.lt_or_ge j k with hj1 | hj1
     ·exact HD.out j hj1
     ·obtain rfl:j=k:=by omega
      rw [HI.out]; exact h1
    have H1:=Lib.hid h1; clear h1
    go_wp2
    go_step3
    rw [show ((k:Int)+1)=((k+1:Nat):Int) from rfl]
    refine ⟨rfl,⟨rfl,k+1,_,_,_,_,_,_,_,_,_,_,_,_,_,_,_,_,_,_,_,_,by omega,HN.out,rfl⟩,?_⟩
    simp [NumcM,intOf]; omega
  ·obtain rfl:k=s.size:=by omega
   have HS:Hid (run s.data.toList=s.size):=run_stop _ s.size (by rw [← HL.out]; omega) HD.out (.inl HL.out)
   by_cases h0:0<s.size
   ·have HF:Hid (numeric s.data.toList=true):=(numeric_iff _).2 ⟨by rw [← HL.out]; exact h0,by rw [HS.out,HL.out]⟩
    go_wp2
    simp only [Exit.jump]
    go_ret
    exact ⟨by rw [HF.out]; rfl,rfl⟩
   ·have HF:Hid (numeric s.data.toList=false):=(numeric_no _).2 fun hh=>h0 (by rw [HL.out]; exact hh.1)
    go_wp2
    simp only [Exit.jump]
    go_ret
    exact ⟨by rw [HF.out]; rfl,rfl⟩
 ·intro HP
  go_wp2
  go_step3
  rename_i hK
  exact hK _ _ (HP.out _ _ ⟨rfl,0,_,_,_,_,_,_,_,_,_,_,_,_,_,_,_,_,_,_,_,_,by omega,(fun j hj=>by omega),rfl⟩)
end Go.Proofs.YtgakcdcfblgagaaGreatDoor.Ident
namespace Go.Proofs.YtgakcdcfblgagaaGreatDoor.Ident
open Go.RowKit Num

theorem idB_yes1 {x:Int} (h:48≤x∧x≤57):idB x=true:=by unfold idB; rw [digB_yes h]; rfl
theorem idB_yes2 {x:Int} (h:(65≤x∧x≤90)∨(97≤x∧x≤122)):idB x=true:=by unfold idB; rw [letB_yes h]; simp
theorem idB_yes3:idB 45=true:=by decide
theorem idB_no {x:Int} (h1:¬ (48≤x∧x≤57)) (h2:¬ ((65≤x∧x≤90)∨(97≤x∧x≤122))) (h3:x≠45):idB x=false:=by
 unfold idB; rw [digB_no h1,letB_no h2]; simp [h3]

theorem ref_byte_any (x:Int) (w:World) (h0:0≤x) (h1:x≤255) :
  Calls Tryz.prog 127 #[.int .u8 x] w fun e w'=>e=.returned (.bool (idB x))∧w=w':=by
 by_cases ha:48≤x
 ·by_cases hb:x≤57
  ·have HF:=Lib.hid (idB_yes1 ⟨ha,hb⟩)
   go_enter Tryz.func127,Tryz.ntmps127
   go_wp2
   go_ret
   exact ⟨by rw [HF.out]; rfl,rfl⟩
  ·have h45:(x == 45)=false:=by simp; omega
   by_cases hc:65≤x
   ·by_cases hd:x≤90
    ·have HF:=Lib.hid (idB_yes2 (.inl ⟨hc,hd⟩))
     go_enter Tryz.func127,Tryz.ntmps127
     go_wp2
     go_ret
     exact ⟨by rw [HF.out]; rfl,rfl⟩
    ·by_cases he:97≤x
     ·by_cases hf:x≤122
      ·have HF:=Lib.hid (idB_yes2 (.inr ⟨he,hf⟩))
       go_enter Tryz.func127,Tryz.ntmps127
       go_wp2
       go_ret
       exact ⟨by rw [HF.out]; rfl,rfl⟩
      ·have HF:=Lib.hid (idB_no (x:=x) (by omega) (by omega) (by omega))
       go_enter Tryz.func127,Tryz.ntmps127
       go_wp2
       go_ret
       exact ⟨by rw [HF.out]; rfl,rfl⟩
     ·have HF:=Lib.hid (idB_no (x:=x) (by omega) (by omega) (by omega))
      go_enter Tryz.func127,Tryz.ntmps127
      go_wp2
      go_ret
      exact ⟨by rw [HF.out]; rfl,rfl⟩
   ·have he:¬ 97≤x:=by omega
    have HF:=Lib.hid (idB_no (x:=x) (by omega) (by omega) (by omega))
    go_enter Tryz.func127,Tryz.ntmps127
    go_wp2
    go_ret
    exact ⟨by rw [HF.out]; rfl,rfl⟩
 ·have hc:¬ 65≤x:=by omega
  have he:¬ 97≤x:=by omega
  by_cases h45:x=45
  ·subst h45
   have HF:=Lib.hid idB_yes3
   clear ha hc he h0 h1
   go_enter Tryz.func127,Tryz.ntmps127
   go_wp2
   go_ret
   exact ⟨by rw [HF.out]; rfl,rfl⟩
  ·have HF:=Lib.hid (idB_no (x:=x) (by omega) (by omega) h45)
   have hb45:(x == 45)=false:=by simp [h45]
   clear h45
   go_enter Tryz.func127,Tryz.ntmps127
   go_wp2
   go_ret
   exact ⟨by rw [HF.out]; rfl,rfl⟩

theorem ref_numeric_all (s:ByteArray) (w:World) (hs:s.size≤maxLen) :
  Calls Tryz.prog 184 #[.string s] w fun e w'=>e=.returned (.bool (numeric s.data.toList))∧w=w':=by
 unfold maxLen at hs
 have LS:=Lib.hid (Lib.size_eq s)
 go_enter Tryz.func184,Tryz.ntmps184
 go_wp2
 go_loop [3] (fun t=>∃ k:Nat,k≤s.size∧t=.int .i64 k∧Hid (∀ j,j<k→isDig (s.data.toList.getD j 0)=true)) (fun t=>s.size - (intOf t).toNat)
 case atStart=>exact ⟨0,by omega,rfl,fun j h=>by omega⟩
 case round =>
  obtain ⟨k,hk,rfl,HD⟩:=hrel
  by_cases hlt:k<s.size
  ·have HX:=Lib.hid (at_text s k hlt)
   have HI:=Lib.hid (isDig_at s.data.toList k)
   have HN:Hid (¬ (48≤(s[k].toNat:Int)∧(s[k].toNat:Int)≤57)→numeric s.data.toList=false):=fun hn=>(numeric_no _).2 fun hh=>hn (by
    have:=run_dig s.data.toList k (by rw [hh.2,← LS.out]; exact hlt)
    rw [HI.out,← HX.out] at this; exact this)
   by_cases h1:48≤(s[k].toNat:Int)
   ·by_cases h2:(s[k].toNat:Int)≤57
    ·go_wp2
     go_round
     case rel =>
      refine ⟨k+1,by omega,by go_num,fun j hj=>?_⟩
      rcases Nat.lt_or_ge j k with hj1 | hj1
      ·exact HD.out j hj1
      ·obtain rfl:j=k:=by omega
       exact HI.out.2 (by rw [← HX.out]; exact ⟨h1,h2⟩)
     case measure=>simp [intOf]; omega
    ·go_wp2
     go_ret
     exact ⟨by rw [HN.out (by omega)]; rfl,rfl⟩
   ·go_wp2
    go_ret
    exact ⟨by rw [HN.out (by omega)]; rfl,rfl⟩
  ·obtain rfl:k=s.size:=by omega
   have HR:Hid (run s.data.toList=s.data.toList.length):=run_stop _ _ (Nat.le_refl _) (by rw [← LS.out]; exact HD.out) (.inl rfl)
   by_cases h0:s.size=0
   ·have hem:=(empty_iff s).2 h0
    have hem2:(!s.toList.isEmpty)=false:=by rw [hem]; rfl
    have HF:Hid (numeric s.data.toList=false):=(numeric_no _).2 fun hh=>by have:=hh.1; rw [← LS.out] at this; omega
    have H0:=Lib.hid h0; clear h0
    go_wp2
    go_ret
    exact ⟨by rw [HF.out]; rfl,rfl⟩
   ·have hem:=(empty_no s).2 h0
    have hem2:(!s.toList.isEmpty)=true:=by rw [hem]; rfl
    have HF:Hid (numeric s.data.toList=true):=(numeric_iff _).2 ⟨by rw [← LS.out]; omega,HR.out⟩
    go_wp2
    go_ret
    exact ⟨by rw [HF.out]; rfl,rfl⟩

theorem ref_numeric_any (s:ByteArray) (w:World) (hs:s.size≤1000000) :
  Calls Tryz.prog 184 #[.string s] w fun e w'=>e=.returned (.bool (numeric s.data.toList))∧w=w':=ref_numeric_all s w (by unfold maxLen; omega)
theorem wrong_all (s:ByteArray) (i:Nat) (pre:Bool) (w:World) (hs:s.size≤maxLen) (hi:i≤maxLen) :
  Calls Tryz.prog 126 #[.string s,.int .i64 i,.bool pre] w fun e w'=>e=.returned (.int .i64 (fault s.data.toList i pre))∧w=w':=by
 unfold maxLen at hs hi
 have HL:=Lib.hid (Lib.size_eq s)
 by_cases h0:s.size=0
 ·have HF:=Lib.hid (fault_5 (s:=s.data.toList) i pre (by rw [← HL.out]; exact h0))
  have hem:=(empty_iff s).2 h0
  have H0:=Lib.hid h0; clear h0
  go_enter Tryz.func126,Tryz.ntmps126
  go_wp2
  go_ret
  exact ⟨by rw [HF.out]; rfl,rfl⟩
 ·have hem:=(empty_no s).2 h0
  have H0:Hid (s.data.toList.length≠0):=by unfold Hid; rw [← HL.out]; exact h0
  clear h0
  by_cases h1:255<s.size
  ·have HF:=Lib.hid (fault_4 (s:=s.data.toList) (i:=i) pre H0.out (.inl (by rw [← HL.out]; exact h1)))
   go_enter Tryz.func126,Tryz.ntmps126
   go_wp2
   go_ret
   exact ⟨by rw [HF.out]; rfl,rfl⟩
  ·have HS:Hid (s.size≤1000000):=by unfold Hid; omega
   by_cases h2:15<i
   ·have HF:=Lib.hid (fault_4 (s:=s.data.toList) (i:=i) pre H0.out (.inr h2))
    go_enter Tryz.func126,Tryz.ntmps126
    go_wp2
    go_ret
    exact ⟨by rw [HF.out]; rfl,rfl⟩
   ·have H12:Hid (¬ (255<s.data.toList.length∨16≤i)):=by unfold Hid; rw [← HL.out]; omega
    cases pre
    ·have HF:=Lib.hid (fault_0 (s:=s.data.toList) (i:=i) (pre:=false) H0.out H12.out (by simp))
     go_enter Tryz.func126,Tryz.ntmps126
     go_wp2
     go_ret
     exact ⟨by rw [HF.out]; rfl,rfl⟩
    ·cases h3:numeric s.data.toList
     ·have HF:=Lib.hid (fault_0 (s:=s.data.toList) (i:=i) (pre:=true) H0.out H12.out (by simp [h3]))
      have H3:=Lib.hid h3; clear h3
      go_enter Tryz.func126,Tryz.ntmps126
      go_wp2_with fail
      refine (ref_numeric_any s _ HS.out).mono ?_
      rintro e w' ⟨rfl,rfl⟩
      rw [H3.out]
      go_wp2
      go_ret
      exact ⟨by rw [HF.out]; rfl,rfl⟩
     ·have HF:Hid (fault s.data.toList i true=if isNum s.data.toList=true then 0 else 3):=by
       unfold Hid
       cases h4:isNum s.data.toList
       ·exact fault_3 H0.out H12.out ⟨rfl,h3,h4⟩
       ·exact fault_0 H0.out H12.out (by simp [h4])
      have H3:=Lib.hid h3; clear h3
      cases h4:isNum s.data.toList
      ·have H4:=Lib.hid h4; clear h4
       go_enter Tryz.func126,Tryz.ntmps126
       go_wp2_with fail
       refine (ref_numeric_any s _ HS.out).mono ?_
       rintro e w' ⟨rfl,rfl⟩
       rw [H3.out]
       go_wp2_with fail
       refine (ref_is_any s _ HS.out).mono ?_
       rintro e w1 ⟨rfl,rfl⟩
       rw [H4.out]
       go_wp2
       go_ret
       exact ⟨by rw [HF.out,H4.out]; rfl,rfl⟩
      ·have H4:=Lib.hid h4; clear h4
       go_enter Tryz.func126,Tryz.ntmps126
       go_wp2_with fail
       refine (ref_numeric_any s _ HS.out).mono ?_
       rintro e w' ⟨rfl,rfl⟩
       rw [H3.out]
       go_wp2_with fail
       refine (ref_is_any s _ HS.out).mono ?_
       rintro e w1 ⟨rfl,rfl⟩
       rw [H4.out]
       go_wp2
       go_ret
       exact ⟨by rw [HF.out,H4.out]; rfl,rfl⟩

end Go.Proofs.YtgakcdcfblgagaaGreatDoor.Ident
namespace Go.Proofs.YtgakcdcfblgagaaGreatDoor.Came
open Go.ChangeShapes Go.WideShapes Go.RowKit Go.Deep


theorem field_read {H:Type} {enc:TypeId × Value→H} {W:World} {n:Nat} {z:Value} {y:DataW H × List MemPlace} (h:DataW.trod enc Tryz.prog W 0 (fun _=>true) true n 34 [z]=some y):∃ a:Nat,z=.int .u64 a∧a<18446744073709551616:=by
 obtain ⟨m,hm,_,hw⟩:=DataW.trod_int Tryz.underlying34 h
 have hb:0≤m∧m≤18446744073709551615:=by simpa [Lit.wf,IntKind.min,IntKind.max,IntKind.signed,IntKind.bits] using hw
 obtain ⟨a,rfl⟩:=Int.eq_ofNat_of_zero_le hb.1
 simp at hm
 exact ⟨a,hm,by omega⟩

end Go.Proofs.YtgakcdcfblgagaaGreatDoor.Came
