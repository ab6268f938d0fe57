/-
  What the theorem of the last text needs of these: NumText, NumCmp, MoReach, NaWalk, SvMath, IdGoodMath, IdByte, IdJoin, SvMem, IdNumeric. Conditions: as each theorem states.
-/
import Derived.Test.YtneilnibghhgmaaGreatDoorFwA1
import Derived.Test.YtneilnibghhgmaaGreatDoorFwA2
import Derived.Test.YtneilnibghhgmaaGreatDoorShelf
import Derived.Lib.ItoaMem
import Derived.Lib.ItoaLen
import Derived.SizedLaws
import Derived.Lib.Join
set_option maxRecDepth 100000
set_option maxHeartbeats 25600000
namespace Go.Proofs.YtneilnibghhgmaaGreatDoor.Num
open Go.RowKit Go.Sort

def Tab (w:World):Prop:=Lib.TabIs Tryz.prog w "internal/strconv.uint64pow10" .u64 Lib.pow10Tab
theorem Tab.kept {w w':World} (h:Tab w) (hb:Below w.heap.size w w'):Tab w':=by
 unfold Tab Lib.TabIs World.var? at *
 cases hg:Tryz.prog.globalNamed "internal/strconv.uint64pow10" with
 | none=>simp [hg] at h
 | some g =>
  simp only [hg,Option.bind_some] at h ⊢
  have hlt:g<w.heap.size:=by
   rcases Nat.lt_or_ge g w.heap.size with h' | h'
   ·exact h'
   ·rw [Array.getElem?_eq_none h'] at h; simp at h
  rw [hb.block g hlt]
  exact h

theorem below_grow (w:World) (k:Nat) (os:Array Obj):Below w.heap.size w (grow (w.drewN k) os):=by
 refine ⟨rfl,rfl,rfl,?_,fun j hj=>?_⟩
 ·show w.heap.size≤(w.heap ++ os).size
  simp
 ·show (w.heap ++ os)[j]?=_
  rw [Array.getElem?_append_left hj]

theorem holds_zero0 (w:World) (T:TypeId) (nd:Nat) (hs:nd≤24):Holds (fun (b:UInt8)=>Value.int .u8 b.toNat) (w.alloc (.cells Lib.zeros24 T)) w.heap.size 0 (Array.replicate nd (0:UInt8)):=fun j hj=>by
 have hj':j<nd:=by simpa using hj
 refine ⟨?_,World.frozen?_alloc_new _ _ _ _⟩
 rw [World.cell?_alloc_new,Lib.zeros24_at _ (by omega),getElem!_pos _ j hj]
 simp

theorem fmt_any (u:Nat) (h:u<18446744073709551616) (w:World) (htab:Tab w) :
  Calls Tryz.prog 167 #[.int .u64 u,.int .i64 10] w fun e w'=>e=.returned (.string ⟨(Lib.decDigits u).toArray⟩)∧Below w.heap.size w w':=by
 have HU:=Lib.hid h; clear h
 by_cases hs:u<100
 ·go_enter Tryz.func167,Tryz.ntmps167
  go_wp2_with fail
  refine (Tryz.internal_strconv_small u hs _).mono ?_
  rintro e w' ⟨rfl,rfl⟩
  go_wp2
  go_ret
  exact ⟨rfl,Below.refl _ _⟩
 ·have hu1:1≤u:=by omega
  have hnd:=Lib.nDigits_le20 u HU.out
  have hal:Tryz.prog.arrayLen 205=24:=by simp [Program.arrayLen,Tryz.underlying205]
  have hsl:∀ W,(Instr.sliceAt 205 (.pointer (some ⟨w.heap.size,0,none⟩)) none (some (.int .i64 (Lib.nDigits u))) none).run Tryz.prog W=.ok (.slice (some ⟨w.heap.size,0,none⟩) (Lib.nDigits u) 24) W:=fun W=>by
   rw [run_sliceAt_array_h W 205 ⟨w.heap.size,0,none⟩ (by simp [Program.arrayLen,Program.elem,Tryz.underlying205]) .i64 (Lib.nDigits u:Int) (by omega) (by rw [hal]; omega)]
   go_simp
  have hH0:=holds_zero0 w 205 (Lib.nDigits u) (by omega)
  have hfmt:=Tryz.internal_strconv_formatBase10 w.heap.size 0 24 u (Array.replicate (Lib.nDigits u) 0) (w.alloc (.cells Lib.zeros24 205)) hH0 (by rw [Array.size_replicate]; exact Lib.lt_pow_nDigits u) HU.out (by rw [Array.size_replicate]; omega)
  rw [Array.size_replicate] at hfmt
  have HH0:=Lib.hid hH0
  have HFMT:=Lib.hid hfmt
  have HT:=Lib.hid htab
  clear hH0 hal hfmt htab
  go_enter Tryz.func167,Tryz.ntmps167
  go_wp2_with fail
  refine (Tryz.internal_strconv_numDigits u hu1 HU.out _ (Lib.tabIs_alloc HT.out _)).mono ?_
  rintro e w' ⟨rfl,rfl⟩
  go_wp2_with fail
  refine HFMT.out.mono ?_
  rintro e w' ⟨rfl,k,v',dk,rfl,hF⟩
  have hcv:(convert 108 9 (.slice (some ⟨w.heap.size,0,none⟩) (Lib.nDigits u) 24)).run Tryz.prog ((putRow (fun (b:UInt8)=>Value.int .u8 b.toNat) (w.alloc (.cells Lib.zeros24 205)) w.heap.size 0 dk).drewN k)=.ok (.string ⟨(Lib.decDigits u).toArray⟩) ((putRow (fun (b:UInt8)=>Value.int .u8 b.toNat) (w.alloc (.cells Lib.zeros24 205)) w.heap.size 0 dk).drewN k):=by
   have h:=run_convert_bytes_back (P:=Tryz.prog) ((putRow (fun (b:UInt8)=>Value.int .u8 b.toNat) (w.alloc (.cells Lib.zeros24 205)) w.heap.size 0 dk).drewN k) 108 9 5 ⟨w.heap.size,0,none⟩ 24 (Lib.decDigits u) Tryz.underlying108 Tryz.underlying5 Tryz.underlying9 (fun j hj=>by
    rw [Lib.row_is_numeral hF j hj,Lib.add_plain,World.cell?_drewN]
    exact cell?_putRow (fun (b:UInt8)=>Value.int .u8 b.toNat) _ w.heap.size 0 _ dk HH0.out (by rw [hF.size,Array.size_replicate]) j (by rw [hF.size]; rw [Lib.decDigits_length] at hj; exact hj))
   rw [Lib.decDigits_length] at h
   exact h
  have HB:Hid (Below w.heap.size w ((putRow (fun (b:UInt8)=>Value.int .u8 b.toNat) (w.alloc (.cells Lib.zeros24 205)) w.heap.size 0 dk).drewN k)):=by
   obtain ⟨os',_,e⟩:=putRow_grow_new (fun (b:UInt8)=>Value.int .u8 b.toNat) w #[.cells Lib.zeros24 205] w.heap.size 0 dk (Nat.le_refl _)
   unfold Hid
   rw [alloc_eq_grow,e]
   exact below_grow w k os'
  generalize (putRow (fun (b:UInt8)=>Value.int .u8 b.toNat) (w.alloc (.cells Lib.zeros24 205)) w.heap.size 0 dk).drewN k=W at hcv HB ⊢
  go_wp2
  go_ret
  exact ⟨rfl,HB.out⟩

theorem format_any (u:Nat) (h:u<18446744073709551616) (w:World) (htab:Tab w) :
  Calls Tryz.prog 138 #[.int .u64 u,.int .i64 10] w fun e w'=>e=.returned (.string ⟨(Lib.decDigits u).toArray⟩)∧Below w.heap.size w w':=by
 have HU:=Lib.hid h; clear h
 have HT:=Lib.hid htab; clear htab
 go_enter Tryz.func138,Tryz.ntmps138
 go_wp2_with fail
 refine (fmt_any u HU.out _ HT.out).mono ?_
 rintro e w1 ⟨rfl,hb1⟩
 go_wp2
 go_ret
 exact ⟨rfl,hb1⟩

theorem text_any (u:Nat) (h:u<18446744073709551616) (w:World) (htab:Tab w) :
  Calls Tryz.prog 104 #[.int .u64 u] w fun e w'=>e=.returned (.string ⟨(Lib.decDigits u).toArray⟩)∧Below w.heap.size w w':=by
 have HU:=Lib.hid h; clear h
 have HT:=Lib.hid htab; clear htab
 go_enter Tryz.func104,Tryz.ntmps104
 go_wp2_with fail
 refine (format_any u HU.out _ HT.out).mono ?_
 rintro e w1 ⟨rfl,hb1⟩
 go_wp2
 go_ret
 exact ⟨rfl,hb1⟩

theorem dec_all (u:Nat):AllDig (Lib.decDigits u):=by
 induction u using Nat.strongRecOn with
 | _ u ih =>
  rw [Lib.decDigits]
  split
  ·rename_i h
   intro b hb
   simp only [List.mem_singleton] at hb
   subst hb
   rw [isDig_iff,UInt8.toNat_ofNat']; omega
  ·rename_i h
   intro b hb
   rw [List.mem_append] at hb
   rcases hb with hb | hb
   ·exact ih (u / 10) (by omega) b hb
   ·simp only [List.mem_singleton] at hb
    subst hb
    rw [isDig_iff,UInt8.toNat_ofNat']; omega
theorem dec_val (u:Nat):val (Lib.decDigits u)=u:=by
 induction u using Nat.strongRecOn with
 | _ u ih =>
  rw [Lib.decDigits]
  split
  ·rename_i h
   rw [val_cons]
   simp [UInt8.toNat_ofNat',val,valFrom]; omega
  ·rename_i h
   rw [val_snoc,ih (u / 10) (by omega),UInt8.toNat_ofNat']; omega
theorem dec_pos (u:Nat):0<(Lib.decDigits u).length:=by rw [Lib.decDigits_length]; exact Lib.nDigits_pos u
theorem nd_le:∀ (k u:Nat),u<10 ^ k→1≤k→Lib.nDigits u≤k
 | 0,_,_,h=>by omega
 | k+1,u,h1,_=>by
  by_cases h:u<10
  ·rw [Lib.nDigits_small h]; omega
  ·rw [Lib.nDigits_big h]
   rw [Nat.pow_succ] at h1
   rcases Nat.eq_zero_or_pos k with h0 | h0
   ·subst h0; simp at h1; omega
   ·have:=nd_le k (u / 10) (by omega) h0
    omega
theorem dec_pad (u:Nat):pad (Lib.decDigits u)=false:=by
 rw [pad_no]
 rintro ⟨h1,h2⟩
 rw [Lib.decDigits_length] at h1
 have hv:=dec_val u
 have hl:=Lib.decDigits_length u
 cases hd:Lib.decDigits u with
 | nil=>rw [hd] at hl; simp at hl; omega
 | cons b r =>
  rw [hd] at hv h2 hl
  have ha:=dec_all u
  rw [hd,allDig_cons] at ha
  have hr:=val_lt ha.2
  have hb:b.toNat=48:=by simpa using h2
  rw [val_cons,hb] at hv
  simp at hv hl
  rw [hv] at hr
  have:=nd_le r.length u hr (by omega)
  omega
theorem dec_num (u:Nat):isNum (Lib.decDigits u)=true:=by
 rw [isNum_iff]
 exact ⟨dec_pos u,run_all (dec_all u),dec_pad u⟩
end Go.Proofs.YtneilnibghhgmaaGreatDoor.Num
namespace Go.Proofs.YtneilnibghhgmaaGreatDoor.Num
open Go.RowKit

theorem cmp_any (x y:Nat) (w:World) :
  Calls Tryz.prog 151 #[.int .i64 x,.int .i64 y] w fun e w'=>e=.returned (.int .i64 (ordN x y))∧w=w':=by
 rcases Nat.lt_trichotomy x y with h | h | h
 ·have HF:=Lib.hid (ordN_lt h)
  go_enter Tryz.func151,Tryz.ntmps151
  go_wp2
  go_ret
  exact ⟨by rw [HF.out]; rfl,rfl⟩
 ·have HF:=Lib.hid (ordN_eq h)
  subst h
  go_enter Tryz.func151,Tryz.ntmps151
  go_wp2
  go_ret
  exact ⟨by rw [HF.out]; rfl,rfl⟩
 ·have HF:=Lib.hid (ordN_gt h)
  go_enter Tryz.func151,Tryz.ntmps151
  go_wp2
  go_ret
  exact ⟨by rw [HF.out]; rfl,rfl⟩

theorem strcmp_any (s t:ByteArray) (w:World) :
  Calls Tryz.prog 83 #[.string s,.string t] w fun e w'=>e=.returned (.int .i64 (Lib.compareBytes s.data.toList t.data.toList))∧w=w':=by
 have hx:∀ W,(callFunc 148 #[.string s,.string t]).run Tryz.prog W=.ok (.value (.int .i64 (Lib.compareBytes s.data.toList t.data.toList))) W:=fun W=>by
  rw [run_callFunc_extern Tryz.func148 (by kernel_rfl) (by kernel_rfl) (by kernel_rfl) (e:=Extern.BytealgCompare.compare) (by kernel_rfl),Lib.run_compareString]
  rfl
 generalize Lib.compareBytes s.data.toList t.data.toList=r at hx ⊢
 go_enter Tryz.func83,Tryz.ntmps83
 go_wp2
 go_ret
 exact ⟨rfl,rfl⟩

theorem compare_anyD (s t:ByteArray) (w:World) (hs:s.size≤maxLen) (ht:t.size≤maxLen) :
  Calls Tryz.prog 201 #[.string s,.string t] w fun e w'=>e=.returned (.int .i64 (cmpNum s.data.toList t.data.toList))∧BelowD w.heap.size w w':=by
 have hs':=hs
 have ht':=ht
 unfold maxLen at hs' ht'
 have HS:=Lib.hid hs
 have HT:=Lib.hid ht
 clear hs ht
 have LS:=Lib.hid (Lib.size_eq s)
 have LT:=Lib.hid (Lib.size_eq t)
 cases ha:isNum s.data.toList
 ·have HF:=Lib.hid (cmpNum_no (b:=t.data.toList) (.inl ha))
  have HA:=Lib.hid ha; clear ha
  go_enter Tryz.func201,Tryz.ntmps201
  go_wp2_with fail
  refine (is_anyD s _ HS.out).mono ?_
  rintro e w1 ⟨rfl,hb1⟩
  rw [HA.out]
  go_wp2
  go_ret
  exact ⟨by rw [HF.out]; rfl,hb1⟩
 ·cases hb:isNum t.data.toList
  ·have HF:=Lib.hid (cmpNum_no (a:=s.data.toList) (.inr hb))
   have HA:=Lib.hid ha; clear ha
   have HB:=Lib.hid hb; clear hb
   go_enter Tryz.func201,Tryz.ntmps201
   go_wp2_with fail
   refine (is_anyD s _ HS.out).mono ?_
   rintro e w1 ⟨rfl,hb1⟩
   rw [HA.out]
   go_wp2_with fail
   refine (is_anyD t _ HT.out).mono ?_
   rintro e w2 ⟨rfl,hb2⟩
   rw [HB.out]
   have hz1:=hb1.size
   go_wp2
   go_ret
   exact ⟨by rw [HF.out]; rfl,hb1.trans (hb2.mono hz1)⟩
  ·have HF:=Lib.hid (cmpNum_yes ha hb)
   have HG:=Lib.hid (fun h=>ordN_lt (shorter ha hb h))
   have HG2:=Lib.hid (fun h=>ordN_gt (shorter hb ha h))
   have HG3:=Lib.hid (fun h=>alike_val ha hb h)
   have HA:=Lib.hid ha; clear ha
   have HB:=Lib.hid hb; clear hb
   go_enter Tryz.func201,Tryz.ntmps201
   go_wp2_with fail
   refine (is_anyD s _ HS.out).mono ?_
   rintro e w1 ⟨rfl,hb1⟩
   rw [HA.out]
   go_wp2_with fail
   refine (is_anyD t _ HT.out).mono ?_
   rintro e w2 ⟨rfl,hb2⟩
   rw [HB.out]
   have hz1:=hb1.size
   have HBB:=Lib.hid (hb1.trans (hb2.mono hz1))
   go_wp2_with fail
   refine (cmp_any _ _ _).mono ?_
   rintro e w' ⟨rfl,rfl⟩
   rcases Nat.lt_trichotomy s.size t.size with h | h | h
   ·rw [ordN_lt h]
    go_wp2
    go_ret
    exact ⟨by rw [HF.out,HG.out (by rw [← LS.out,← LT.out]; exact h)]; rfl,HBB.out⟩
   ·rw [ordN_eq h]
    have H:=Lib.hid h; clear h
    go_wp2_with fail
    refine (strcmp_any _ _ _).mono ?_
    rintro e w' ⟨rfl,rfl⟩
    go_wp2
    go_ret
    exact ⟨by rw [HF.out,← HG3.out (by rw [← LS.out,← LT.out]; exact H.out)]; rfl,HBB.out⟩
   ·rw [ordN_gt h]
    go_wp2
    go_ret
    exact ⟨by rw [HF.out,HG2.out (by rw [← LS.out,← LT.out]; exact h)]; rfl,HBB.out⟩
end Go.Proofs.YtneilnibghhgmaaGreatDoor.Num
namespace Go.Proofs.YtneilnibghhgmaaGreatDoor.Came
open Go.ChangeShapes Go.WideShapes Go.RowKit
def Sized {H:Type} (t:TypeId) (d:DataW H):Prop:=(d.weights Tryz.prog t).all (·≤reachBytes)=true
theorem sized_each {H:Type} {ts:List TypeId} {ds:List (DataW H)} (h:(DataW.weightsEach Tryz.prog ts ds).all (·≤reachBytes)=true) {j:Nat} {t:TypeId} {d:DataW H} (ht:ts[j]?=some t) (hd:ds[j]?=some d):Sized t d:=by
 unfold Sized
 rw [List.all_eq_true] at h ⊢
 exact fun n hn=>h n (DataW.weights_mem_each ht hd n hn)
theorem Sized.part {H:Type} {t:TypeId} {fs:Array Field} {xs:List (DataW H × List MemPlace)} (h:Sized t (.agg (xs.map (·.1)):DataW H)) (hu:Tryz.prog.underlying t=some (.struct fs)) {i:Nat} {e:TypeId} {y:DataW H × List MemPlace} (hf:(fs[i]?).map (·.type)=some e) (hy:xs[i]?=some y):Sized e y.1:=by
 obtain ⟨f,hf,rfl⟩:=Option.map_eq_some_iff.1 hf
 unfold Sized at h
 simp only [DataW.weights,hu] at h
 exact sized_each h (j:=i) (by simp [hf]) (by simp [hy])
theorem weightsAll_mem {H:Type} {P:Program} {e:TypeId}:∀ {l:List (DataW H)} {d:DataW H},d ∈ l→∀ n ∈ d.weights P e,n ∈ DataW.weightsAll P e l
 | x :: l,d,hd,n,hn=>by
  simp only [DataW.weightsAll,List.mem_append]
  rcases List.mem_cons.1 hd with rfl | h
  ·exact Or.inl hn
  ·exact Or.inr (weightsAll_mem h n hn)
theorem Sized.len {H:Type} {t e:TypeId} {xs zs:List (DataW H × List MemPlace)} (h:Sized t (.slice (xs.map (·.1)) (zs.map (·.1)):DataW H)) (hu:Tryz.prog.underlying t=some (.slice e)):xs.length * Tryz.prog.bytesOf e≤reachBytes:=by
 unfold Sized at h
 rw [List.all_eq_true] at h
 have:=h ((xs.length+zs.length) * Tryz.prog.bytesOf e) (by simp only [DataW.weights,hu,List.length_map,List.mem_cons,true_or])
 have h2:(xs.length+zs.length) * Tryz.prog.bytesOf e≤reachBytes:=by simpa using this
 exact Nat.le_trans (Nat.mul_le_mul_right _ (Nat.le_add_right _ _)) h2
theorem Sized.elem {H:Type} {t e:TypeId} {xs zs:List (DataW H × List MemPlace)} (h:Sized t (.slice (xs.map (·.1)) (zs.map (·.1)):DataW H)) (hu:Tryz.prog.underlying t=some (.slice e)) {i:Nat} {y:DataW H × List MemPlace} (hy:xs[i]?=some y):Sized e y.1:=by
 unfold Sized at h ⊢
 rw [List.all_eq_true] at h ⊢
 intro n hn
 refine h n ?_
 have hm:n ∈ DataW.weightsAll Tryz.prog e (xs.map (·.1)):=weightsAll_mem (List.mem_map.2 ⟨y,List.mem_of_getElem? hy,rfl⟩) n hn
 simp only [DataW.weights,hu,List.mem_cons,List.mem_append]
 exact Or.inr (Or.inl hm)
theorem texts_len {H:Type} {enc:TypeId × Value→H} {W:World} {fuel:Nat} {a:Option Addr} {len cap:Nat} {y:DataW H × List MemPlace}
  (hf:DataW.trod enc Tryz.prog W 0 (fun _=>true) true fuel 45 [.slice a len cap]=some y) (hs:Sized 45 y.1):len≤8796093022208:=by
 rcases DataW.trod_slice Tryz.underlying45 hf with ⟨hz,_⟩ | ⟨b,n,c,elems,rest,n2,_,hz,hy,_,_,_,hel,_,_,_⟩
 ·simp only [List.cons.injEq,and_true,Value.slice.injEq] at hz
  omega
 ·simp only [List.cons.injEq,and_true,Value.slice.injEq] at hz
  obtain ⟨_,rfl,_⟩:=hz
  subst hy
  have:=hs.len Tryz.underlying45
  rw [hel,show Tryz.prog.bytesOf 9=16 by kernel_rfl] at this
  have e:reachBytes=140737488351232:=by decide
  omega
end Go.Proofs.YtneilnibghhgmaaGreatDoor.Came
namespace Go.Proofs.YtneilnibghhgmaaGreatDoor.Name
open Go.RowKit Num

theorem plain_any (x:Int) (w:World) (h0:0≤x) (h1:x≤255) :
  Calls Tryz.prog 135 #[.int .u8 x] w fun e w'=>e=.returned (.bool (fstB x))∧w=w':=by
 by_cases ha:97≤x
 ·by_cases hb:x≤122
  ·have HF:=Lib.hid ((fstB_iff x).2 (.inl ⟨ha,hb⟩))
   go_enter Tryz.func135,Tryz.ntmps135
   go_wp2
   go_ret
   exact ⟨by rw [HF.out]; rfl,rfl⟩
  ·have HF:=Lib.hid (fstB_no (x:=x) (by omega))
   have hc:48≤x:=by omega
   have hd:¬ x≤57:=by omega
   go_enter Tryz.func135,Tryz.ntmps135
   go_wp2
   go_ret
   exact ⟨by rw [HF.out]; rfl,rfl⟩
 ·by_cases hc:48≤x
  ·by_cases hd:x≤57
   ·have HF:=Lib.hid ((fstB_iff x).2 (.inr ⟨hc,hd⟩))
    go_enter Tryz.func135,Tryz.ntmps135
    go_wp2
    go_ret
    exact ⟨by rw [HF.out]; rfl,rfl⟩
   ·have HF:=Lib.hid (fstB_no (x:=x) (by omega))
    go_enter Tryz.func135,Tryz.ntmps135
    go_wp2
    go_ret
    exact ⟨by rw [HF.out]; rfl,rfl⟩
  ·have HF:=Lib.hid (fstB_no (x:=x) (by omega))
   go_enter Tryz.func135,Tryz.ntmps135
   go_wp2
   go_ret
   exact ⟨by rw [HF.out]; rfl,rfl⟩
def mrkB (x:Int):Bool:=decide (x=45∨x=95∨x=46)
theorem mrkB_iff (x:Int):mrkB x=true↔x=45∨x=95∨x=46:=by simp [mrkB]
theorem mark_any (x:Int) (w:World) :
  Calls Tryz.prog 136 #[.int .u8 x] w fun e w'=>e=.returned (.bool (mrkB x))∧w=w':=by
 by_cases h1:x=45
 ·have HF:=Lib.hid ((mrkB_iff x).2 (.inl h1))
  have b1:(x == 45)=true:=by rw [h1]; rfl
  clear h1
  go_enter Tryz.func136,Tryz.ntmps136
  go_wp2
  go_ret
  exact ⟨by rw [HF.out]; rfl,rfl⟩
 ·have b1:(x == 45)=false:=by simp [h1]
  by_cases h2:x=95
  ·have HF:=Lib.hid ((mrkB_iff x).2 (.inr (.inl h2)))
   have b2:(x == 95)=true:=by rw [h2]; rfl
   clear h2 h1
   go_enter Tryz.func136,Tryz.ntmps136
   go_wp2
   go_ret
   exact ⟨by rw [HF.out]; rfl,rfl⟩
  ·have b2:(x == 95)=false:=by simp [h2]
   have HF:Hid (mrkB x=(x == 46)):=by
    unfold Hid; rw [Bool.eq_iff_iff,mrkB_iff]; simp [h1,h2]
   clear h1 h2
   go_enter Tryz.func136,Tryz.ntmps136
   go_wp2
   go_ret
   exact ⟨by rw [HF.out]; rfl,rfl⟩
def NlJ (w:World) (A:Option Addr) (n c:Nat) (l:List UInt8) (a':Act) (w':World):Prop :=
 w=w'∧∃ (k:Nat) (u4 u5 u6 u7 u8 u9 u10 u11 u12 u13 u14 u15 u16 u17 u18 u19 u20 u21 u22 u23 u24 u25 u26 u27 u28:Value),k≤n∧(∀ j,j<k→okB j (byteAt l j)=true)∧a'={ tmps:=#[.slice A n c,undef,.int .i64 0,.int .i64 k,u4,u5,u6,u7,u8,u9,u10,u11,u12,u13,u14,u15,u16,u17,u18,u19,u20,u21,u22,u23,u24,u25,u26,u27,u28],defers:=[] }
def NlM (n:Nat) (a':Act) (_:World):Nat:=n - (intOf (a'.tmps.getD 3 undef)).toNat
theorem nlength_any (A:Option Addr) (n c:Nat) (l:List UInt8) (w:World) (h:Row w A n l) :
  Calls Tryz.prog 102 #[.slice A n c] w fun e w'=>e=.returned (.int .i64 (nlen l))∧w=w':=by
 obtain ⟨hl,hm,hc⟩:=h
 unfold maxLen at hm
 have HC:=Lib.hid hc; clear hc
 have HL:=Lib.hid hl; clear hl
 go_enter Tryz.func102,Tryz.ntmps102
 go_wp2
 refine wp_scope_back 0 (NlJ w A n c l) (NlM n) rfl ?_ ?_
 ·rintro a' w' ⟨rfl,k,u4,u5,u6,u7,u8,u9,u10,u11,u12,u13,u14,u15,u16,u17,u18,u19,u20,u21,u22,u23,u24,u25,u26,u27,u28,hk,hd,rfl⟩
  have HD:=Lib.hid hd; clear hd
  by_cases hlt:k<n
  ·obtain ⟨b,o,rfl,hb,hcell⟩:=HC.out (by omega)
   have hx:=hcell k hlt
   clear hcell HC
   have hbd:=byteAt_bd l k
   have HN:Hid (okB k (byteAt l k)=true→∀ j,j<k+1→okB j (byteAt l j)=true):=fun hi j hj=>by
    rcases Nat.lt_or_ge j k with hj1 | hj1
    ·exact HD.out j hj1
    ·obtain rfl:j=k:=by omega
     exact hi
   have HS:Hid (okB k (byteAt l k)=false→nlen l=k):=fun hn=>nrun_stop l 0 k (by rw [HL.out]; omega) (fun j hj=>by rw [Nat.zero_add]; exact HD.out j hj) (.inr (by rw [Nat.zero_add]; exact hn))
   generalize byteAt l k=x at hx hbd HN HS
   obtain ⟨hx0,hx1⟩:=hbd
   go_wp2_with fail
   refine (plain_any _ _ hx0 hx1).mono ?_
   rintro e w' ⟨rfl,rfl⟩
   cases h1:fstB x
   ·have H1:=Lib.hid h1; clear h1
    by_cases hk0:k=0
    ·have HZ:=Lib.hid (HS.out (okB_no H1.out (.inl hk0)))
     have hk1:¬ 0<k:=by omega
     clear hk0
     go_wp2
     simp only [Exit.jump]
     go_ret
     exact ⟨ret_int (by rw [HZ.out]),rfl⟩
    ·have hk1:0<k:=by omega
     have HK:=Lib.hid hk0; clear hk0
     go_wp2_with fail
     refine (mark_any _ _).mono ?_
     rintro e w' ⟨rfl,rfl⟩
     cases h2:mrkB x
     ·have HZ:=Lib.hid (HS.out (okB_no H1.out (.inr (fun h=>by rw [(mrkB_iff x).2 h] at h2; cases h2))))
      clear h2
      go_wp2
      simp only [Exit.jump]
      go_ret
      exact ⟨ret_int (by rw [HZ.out]),rfl⟩
     ·have HY:=Lib.hid (HN.out ((okB_iff k x).2 (.inr ⟨hk1,(mrkB_iff x).1 h2⟩)))
      clear h2
      go_wp2
      go_step3
      rw [show ((k:Int)+1)=((k+1:Nat):Int) from rfl]
      refine ⟨rfl,⟨rfl,k+1,_,_,_,_,_,_,_,_,_,_,_,_,_,_,_,_,_,_,_,_,_,_,_,_,_,by omega,HY.out,rfl⟩,?_⟩
      simp [NlM,intOf]; omega
   ·have HY:=Lib.hid (HN.out ((okB_iff k x).2 (.inl h1)))
    clear h1
    go_wp2
    go_step3
    rw [show ((k:Int)+1)=((k+1:Nat):Int) from rfl]
    refine ⟨rfl,⟨rfl,k+1,_,_,_,_,_,_,_,_,_,_,_,_,_,_,_,_,_,_,_,_,_,_,_,_,_,by omega,HY.out,rfl⟩,?_⟩
    simp [NlM,intOf]; omega
  ·have HS:Hid (nlen l=k):=nrun_stop l 0 k (by rw [HL.out]; omega) (fun j hj=>by rw [Nat.zero_add]; exact HD.out j hj) (.inl (by rw [HL.out]; omega))
   go_wp2
   simp only [Exit.jump]
   go_ret
   exact ⟨ret_int (by rw [HS.out]),rfl⟩
 ·intro HP
  go_wp2
  go_step3
  rename_i hK
  exact hK _ _ (HP.out _ _ ⟨rfl,0,_,_,_,_,_,_,_,_,_,_,_,_,_,_,_,_,_,_,_,_,_,_,_,_,_,by omega,(fun j hj=>by omega),rfl⟩)

theorem scan_any (A:Option Addr) (n c:Nat) (l:List UInt8) (p:Int) (w:World) (h:Row w A n l) (hc:n≤c) :
  Calls Tryz.prog 65 #[.slice A n c,.int .i64 p] w fun e w'=>e=.returned (scanOut l p)∧w=w':=by
 have hm:=h.2.1
 unfold maxLen at hm
 by_cases ho:p<0∨(n:Int)<p
 ·have HF:Hid (scanOut l p=.tuple #[.int .i64 0,.int .i64 1]):=by unfold Hid scanOut; rw [nscan_arg (by rw [h.1]; exact ho)]
  by_cases h0:p<0
  ·go_enter Tryz.func65,Tryz.ntmps65
   go_wp2
   go_ret2
   exact ⟨by rw [HF.out]; rfl,rfl⟩
  ·have h1:(n:Int)<p:=by omega
   clear ho
   go_enter Tryz.func65,Tryz.ntmps65
   go_wp2
   go_ret2
   exact ⟨by rw [HF.out]; rfl,rfl⟩
 ·obtain ⟨q,rfl⟩:=Int.eq_ofNat_of_zero_le (show 0≤p by omega)
  have hp:q≤n:=by omega
  have hp0:¬ (q:Int)<0:=by omega
  have hp1:¬ n<q:=by omega
  obtain ⟨R,hR⟩:∃ R,(if c=q then A else A.map (fun x=>x.add q))=R:=⟨_,rfl⟩
  have HR:=Lib.hid (Ident.Row.from_ h q c hp hc hR)
  have HA:Hid (¬ ((q:Int)<0∨(l.length:Int)<q)):=by unfold Hid; rw [h.1]; omega
  have HO:Hid ((if nlen (l.drop q)=0∨255<nlen (l.drop q) then Value.tuple #[.int .i64 0,.int .i64 12] else .tuple #[.int .i64 (nlen (l.drop q):Nat),.int .i64 0])=scanOut l q):=by
   unfold Hid scanOut
   by_cases g:nlen (l.drop q)=0∨255<nlen (l.drop q)
   ·rw [nscan_bad HA.out (by rw [Int.toNat_natCast]; exact g),if_pos g]
   ·rw [nscan_good HA.out (by rw [Int.toNat_natCast]; exact g),if_neg g,Int.toNat_natCast]
  have hnl:=nrun_le 0 (l.drop q)
  rw [show nrun 0 (l.drop q)=nlen (l.drop q) from rfl,HR.out.1] at hnl
  clear ho h HA
  go_enter Tryz.func65,Tryz.ntmps65
  go_wp2_with fail
  refine (nlength_any _ _ _ _ _ HR.out).mono ?_
  rintro e w' ⟨rfl,rfl⟩
  clear hR
  generalize nlen (l.drop q)=m at hnl HO ⊢
  have hm2:m≤9223372036854775807:=by omega
  clear hnl
  by_cases hz:m=0
  ·subst hz
   rw [if_pos (.inl rfl)] at HO
   go_wp2
   go_ret2
   exact ⟨by rw [← HO.out]; rfl,rfl⟩
  ·have hzb:((m:Int) == 0)=false:=by simp [hz]
   by_cases hg:255<m
   ·rw [if_pos (.inr hg)] at HO
    have HZ:=Lib.hid hz; clear hz
    go_wp2
    go_ret2
    exact ⟨by rw [← HO.out]; rfl,rfl⟩
   ·rw [if_neg (by omega)] at HO
    have HZ:=Lib.hid hz; clear hz
    go_wp2
    go_ret2
    exact ⟨by rw [← HO.out]; rfl,rfl⟩

theorem good_any (s:ByteArray) (w:World) (hs:s.size≤maxLen) :
  Calls Tryz.prog 27 #[.string s] w fun e w'=>e=.returned (.bool (isName s.data.toList))∧Below w.heap.size w w':=by
 have HW:=Lib.hid (nscan_whole s.data.toList)
 have LS:=Lib.hid (Lib.size_eq s)
 obtain ⟨cc,W1,hcc,hconv,hR,hb⟩:=run_bytes w s hs
 have HB:=Lib.hid hb
 have HR:=Lib.hid hR
 clear hb hR
 unfold maxLen at hs
 go_enter Tryz.func27,Tryz.ntmps27
 go_wp2_with fail
 refine (scan_any _ _ _ _ 0 _ HR.out hcc).mono ?_
 unfold scanOut
 obtain ⟨⟨n,e⟩,hr⟩:∃ t,nscan s.data.toList 0=t:=⟨_,rfl⟩
 rw [hr] at HW ⊢
 clear hr
 rintro e' w' ⟨rfl,rfl⟩
 by_cases he:e=0
 ·have hb:(e == 0)=true:=by simp [he]
  have HE:=Lib.hid he; clear he
  by_cases hn:n=s.size
  ·have hb2:(n == (s.size:Int))=true:=by simp [hn]
   have HF:Hid (isName s.data.toList=true):=HW.out.1 ⟨HE.out,by rw [← LS.out]; exact hn⟩
   have HN:=Lib.hid hn; clear hn
   go_wp2
   go_ret
   exact ⟨by rw [HF.out]; rfl,HB.out⟩
  ·have hb2:(n == (s.size:Int))=false:=by simp [hn]
   have HF:Hid (isName s.data.toList=false):=by
    unfold Hid; rw [← Bool.not_eq_true,← HW.out,← LS.out]; exact fun h=>hn h.2
   have HN:=Lib.hid hn; clear hn
   go_wp2
   go_ret
   exact ⟨by rw [HF.out]; rfl,HB.out⟩
 ·have hb:(e == 0)=false:=by simp [he]
  have HF:Hid (isName s.data.toList=false):=by
   unfold Hid; rw [← Bool.not_eq_true,← HW.out]; exact fun h=>he h.1
  have HE:=Lib.hid he; clear he
  go_wp2
  go_ret
  exact ⟨by rw [HF.out]; rfl,HB.out⟩
end Go.Proofs.YtneilnibghhgmaaGreatDoor.Name
namespace Go.Proofs.YtneilnibghhgmaaGreatDoor.Semver
open Num Ident

structure Ver where
 a:Nat
 b:Nat
 c:Nat
 pre:List (List UInt8)
 build:List (List UInt8)
deriving DecidableEq
def noVer:Ver:=⟨0,0,0,[],[]⟩
def point (l:List UInt8) (q:Nat):Nat:=if q=l.length then 2 else if byteAt l q≠46 then 3 else 0
abbrev Core:=Nat × Nat × Nat × Nat × Nat
def core2 (l:List UInt8) (x y p:Nat):Core:=if (parse l p).2.2≠0 then ((parse l p).2.2,p,0,0,0) else (0,p+(parse l p).2.1,x,y,(parse l p).1)
def after2 (l:List UInt8) (x y q:Nat):Core:=if point l q≠0 then (point l q,q,0,0,0) else core2 l x y (q+1)
def core1 (l:List UInt8) (x p:Nat):Core:=if (parse l p).2.2≠0 then ((parse l p).2.2,p,0,0,0) else after2 l x (parse l p).1 (p+(parse l p).2.1)
def after1 (l:List UInt8) (x q:Nat):Core:=if point l q≠0 then (point l q,q,0,0,0) else core1 l x (q+1)
def core (l:List UInt8) (p:Nat):Core:=if (parse l p).2.2≠0 then ((parse l p).2.2,p,0,0,0) else after1 l (parse l p).1 (p+(parse l p).2.1)
def rowAt (l:List UInt8) (p m:Nat):Res :=
 if p=l.length∨byteAt l p≠(m:Int) then (0,p,[]) else ((row l ((p+1:Nat):Int) (m == 45)).1,p+1+(row l ((p+1:Nat):Int) (m == 45)).2.1,(row l ((p+1:Nat):Int) (m == 45)).2.2)
abbrev Out:=Nat × Nat × Ver
def tail2 (l:List UInt8) (x y z:Nat) (pre:List (List UInt8)) (q:Nat):Out :=
 if (rowAt l q 43).1≠0 then ((rowAt l q 43).1,(rowAt l q 43).2.1,noVer) else (0,(rowAt l q 43).2.1,⟨x,y,z,pre,(rowAt l q 43).2.2⟩)
def tail1 (l:List UInt8) (x y z q:Nat):Out :=
 if (rowAt l q 45).1≠0 then ((rowAt l q 45).1,(rowAt l q 45).2.1,noVer) else tail2 l x y z (rowAt l q 45).2.2 (rowAt l q 45).2.1
def inside (l:List UInt8) (p:Nat):Out :=
 if (core l p).1≠0 then ((core l p).1,(core l p).2.1,noVer) else tail1 l (core l p).2.2.1 (core l p).2.2.2.1 (core l p).2.2.2.2 (core l p).2.1
def vparse (l:List UInt8) (p:Int):Out:=if p<0∨(l.length:Int)<p then (1,0,noVer) else inside l p.toNat
def vread (l:List UInt8):Out :=
 if (vparse l 0).1≠0 then ((vparse l 0).1,(vparse l 0).2.1,noVer) else if (vparse l 0).2.1≠l.length then (13,(vparse l 0).2.1,noVer) else (0,0,(vparse l 0).2.2)

theorem point_no {l:List UInt8} {q:Nat} (h:q≠l.length) (h2:byteAt l q≠46):point l q=3:=by unfold point; rw [if_neg h,if_pos h2]
theorem point_yes {l:List UInt8} {q:Nat} (h:q≠l.length) (h2:byteAt l q=46):point l q=0:=by unfold point; rw [if_neg h,if_neg (by simp [h2])]


theorem rowAt_none {l:List UInt8} {p m:Nat} (h:p=l.length∨byteAt l p≠(m:Int)):rowAt l p m=(0,p,[]):=by unfold rowAt; rw [if_pos h]
theorem rowAt_some {l:List UInt8} {p m:Nat} (h1:p≠l.length) (h2:byteAt l p=(m:Int)):rowAt l p m=((row l ((p+1:Nat):Int) (m == 45)).1,p+1+(row l ((p+1:Nat):Int) (m == 45)).2.1,(row l ((p+1:Nat):Int) (m == 45)).2.2):=by
 unfold rowAt; rw [if_neg]; rintro (h | h)
 ·exact h1 h
 ·exact h h2

/-! What stands ahead of a place. -/
theorem byteAt_place (a b:List UInt8) (p:Nat):byteAt (a ++ b) (a.length+p)=byteAt b p:=by
 unfold byteAt List.getD
 rw [List.getElem?_append_right (by omega),show a.length+p - a.length=p by omega]
def move (n:Nat) (r:Out):Out:=(r.1,n+r.2.1,r.2.2)
end Go.Proofs.YtneilnibghhgmaaGreatDoor.Semver
namespace Go.Proofs.YtneilnibghhgmaaGreatDoor.Ident
open Go.RowKit Num

def goodFrom (pre:Bool):List (List UInt8)→Nat→Bool
 | [],_=>true
 | x :: r,i=>fault x i pre == 0 && lead x == x.length && goodFrom pre r (i+1)
theorem goodFrom_yes {pre:Bool} {x:List UInt8} {r:List (List UInt8)} {i:Nat} (h1:fault x i pre=0) (h2:lead x=x.length):goodFrom pre (x :: r) i=goodFrom pre r (i+1):=by
 rw [goodFrom]; simp [h1,h2]
theorem goodFrom_no {pre:Bool} {x:List UInt8} {r:List (List UInt8)} {i:Nat} (h:fault x i pre≠0∨lead x≠x.length):goodFrom pre (x :: r) i=false:=by
 rw [goodFrom]
 rcases h with h | h
 ·rw [beq_eq_false_iff_ne.2 h]; rfl
 ·rw [beq_eq_false_iff_ne.2 h]; simp
theorem goodFrom_step {pre:Bool} {xs:List (List UInt8)} {k:Nat} (hk:k<xs.length) (h1:fault (xs.getD k []) k pre=0) (h2:lead (xs.getD k [])=(xs.getD k []).length):goodFrom pre (xs.drop k) k=goodFrom pre (xs.drop (k+1)) (k+1):=by
 have e:xs.drop k=xs.getD k [] :: xs.drop (k+1):=by
  rw [List.drop_eq_getElem_cons hk]; simp [List.getD,List.getElem?_eq_getElem hk]
 rw [e]; exact goodFrom_yes h1 h2
theorem goodFrom_stop {pre:Bool} {xs:List (List UInt8)} {k:Nat} (hk:k<xs.length) (h:fault (xs.getD k []) k pre≠0∨lead (xs.getD k [])≠(xs.getD k []).length):goodFrom pre (xs.drop k) k=false:=by
 have e:xs.drop k=xs.getD k [] :: xs.drop (k+1):=by
  rw [List.drop_eq_getElem_cons hk]; simp [List.getD,List.getElem?_eq_getElem hk]
 rw [e]; exact goodFrom_no h
end Go.Proofs.YtneilnibghhgmaaGreatDoor.Ident
namespace Go.Proofs.YtneilnibghhgmaaGreatDoor.Ident
open Go.RowKit Num

def digB (x:Int):Bool:=decide (48≤x∧x≤57)
def letB (x:Int):Bool:=decide ((65≤x∧x≤90)∨(97≤x∧x≤122))
theorem digB_yes {x:Int} (h:48≤x∧x≤57):digB x=true:=decide_eq_true h
theorem digB_no {x:Int} (h:¬ (48≤x∧x≤57)):digB x=false:=decide_eq_false h
theorem letB_yes {x:Int} (h:(65≤x∧x≤90)∨(97≤x∧x≤122)):letB x=true:=decide_eq_true h
theorem letB_no {x:Int} (h:¬ ((65≤x∧x≤90)∨(97≤x∧x≤122))):letB x=false:=decide_eq_false h
theorem digB_at (b:UInt8):digB (b.toNat:Int)=isDig b:=by
 rw [Bool.eq_iff_iff,isDig_iff]; unfold digB; rw [decide_eq_true_eq]; omega
theorem letB_at (b:UInt8):letB (b.toNat:Int)=isLet b:=by
 rw [Bool.eq_iff_iff,isLet_iff]; unfold letB; rw [decide_eq_true_eq]; omega
def idB (x:Int):Bool:=digB x || letB x || x == 45
theorem idB_at (b:UInt8):idB (b.toNat:Int)=isId b:=by
 unfold idB isId; rw [digB_at,letB_at]; congr 1; rw [Bool.eq_iff_iff]; simp; omega
theorem fault_5 {s:List UInt8} (i:Nat) (pre:Bool) (h:s.length=0):fault s i pre=5:=by unfold fault; rw [if_pos h]
theorem fault_4 {s:List UInt8} {i:Nat} (pre:Bool) (h0:s.length≠0) (h:255<s.length∨16≤i):fault s i pre=4:=by unfold fault; rw [if_neg h0,if_pos h]
theorem fault_3 {s:List UInt8} {i:Nat} {pre:Bool} (h0:s.length≠0) (h1:¬ (255<s.length∨16≤i)) (h:pre=true∧numeric s=true∧isNum s=false):fault s i pre=3:=by
 unfold fault; rw [if_neg h0,if_neg h1,if_pos h]
theorem fault_0 {s:List UInt8} {i:Nat} {pre:Bool} (h0:s.length≠0) (h1:¬ (255<s.length∨16≤i)) (h:¬ (pre=true∧numeric s=true∧isNum s=false)):fault s i pre=0:=by
 unfold fault; rw [if_neg h0,if_neg h1,if_neg h]
theorem empty_iff (s:ByteArray):s.toList.isEmpty=true↔s.size=0:=by
 rw [Lib.toList_data,List.isEmpty_iff_length_eq_zero,← Lib.size_eq]
theorem empty_no (s:ByteArray):s.toList.isEmpty=false↔s.size≠0:=by
 rw [← Bool.not_eq_true,empty_iff]
end Go.Proofs.YtneilnibghhgmaaGreatDoor.Ident
namespace Go.Proofs.YtneilnibghhgmaaGreatDoor.Ident
open Go.RowKit Num

def joined (xs:List (List UInt8)):List UInt8:=Lib.join xs [46]
theorem joined_nil:joined []=[]:=rfl
theorem joined_one (x:List UInt8):joined [x]=x:=Lib.join_one x [46]
theorem joined_cons (x y:List UInt8) (r:List (List UInt8)):joined (x :: y :: r)=x ++ 46 :: joined (y :: r):=by
 unfold joined
 rw [Lib.join_cons,Lib.join_cons]; simp [Lib.joinTail]
theorem joined_le:∀ (xs:List (List UInt8)),(∀ x ∈ xs,x.length≤300)→(joined xs).length≤301 * xs.length
 | [],_=>by simp [joined_nil]
 | [x],h=>by rw [joined_one]; have:=h x (by simp); simp; omega
 | x :: y :: r,h=>by
  rw [joined_cons]
  have h1:=h x (by simp)
  have h2:=joined_le (y :: r) (fun z hz=>h z (by simp [hz]))
  simp only [List.length_append,List.length_cons] at h2 ⊢
  omega
theorem go_ids {pre:Bool} (x t w:List UInt8) (acc:List (List UInt8)) (n:Nat) (h:∀ b ∈ x,isId b=true):go pre (x ++ t) w acc n=go pre t (w ++ x) acc (n+x.length):=by
 induction x generalizing w n with
 | nil=>simp
 | cons b x ih =>
  rw [List.cons_append,go_id (h b (by simp)),ih _ _ (fun c hc=>h c (by simp [hc])),List.append_assoc,List.singleton_append,List.length_cons]
  congr 1; omega
end Go.Proofs.YtneilnibghhgmaaGreatDoor.Ident
namespace Go.Proofs.YtneilnibghhgmaaGreatDoor.Semver
open Go.RowKit Num Ident

def At7 (W:World) (b:Nat) (u0 u1 u2 u3 u4 u5 u6:Value):Prop:=b<W.heap.size∧(∀ o,W.frozen? ⟨b,o,none⟩=false)∧W.cell? ⟨b,0,none⟩=some u0∧W.cell? ⟨b,1,none⟩=some u1∧W.cell? ⟨b,2,none⟩=some u2∧W.cell? ⟨b,3,none⟩=some u3∧W.cell? ⟨b,4,none⟩=some u4∧W.cell? ⟨b,5,none⟩=some u5∧W.cell? ⟨b,6,none⟩=some u6
theorem At7.new (w:World) (t:TypeId) (u0 u1 u2 u3 u4 u5 u6:Value):At7 (w.alloc (.cells #[u0,u1,u2,u3,u4,u5,u6] t)) w.heap.size u0 u1 u2 u3 u4 u5 u6:=by
 unfold At7
 refine ⟨by simp,fun o=>by simp [go_sem],?_,?_,?_,?_,?_,?_,?_⟩ <;> simp [go_sem]
theorem At7.kept {W W':World} {b B:Nat} {u0 u1 u2 u3 u4 u5 u6:Value} (h:At7 W b u0 u1 u2 u3 u4 u5 u6) (hb:Below B W W') (hB:b<B):At7 W' b u0 u1 u2 u3 u4 u5 u6:=by
 obtain ⟨h1,h2,c0,c1,c2,c3,c4,c5,c6⟩:=h
 exact ⟨Nat.lt_of_lt_of_le h1 hb.size,fun o=>(hb.frozen (p:=⟨b,o,none⟩) hB).trans (h2 o),(hb.cell (p:=⟨b,0,none⟩) hB).trans c0,(hb.cell (p:=⟨b,1,none⟩) hB).trans c1,(hb.cell (p:=⟨b,2,none⟩) hB).trans c2,(hb.cell (p:=⟨b,3,none⟩) hB).trans c3,(hb.cell (p:=⟨b,4,none⟩) hB).trans c4,(hb.cell (p:=⟨b,5,none⟩) hB).trans c5,(hb.cell (p:=⟨b,6,none⟩) hB).trans c6⟩
theorem set7 {w:World} {A:Option Addr} {n:Nat} {xs:List (List UInt8)} (h:SRow w A n xs) {b:Nat} {u0 u1 u2 u3 u4 u5 u6:Value} (k:At7 w b u0 u1 u2 u3 u4 u5 u6)
  (s0:∀ s,u0≠.string s) (s1:∀ s,u1≠.string s) (s2:∀ s,u2≠.string s) (s3:∀ s,u3≠.string s) (s4:∀ s,u4≠.string s) (s5:∀ s,u5≠.string s) (s6:∀ s,u6≠.string s) (v0 v1 v2 v3 v4 v5 v6:Value) :
  SRow (((((((w.setCell ⟨b,0,none⟩ v0).setCell ⟨b,1,none⟩ v1).setCell ⟨b,2,none⟩ v2).setCell ⟨b,3,none⟩ v3).setCell ⟨b,4,none⟩ v4).setCell ⟨b,5,none⟩ v5).setCell ⟨b,6,none⟩ v6) A n xs:=by
 obtain ⟨_,_,c0,c1,c2,c3,c4,c5,c6⟩:=k
 refine SRow.set (SRow.set (SRow.set (SRow.set (SRow.set (SRow.set (SRow.set h c0 s0 v0) (u:=u1) ?_ s1 v1) (u:=u2) ?_ s2 v2) (u:=u3) ?_ s3 v3) (u:=u4) ?_ s4 v4) (u:=u5) ?_ s5 v5) (u:=u6) ?_ s6 v6
 ·exact (cell_beside _ _ _ _ _ (by omega)).trans (c1)
 ·exact (cell_beside _ _ _ _ _ (by omega)).trans ((cell_beside _ _ _ _ _ (by omega)).trans (c2))
 ·exact (cell_beside _ _ _ _ _ (by omega)).trans ((cell_beside _ _ _ _ _ (by omega)).trans ((cell_beside _ _ _ _ _ (by omega)).trans (c3)))
 ·exact (cell_beside _ _ _ _ _ (by omega)).trans ((cell_beside _ _ _ _ _ (by omega)).trans ((cell_beside _ _ _ _ _ (by omega)).trans ((cell_beside _ _ _ _ _ (by omega)).trans (c4))))
 ·exact (cell_beside _ _ _ _ _ (by omega)).trans ((cell_beside _ _ _ _ _ (by omega)).trans ((cell_beside _ _ _ _ _ (by omega)).trans ((cell_beside _ _ _ _ _ (by omega)).trans ((cell_beside _ _ _ _ _ (by omega)).trans (c5)))))
 ·exact (cell_beside _ _ _ _ _ (by omega)).trans ((cell_beside _ _ _ _ _ (by omega)).trans ((cell_beside _ _ _ _ _ (by omega)).trans ((cell_beside _ _ _ _ _ (by omega)).trans ((cell_beside _ _ _ _ _ (by omega)).trans ((cell_beside _ _ _ _ _ (by omega)).trans (c6))))))

theorem At3.set1 {W:World} {b:Nat} {x y z:Value} (h:At3 W b x y z) (v:Value):At3 (W.setCell ⟨b,1,none⟩ v) b x v z:=by
 obtain ⟨h1,h2,c0,c1,c2⟩:=h
 refine ⟨by simpa using h1,fun o=>by simp [go_sem,h2],?_,?_,?_⟩ <;> simp [go_sem,c0,c1,c2]
theorem At3.set2 {W:World} {b:Nat} {x y z:Value} (h:At3 W b x y z) (v:Value):At3 (W.setCell ⟨b,2,none⟩ v) b x y v:=by
 obtain ⟨h1,h2,c0,c1,c2⟩:=h
 refine ⟨by simpa using h1,fun o=>by simp [go_sem,h2],?_,?_,?_⟩ <;> simp [go_sem,c0,c1,c2]


end Go.Proofs.YtneilnibghhgmaaGreatDoor.Semver
namespace Go.Proofs.YtneilnibghhgmaaGreatDoor.Ident
open Go.RowKit Num

theorem digit_any (x:Int) (w:World) (h0:0≤x) (h1:x≤255) :
  Calls Tryz.prog 146 #[.int .u8 x] w fun e w'=>e=.returned (.bool (digB x))∧w=w':=by
 by_cases ha:48≤x
 ·by_cases hb:x≤57
  ·have HF:=Lib.hid (digB_yes ⟨ha,hb⟩)
   go_enter Tryz.func146,Tryz.ntmps146
   go_wp2
   go_ret
   exact ⟨by rw [HF.out]; rfl,rfl⟩
  ·have HF:=Lib.hid (digB_no (x:=x) (by omega))
   go_enter Tryz.func146,Tryz.ntmps146
   go_wp2
   go_ret
   exact ⟨by rw [HF.out]; rfl,rfl⟩
 ·have HF:=Lib.hid (digB_no (x:=x) (by omega))
  go_enter Tryz.func146,Tryz.ntmps146
  go_wp2
  go_ret
  exact ⟨by rw [HF.out]; rfl,rfl⟩
def NumcJ (w:World) (s:ByteArray) (a':Act) (w':World):Prop :=
 w=w'∧∃ (k:Nat) (u4 u5 u6 u7 u8 u9 u10 u11 u12 u13 u14 u15 u16 u17 u18 u19 u20 u21 u22 u23:Value),k≤s.size∧(∀ j,j<k→isDig (s.data.toList.getD j 0)=true)∧a'={ tmps:=#[.string s,undef,.bool false,.int .i64 k,u4,u5,u6,u7,u8,u9,u10,u11,u12,u13,u14,u15,u16,u17,u18,u19,u20,u21,u22,u23],defers:=[] }
def NumcM (n:Nat) (a':Act) (_:World):Nat:=n - (intOf (a'.tmps.getD 3 undef)).toNat
theorem numeric_any (s:ByteArray) (w:World) (hs:s.size≤maxLen) :
  Calls Tryz.prog 144 #[.string s] w fun e w'=>e=.returned (.bool (numeric s.data.toList))∧w=w':=by
 unfold maxLen at hs
 have HL:=Lib.hid (Lib.size_eq s)
 go_enter Tryz.func144,Tryz.ntmps144
 go_wp2
 refine wp_scope_back 0 (NumcJ w s) (NumcM s.size) rfl ?_ ?_
 ·rintro a' w' ⟨rfl,k,u4,u5,u6,u7,u8,u9,u10,u11,u12,u13,u14,u15,u16,u17,u18,u19,u20,u21,u22,u23,hk,hd,rfl⟩
  have HD:=Lib.hid hd; clear hd
  by_cases hlt:k<s.size
  ·have hbd:=byteAt_bd s.data.toList k
   have HX:=Lib.hid (at_text s k hlt)
   have HI:Hid (isDig (s.data.toList.getD k 0)=digB (byteAt s.data.toList k)):=(digB_at _).symm
   rw [← HX.out] at hbd HI
   obtain ⟨hx0,hx1⟩:=hbd
   go_wp2_with fail
   refine (digit_any _ _ hx0 hx1).mono ?_
   rintro e w' ⟨rfl,rfl⟩
   cases h1:digB (s[k].toNat:Int)
   ·have HS:Hid (run s.data.toList=k):=run_stop _ k (by rw [← HL.out]; omega) HD.out (.inr (by rw [HI.out]; exact h1))
    have HF:Hid (numeric s.data.toList=false):=(numeric_no _).2 fun hh=>by rw [HS.out,← HL.out] at hh; omega
    have H1:=Lib.hid h1; clear h1
    have hne:((k:Int) == (s.size:Int))=false:=by simp; omega
    by_cases h0:0<k
    ·go_wp2
     simp only [Exit.jump]
     go_ret
     exact ⟨by rw [HF.out]; rfl,rfl⟩
    ·go_wp2
     simp only [Exit.jump]
     go_ret
     exact ⟨by rw [HF.out]; rfl,rfl⟩
   ·have HN:Hid (∀ j,j<k+1→isDig (s.data.toList.getD j 0)=true):=fun j hj=>by
     rcases Nat.lt_or_ge j k with hj1 | hj1
     ·exact HD.out j hj1
     ·obtain rfl:j=k:=by omega
      rw [HI.out]; exact h1
    have H1:=Lib.hid h1; clear h1
    go_wp2
    go_step3
    rw [show ((k:Int)+1)=((k+1:Nat):Int) from rfl]
    refine ⟨rfl,⟨rfl,k+1,_,_,_,_,_,_,_,_,_,_,_,_,_,_,_,_,_,_,_,_,by omega,HN.out,rfl⟩,?_⟩
    simp [NumcM,intOf]; omega
  ·obtain rfl:k=s.size:=by omega
   have HS:Hid (run s.data.toList=s.size):=run_stop _ s.size (by rw [← HL.out]; omega) HD.out (.inl HL.out)
   by_cases h0:0<s.size
   ·have HF:Hid (numeric s.data.toList=true):=(numeric_iff _).2 ⟨by rw [← HL.out]; exact h0,by rw [HS.out,HL.out]⟩
    go_wp2
    simp only [Exit.jump]
    go_ret
    exact ⟨by rw [HF.out]; rfl,rfl⟩
   ·have HF:Hid (numeric s.data.toList=false):=(numeric_no _).2 fun hh=>h0 (by rw [HL.out]; exact hh.1)
    go_wp2
    simp only [Exit.jump]
    go_ret
    exact ⟨by rw [HF.out]; rfl,rfl⟩
 ·intro HP
  go_wp2
  go_step3
  rename_i hK
  exact hK _ _ (HP.out _ _ ⟨rfl,0,_,_,_,_,_,_,_,_,_,_,_,_,_,_,_,_,_,_,_,_,by omega,(fun j hj=>by omega),rfl⟩)
end Go.Proofs.YtneilnibghhgmaaGreatDoor.Ident
