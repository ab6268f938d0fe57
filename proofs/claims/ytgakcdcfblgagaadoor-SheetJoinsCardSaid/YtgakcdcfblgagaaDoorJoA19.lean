/-
  What the theorem of the last text needs of these: ShItemD, ShItemP, ShReadZ. Conditions: as each theorem states.
-/
import Derived.Test.YtgakcdcfblgagaaDoorJoA1
import Derived.Test.YtgakcdcfblgagaaDoorJoA9
import Derived.Test.YtgakcdcfblgagaaDoorJoA10
import Derived.Test.YtgakcdcfblgagaaDoorJoA15
import Derived.Test.YtgakcdcfblgagaaDoorJoA16
import Derived.Test.YtgakcdcfblgagaaDoorJoA17
set_option maxRecDepth 100000
set_option maxHeartbeats 25600000
namespace Go.Proofs.YtgakcdcfblgagaaDoor.Sheet
open Go.RowKit Num Ident Semver Fr
open KR (AtV)
open Range (Rng noRng RV KeepS LtB InS From FitV pread OpsTab)
open Name (isName)
open Model (PDep PPin MDep MPin MVer DepOk PinOk VerOk)

theorem dep_read {l:List UInt8} {k:Nat} (hk:k≤l.length) (hkw:kindW (wordOf (l.drop k))=3) :
  (nameE l k≠0→(readL (l.drop k)).e=nameE l k)∧(nameE l k=0→(readL (l.drop k)).e=(if (l.drop (nextAt l k)).drop ((wordOf (l.drop (nextAt l k))).length+1)=[] then 5 else (pread ((l.drop (nextAt l k)).drop ((wordOf (l.drop (nextAt l k))).length+1))).1)∧((readL (l.drop k)).e=0→depOf (readL (l.drop k))=⟨wordOf (l.drop (nextAt l k)),(pread ((l.drop (nextAt l k)).drop ((wordOf (l.drop (nextAt l k))).length+1))).2.2⟩)):=by
 have hr:=readL_dep (t:=l.drop k) (w:=wordOf (l.drop k)) (s:=l.drop (nextAt l k)) rfl (nextAt_drop l k).symm hkw
 have hen:=nextAt_end (l:=l) hk
 rw [← nextAt_drop l k] at hen
 unfold nameE
 rw [hr]
 generalize l.drop (nextAt l k)=s at hen ⊢
 by_cases h1:s=[]
 ·rw [if_pos h1,if_pos (hen.2 h1)]
  exact ⟨fun _=>rfl,fun h=>by cases h⟩
 ·rw [if_neg h1,if_neg (fun h=>h1 (hen.1 h))]
  cases h2:isName (wordOf s) with
  | false =>
   simp only [Bool.false_eq_true,if_false,if_true]
   exact ⟨fun _=>rfl,fun h=>by cases h⟩
  | true =>
   simp only [Bool.true_eq_false,if_false,if_true]
   generalize s.drop ((wordOf s).length+1)=q
   by_cases h3:q=[]
   ·rw [if_pos h3,if_pos h3]
    exact ⟨fun h=>absurd rfl h,fun _=>⟨rfl,fun h=>by cases h⟩⟩
   ·rw [if_neg h3,if_neg h3]
    refine ⟨fun h=>absurd rfl h,fun _=>⟨?_,fun h=>?_⟩⟩
    ·unfold readR
     split
     ·rfl
     ·rename_i h4
      show 0=_
      omega
    ·unfold readR at h ⊢
     split at h
     ·rename_i h4; exact absurd h h4
     ·rename_i h4
      rw [if_neg h4]; rfl
theorem short_word {l:List UInt8} {n:Nat} (hl:l.length=n) (hn:n≤16777216) (k:Nat):(wordOf (l.drop k)).length≤maxLen:=by
 have:=word_le (l.drop k)
 rw [List.length_drop] at this
 unfold maxLen; omega
theorem q_len {l:List UInt8} {n:Nat} (hl:l.length=n) (hn:n≤16777216) (k:Nat):((l.drop k).drop ((wordOf (l.drop k)).length+1)).length≤16777216:=by
 rw [List.length_drop,List.length_drop]; omega
theorem rng_fine {q:List UInt8} (hq:q.length≤16777216) {F:Nat} (hF:F=if q=[] then 5 else (pread q).1) (h0:F=0):Range.LenOk (pread q).2.2∧Nrm.Slim (pread q).2.2:=by
 have h1:(pread q).1=0:=by
  rw [hF] at h0
  split at h0
  ·cases h0
  ·exact h0
 exact ⟨Range.LenOk.of_wt _ _ (Range.wt_pread q) (by omega),Nrm.slim_of_good _ _ 0 (Nat.le_refl _) (pread_good h1)⟩

theorem dep_any (lb b o n c:Nat) (l:List UInt8) (k:Nat) (w:World) (h:Ln w lb b o n c l k) (hn:n≤16777216) (hkw:kindW (wordOf (l.drop k))=3) (ht:OpsTab w) (hgl:1<lb) :
  Calls Tryd.prog 11 #[.pointer (some ⟨lb,0,none⟩)] w fun e w'=>∃ (x:MDep) (f:Nat),e=.returned (.tuple #[x.agg,.int .i64 f])∧f=(readL (l.drop k)).e∧(f=0→x.p=depOf (readL (l.drop k))∧DepOk w' (From w.heap.size) x)∧But (fun g=>g=lb) w w'∧LnE w' lb b o n c:=by
 have hln:l.length=n:=h.row.1
 have H0:Hid (Below w.heap.size w (w.alloc (.cells #[.string ⟨#[]⟩,.int .i64 0,.int .u64 0,.int .u64 0,.int .u64 0,.slice none 0 0,.slice none 0 0,.slice none 0 0] 53))):=(Below.refl _ _).alloc (Nat.le_refl _) _
 have hl0:=h.kept H0.out
 have HR0:Hid (AtV (w.alloc (.cells #[.string ⟨#[]⟩,.int .i64 0,.int .u64 0,.int .u64 0,.int .u64 0,.slice none 0 0,.slice none 0 0,.slice none 0 0] 53)) w.heap.size [.string ⟨#[]⟩,.int .i64 0,.int .u64 0,.int .u64 0,.int .u64 0,.slice none 0 0,.slice none 0 0,.slice none 0 0]):=AtV.new w _ _
 have hcon:=name_any lb b o n c l k _ hl0
 have HPL:=Lib.hid (dep_read (l:=l) (k:=k) h.kn' hkw)
 have hlt:=h.at_.lt
 have hbl:=h.hb
 have hz0:(w.alloc (.cells #[.string ⟨#[]⟩,.int .i64 0,.int .u64 0,.int .u64 0,.int .u64 0,.slice none 0 0,.slice none 0 0,.slice none 0 0] 53)).heap.size=w.heap.size+1:=by simp
 have HT:=Lib.hid (ht.keep (Range.Keep.of_below H0.out))
 clear ht
 have HLL:Hid (∀ W',But (fun g=>g=lb) (w.alloc (.cells #[.string ⟨#[]⟩,.int .i64 0,.int .u64 0,.int .u64 0,.int .u64 0,.slice none 0 0,.slice none 0 0,.slice none 0 0] 53)) W'→But (fun g=>g=lb) w W'):=fun W' q=>(But.of_same H0.out _).trans q fun i e=>.inl e
 clear hl0 h hkw
 obtain ⟨rb,hrb⟩:∃ rb,w.heap.size=rb:=⟨_,rfl⟩
 have HRB:=Lib.hid hrb
 have hne1:lb≠rb:=by omega
 have hne2:b≠rb:=by omega
 obtain ⟨k1,hk1⟩:∃ k1,nextAt l k=k1:=⟨_,rfl⟩
 obtain ⟨E,hE⟩:∃ E,nameE l k=E:=⟨_,rfl⟩
 obtain ⟨G,hG⟩:∃ G,(readL (l.drop k)).e=G:=⟨_,rfl⟩
 obtain ⟨y,hy⟩:∃ y,depOf (readL (l.drop k))=y:=⟨_,rfl⟩
 rw [hE,hk1] at hcon
 rw [hE,hk1,hG,hy] at HPL
 rw [hG,hy]
 clear hE hk1 hG hy
 go_enter Tryd.func11,Tryd.ntmps11
 go_wp2_with fail
 generalize w.alloc (.cells #[.string ⟨#[]⟩,.int .i64 0,.int .u64 0,.int .u64 0,.int .u64 0,.slice none 0 0,.slice none 0 0,.slice none 0 0] 53)=w0 at H0 HR0 HLL hcon hz0 HT ⊢
 rw [hrb] at HR0 hz0
 clear hrb
 refine hcon.mono ?_
 rintro e w1 ⟨nm,rfl,hnm,hb,hl⟩
 have HNM:=Lib.hid hnm
 have HB:=Lib.hid hb
 have HL:=Lib.hid hl
 have HR1:=Lib.hid (atv_oth HR0.out hb (fun e=>hne1 e.symm))
 have HT1:=Lib.hid (opsTab_oth HT.out hb (Nat.ne_of_lt hgl))
 clear hb hl hcon hnm
 have r0:=HR1.out.at_ 0 _ rfl
 have f0:=HR1.out.fr 0
 have r1:=HR1.out.at_ 1 _ rfl
 have f1:=HR1.out.fr 1
 have r2:=HR1.out.at_ 2 _ rfl
 have f2:=HR1.out.fr 2
 have r3:=HR1.out.at_ 3 _ rfl
 have f3:=HR1.out.fr 3
 have r4:=HR1.out.at_ 4 _ rfl
 have f4:=HR1.out.fr 4
 have r5:=HR1.out.at_ 5 _ rfl
 have f5:=HR1.out.fr 5
 have r6:=HR1.out.at_ 6 _ rfl
 have f6:=HR1.out.fr 6
 have r7:=HR1.out.at_ 7 _ rfl
 have f7:=HR1.out.fr 7
 by_cases hE0:E=0
 ·have hEb:((E:Int) != 0)=false:=by rw [hE0]; rfl
  have HE0:=Lib.hid hE0
  have H2:Hid (But (fun g=>g=rb) w1 (w1.setCell ⟨rb,0,none⟩ (.string (Ident.mk nm)))):=(But.refl _ _).set rb 0 (.string (Ident.mk nm)) (.inl rfl)
  have HR2:Hid (AtV (w1.setCell ⟨rb,0,none⟩ (.string (Ident.mk nm))) rb [.string (Ident.mk nm),.int .i64 0,.int .u64 0,.int .u64 0,.int .u64 0,.slice none 0 0,.slice none 0 0,.slice none 0 0]):=atv_set HR1.out 0 _ (by simp)
  clear hE0
  go_wp2_with fail
  clear r0 f0 r1 f1 r2 f2 r3 f3 r4 f4 r5 f5 r6 f6 r7 f7
  generalize (w1.setCell ⟨rb,0,none⟩ (.string (Ident.mk nm)))=w2 at H2 HR2 ⊢
  have HL2:=Lib.hid (HL.out.oth H2.out hne1 hne2)
  have HT2:=Lib.hid (opsTab_oth HT1.out H2.out (by have:=HRB.out; omega))
  refine (restR_any lb b o n c l k1 w2 HL2.out hn HT2.out hgl).mono ?_
  rintro e w3 ⟨x,F,rfl,hF,hx,hb,hl⟩
  have HX:=Lib.hid hx
  have HF:=Lib.hid hF
  have HLE:=Lib.hid hl
  have HB3:=Lib.hid hb
  have HR3:=Lib.hid (atv_oth HR2.out hb (fun e=>hne1 e.symm))
  clear hb hl hx hF
  unfold Range.RV.agg
  have r0:=HR3.out.at_ 0 _ rfl
  have f0:=HR3.out.fr 0
  have r1:=HR3.out.at_ 1 _ rfl
  have f1:=HR3.out.fr 1
  have r2:=HR3.out.at_ 2 _ rfl
  have f2:=HR3.out.fr 2
  have r3:=HR3.out.at_ 3 _ rfl
  have f3:=HR3.out.fr 3
  have r4:=HR3.out.at_ 4 _ rfl
  have f4:=HR3.out.fr 4
  have r5:=HR3.out.at_ 5 _ rfl
  have f5:=HR3.out.fr 5
  have r6:=HR3.out.at_ 6 _ rfl
  have f6:=HR3.out.fr 6
  have r7:=HR3.out.at_ 7 _ rfl
  have f7:=HR3.out.fr 7
  have hFG:F=G:=by rw [HF.out,← (HPL.out.2 HE0.out).1]
  have HB4:Hid (But (fun g=>g=lb) w w3):=((HLL.out w1 HB.out).trans H2.out fun i e=>.inr (by rw [e]; exact Nat.le_of_eq HRB.out)).trans HB3.out fun i e=>.inl e
  have hz2:rb<w2.heap.size:=HR2.out.lt
  have hl2:lb<w2.heap.size:=HL2.out.at_.lt
  have hz3:=HB3.out.size
  subst hFG
  go_wp2
  have HV5:Hid (AtV (((((((((((((((w3.setCell ⟨rb,1,none⟩ x.kind).setCell ⟨rb,2,none⟩ x.v.a).setCell ⟨rb,3,none⟩ x.v.b).setCell ⟨rb,4,none⟩ x.v.c).setCell ⟨rb,5,none⟩ (.slice x.A x.v.pre.length x.c)).setCell ⟨rb,6,none⟩ (.slice x.B x.v.build.length x.d)).setCell ⟨rb,7,none⟩ (.slice x.L x.n x.e)).setCell ⟨rb,0,none⟩ (.string (Ident.mk nm))).setCell ⟨rb,1,none⟩ x.kind).setCell ⟨rb,2,none⟩ x.v.a).setCell ⟨rb,3,none⟩ x.v.b).setCell ⟨rb,4,none⟩ x.v.c).setCell ⟨rb,5,none⟩ (.slice x.A x.v.pre.length x.c)).setCell ⟨rb,6,none⟩ (.slice x.B x.v.build.length x.d)).setCell ⟨rb,7,none⟩ (.slice x.L x.n x.e)) rb [.string (Ident.mk nm),.int .i64 x.kind,.int .u64 x.v.a,.int .u64 x.v.b,.int .u64 x.v.c,.slice x.A x.v.pre.length x.c,.slice x.B x.v.build.length x.d,.slice x.L x.n x.e]):=(atv_set (atv_set (atv_set (atv_set (atv_set (atv_set (atv_set (atv_set (atv_set (atv_set (atv_set (atv_set (atv_set (atv_set (atv_set HR3.out 1 x.kind (by simp)) 2 x.v.a (by simp)) 3 x.v.b (by simp)) 4 x.v.c (by simp)) 5 (.slice x.A x.v.pre.length x.c) (by simp)) 6 (.slice x.B x.v.build.length x.d) (by simp)) 7 (.slice x.L x.n x.e) (by simp)) 0 (.string (Ident.mk nm)) (by simp)) 1 x.kind (by simp)) 2 x.v.a (by simp)) 3 x.v.b (by simp)) 4 x.v.c (by simp)) 5 (.slice x.A x.v.pre.length x.c) (by simp)) 6 (.slice x.B x.v.build.length x.d) (by simp)) 7 (.slice x.L x.n x.e) (by simp))
  have HB5:Hid (But (fun g=>g=lb) w (((((((((((((((w3.setCell ⟨rb,1,none⟩ x.kind).setCell ⟨rb,2,none⟩ x.v.a).setCell ⟨rb,3,none⟩ x.v.b).setCell ⟨rb,4,none⟩ x.v.c).setCell ⟨rb,5,none⟩ (.slice x.A x.v.pre.length x.c)).setCell ⟨rb,6,none⟩ (.slice x.B x.v.build.length x.d)).setCell ⟨rb,7,none⟩ (.slice x.L x.n x.e)).setCell ⟨rb,0,none⟩ (.string (Ident.mk nm))).setCell ⟨rb,1,none⟩ x.kind).setCell ⟨rb,2,none⟩ x.v.a).setCell ⟨rb,3,none⟩ x.v.b).setCell ⟨rb,4,none⟩ x.v.c).setCell ⟨rb,5,none⟩ (.slice x.A x.v.pre.length x.c)).setCell ⟨rb,6,none⟩ (.slice x.B x.v.build.length x.d)).setCell ⟨rb,7,none⟩ (.slice x.L x.n x.e))):=(((((((((((((((HB4.out.set rb 1 x.kind (.inr (Nat.le_of_eq HRB.out))).set rb 2 x.v.a (.inr (Nat.le_of_eq HRB.out))).set rb 3 x.v.b (.inr (Nat.le_of_eq HRB.out))).set rb 4 x.v.c (.inr (Nat.le_of_eq HRB.out))).set rb 5 (.slice x.A x.v.pre.length x.c) (.inr (Nat.le_of_eq HRB.out))).set rb 6 (.slice x.B x.v.build.length x.d) (.inr (Nat.le_of_eq HRB.out))).set rb 7 (.slice x.L x.n x.e) (.inr (Nat.le_of_eq HRB.out))).set rb 0 (.string (Ident.mk nm)) (.inr (Nat.le_of_eq HRB.out))).set rb 1 x.kind (.inr (Nat.le_of_eq HRB.out))).set rb 2 x.v.a (.inr (Nat.le_of_eq HRB.out))).set rb 3 x.v.b (.inr (Nat.le_of_eq HRB.out))).set rb 4 x.v.c (.inr (Nat.le_of_eq HRB.out))).set rb 5 (.slice x.A x.v.pre.length x.c) (.inr (Nat.le_of_eq HRB.out))).set rb 6 (.slice x.B x.v.build.length x.d) (.inr (Nat.le_of_eq HRB.out))).set rb 7 (.slice x.L x.n x.e) (.inr (Nat.le_of_eq HRB.out)))
  have HE5:Hid (LnE (((((((((((((((w3.setCell ⟨rb,1,none⟩ x.kind).setCell ⟨rb,2,none⟩ x.v.a).setCell ⟨rb,3,none⟩ x.v.b).setCell ⟨rb,4,none⟩ x.v.c).setCell ⟨rb,5,none⟩ (.slice x.A x.v.pre.length x.c)).setCell ⟨rb,6,none⟩ (.slice x.B x.v.build.length x.d)).setCell ⟨rb,7,none⟩ (.slice x.L x.n x.e)).setCell ⟨rb,0,none⟩ (.string (Ident.mk nm))).setCell ⟨rb,1,none⟩ x.kind).setCell ⟨rb,2,none⟩ x.v.a).setCell ⟨rb,3,none⟩ x.v.b).setCell ⟨rb,4,none⟩ x.v.c).setCell ⟨rb,5,none⟩ (.slice x.A x.v.pre.length x.c)).setCell ⟨rb,6,none⟩ (.slice x.B x.v.build.length x.d)).setCell ⟨rb,7,none⟩ (.slice x.L x.n x.e)) lb b o n c):=HLE.out.oth (T:=fun g=>g=rb) (((((((((((((((((But.refl (fun g=>g=rb) w3).set rb 1 x.kind (.inl rfl)).set rb 2 x.v.a (.inl rfl)).set rb 3 x.v.b (.inl rfl)).set rb 4 x.v.c (.inl rfl)).set rb 5 (.slice x.A x.v.pre.length x.c) (.inl rfl)).set rb 6 (.slice x.B x.v.build.length x.d) (.inl rfl)).set rb 7 (.slice x.L x.n x.e) (.inl rfl)).set rb 0 (.string (Ident.mk nm)) (.inl rfl)).set rb 1 x.kind (.inl rfl)).set rb 2 x.v.a (.inl rfl)).set rb 3 x.v.b (.inl rfl)).set rb 4 x.v.c (.inl rfl)).set rb 5 (.slice x.A x.v.pre.length x.c) (.inl rfl)).set rb 6 (.slice x.B x.v.build.length x.d) (.inl rfl)).set rb 7 (.slice x.L x.n x.e) (.inl rfl))) hne1
  have HK5:Hid (But (fun g=>g=rb) w3 (((((((((((((((w3.setCell ⟨rb,1,none⟩ x.kind).setCell ⟨rb,2,none⟩ x.v.a).setCell ⟨rb,3,none⟩ x.v.b).setCell ⟨rb,4,none⟩ x.v.c).setCell ⟨rb,5,none⟩ (.slice x.A x.v.pre.length x.c)).setCell ⟨rb,6,none⟩ (.slice x.B x.v.build.length x.d)).setCell ⟨rb,7,none⟩ (.slice x.L x.n x.e)).setCell ⟨rb,0,none⟩ (.string (Ident.mk nm))).setCell ⟨rb,1,none⟩ x.kind).setCell ⟨rb,2,none⟩ x.v.a).setCell ⟨rb,3,none⟩ x.v.b).setCell ⟨rb,4,none⟩ x.v.c).setCell ⟨rb,5,none⟩ (.slice x.A x.v.pre.length x.c)).setCell ⟨rb,6,none⟩ (.slice x.B x.v.build.length x.d)).setCell ⟨rb,7,none⟩ (.slice x.L x.n x.e))):=((((((((((((((((But.refl (fun g=>g=rb) w3).set rb 1 x.kind (.inl rfl)).set rb 2 x.v.a (.inl rfl)).set rb 3 x.v.b (.inl rfl)).set rb 4 x.v.c (.inl rfl)).set rb 5 (.slice x.A x.v.pre.length x.c) (.inl rfl)).set rb 6 (.slice x.B x.v.build.length x.d) (.inl rfl)).set rb 7 (.slice x.L x.n x.e) (.inl rfl)).set rb 0 (.string (Ident.mk nm)) (.inl rfl)).set rb 1 x.kind (.inl rfl)).set rb 2 x.v.a (.inl rfl)).set rb 3 x.v.b (.inl rfl)).set rb 4 x.v.c (.inl rfl)).set rb 5 (.slice x.A x.v.pre.length x.c) (.inl rfl)).set rb 6 (.slice x.B x.v.build.length x.d) (.inl rfl)).set rb 7 (.slice x.L x.n x.e) (.inl rfl))
  generalize (((((((((((((((w3.setCell ⟨rb,1,none⟩ x.kind).setCell ⟨rb,2,none⟩ x.v.a).setCell ⟨rb,3,none⟩ x.v.b).setCell ⟨rb,4,none⟩ x.v.c).setCell ⟨rb,5,none⟩ (.slice x.A x.v.pre.length x.c)).setCell ⟨rb,6,none⟩ (.slice x.B x.v.build.length x.d)).setCell ⟨rb,7,none⟩ (.slice x.L x.n x.e)).setCell ⟨rb,0,none⟩ (.string (Ident.mk nm))).setCell ⟨rb,1,none⟩ x.kind).setCell ⟨rb,2,none⟩ x.v.a).setCell ⟨rb,3,none⟩ x.v.b).setCell ⟨rb,4,none⟩ x.v.c).setCell ⟨rb,5,none⟩ (.slice x.A x.v.pre.length x.c)).setCell ⟨rb,6,none⟩ (.slice x.B x.v.build.length x.d)).setCell ⟨rb,7,none⟩ (.slice x.L x.n x.e))=w5 at HV5 HB5 HE5 HK5 ⊢
  clear r0 f0 r1 f1 r2 f2 r3 f3 r4 f4 r5 f5 r6 f6 r7 f7
  have r0:=HV5.out.at_ 0 _ rfl
  have f0:=HV5.out.fr 0
  have r1:=HV5.out.at_ 1 _ rfl
  have f1:=HV5.out.fr 1
  have r2:=HV5.out.at_ 2 _ rfl
  have f2:=HV5.out.fr 2
  have r3:=HV5.out.at_ 3 _ rfl
  have f3:=HV5.out.fr 3
  have r4:=HV5.out.at_ 4 _ rfl
  have f4:=HV5.out.fr 4
  have r5:=HV5.out.at_ 5 _ rfl
  have f5:=HV5.out.fr 5
  have r6:=HV5.out.at_ 6 _ rfl
  have f6:=HV5.out.fr 6
  have r7:=HV5.out.at_ 7 _ rfl
  have f7:=HV5.out.fr 7
  exact bodyPost_ret (v:=.tuple #[.agg #[.string (Ident.mk nm),x.kind,x.v.a,x.v.b,x.v.c,.slice x.A x.v.pre.length x.c,.slice x.B x.v.build.length x.d,.slice x.L x.n x.e],.int .i64 F]) (by simp [results,Tryd.results11,go_sem,r0,r1,r2,r3,r4,r5,r6,r7]) rfl ⟨⟨nm,_,x⟩,F,rfl,rfl,fun h0=>⟨by rw [(HPL.out.2 HE0.out).2 h0,HNM.out HE0.out]; rfl,(by rw [HNM.out HE0.out]; exact short_word hln hn k1),((HX.out h0).keep (keep_oth (T:=fun g=>g=rb∨g=lb) (S:=From w2.heap.size) (HK5.out.mono fun g e=>.inl e) (fun g hg d=>by have hg:w2.heap.size≤g:=hg; rcases d with d | d <;> omega))).mono (fun g hg _=>by have hg:w2.heap.size≤g:=hg; have hg2:w.heap.size≤w2.heap.size:=(by have:=HRB.out; omega); exact Nat.le_trans hg2 hg),(rng_fine (q_len hln hn k1) HF.out h0).1,(rng_fine (q_len hln hn k1) HF.out h0).2⟩,HB5.out,HE5.out⟩
 ·have hEb:((E:Int) != 0)=true:=by simp [hE0]
  have hGE:G=E:=HPL.out.1 hE0
  have HB4:Hid (But (fun g=>g=lb) w w1):=HLL.out w1 HB.out
  go_wp2
  have HV5:Hid (AtV (((((((((w1.setCell ⟨rb,0,none⟩ (.string (Ident.mk nm))).setCell ⟨rb,0,none⟩ (.string (Ident.mk nm))).setCell ⟨rb,1,none⟩ (.int .i64 0)).setCell ⟨rb,2,none⟩ (.int .u64 0)).setCell ⟨rb,3,none⟩ (.int .u64 0)).setCell ⟨rb,4,none⟩ (.int .u64 0)).setCell ⟨rb,5,none⟩ (.slice none 0 0)).setCell ⟨rb,6,none⟩ (.slice none 0 0)).setCell ⟨rb,7,none⟩ (.slice none 0 0)) rb [.string (Ident.mk nm),.int .i64 0,.int .u64 0,.int .u64 0,.int .u64 0,.slice none 0 0,.slice none 0 0,.slice none 0 0]):=(atv_set (atv_set (atv_set (atv_set (atv_set (atv_set (atv_set (atv_set (atv_set HR1.out 0 (.string (Ident.mk nm)) (by simp)) 0 (.string (Ident.mk nm)) (by simp)) 1 (.int .i64 0) (by simp)) 2 (.int .u64 0) (by simp)) 3 (.int .u64 0) (by simp)) 4 (.int .u64 0) (by simp)) 5 (.slice none 0 0) (by simp)) 6 (.slice none 0 0) (by simp)) 7 (.slice none 0 0) (by simp))
  have HB5:Hid (But (fun g=>g=lb) w (((((((((w1.setCell ⟨rb,0,none⟩ (.string (Ident.mk nm))).setCell ⟨rb,0,none⟩ (.string (Ident.mk nm))).setCell ⟨rb,1,none⟩ (.int .i64 0)).setCell ⟨rb,2,none⟩ (.int .u64 0)).setCell ⟨rb,3,none⟩ (.int .u64 0)).setCell ⟨rb,4,none⟩ (.int .u64 0)).setCell ⟨rb,5,none⟩ (.slice none 0 0)).setCell ⟨rb,6,none⟩ (.slice none 0 0)).setCell ⟨rb,7,none⟩ (.slice none 0 0))):=(((((((((HB4.out.set rb 0 (.string (Ident.mk nm)) (.inr (Nat.le_of_eq HRB.out))).set rb 0 (.string (Ident.mk nm)) (.inr (Nat.le_of_eq HRB.out))).set rb 1 (.int .i64 0) (.inr (Nat.le_of_eq HRB.out))).set rb 2 (.int .u64 0) (.inr (Nat.le_of_eq HRB.out))).set rb 3 (.int .u64 0) (.inr (Nat.le_of_eq HRB.out))).set rb 4 (.int .u64 0) (.inr (Nat.le_of_eq HRB.out))).set rb 5 (.slice none 0 0) (.inr (Nat.le_of_eq HRB.out))).set rb 6 (.slice none 0 0) (.inr (Nat.le_of_eq HRB.out))).set rb 7 (.slice none 0 0) (.inr (Nat.le_of_eq HRB.out)))
  have HE5:Hid (LnE (((((((((w1.setCell ⟨rb,0,none⟩ (.string (Ident.mk nm))).setCell ⟨rb,0,none⟩ (.string (Ident.mk nm))).setCell ⟨rb,1,none⟩ (.int .i64 0)).setCell ⟨rb,2,none⟩ (.int .u64 0)).setCell ⟨rb,3,none⟩ (.int .u64 0)).setCell ⟨rb,4,none⟩ (.int .u64 0)).setCell ⟨rb,5,none⟩ (.slice none 0 0)).setCell ⟨rb,6,none⟩ (.slice none 0 0)).setCell ⟨rb,7,none⟩ (.slice none 0 0)) lb b o n c):=(LnE.of HL.out).oth (T:=fun g=>g=rb) (((((((((((But.refl (fun g=>g=rb) w1).set rb 0 (.string (Ident.mk nm)) (.inl rfl)).set rb 0 (.string (Ident.mk nm)) (.inl rfl)).set rb 1 (.int .i64 0) (.inl rfl)).set rb 2 (.int .u64 0) (.inl rfl)).set rb 3 (.int .u64 0) (.inl rfl)).set rb 4 (.int .u64 0) (.inl rfl)).set rb 5 (.slice none 0 0) (.inl rfl)).set rb 6 (.slice none 0 0) (.inl rfl)).set rb 7 (.slice none 0 0) (.inl rfl))) hne1
  generalize (((((((((w1.setCell ⟨rb,0,none⟩ (.string (Ident.mk nm))).setCell ⟨rb,0,none⟩ (.string (Ident.mk nm))).setCell ⟨rb,1,none⟩ (.int .i64 0)).setCell ⟨rb,2,none⟩ (.int .u64 0)).setCell ⟨rb,3,none⟩ (.int .u64 0)).setCell ⟨rb,4,none⟩ (.int .u64 0)).setCell ⟨rb,5,none⟩ (.slice none 0 0)).setCell ⟨rb,6,none⟩ (.slice none 0 0)).setCell ⟨rb,7,none⟩ (.slice none 0 0))=w5 at HV5 HB5 HE5 ⊢
  clear r0 f0 r1 f1 r2 f2 r3 f3 r4 f4 r5 f5 r6 f6 r7 f7
  have r0:=HV5.out.at_ 0 _ rfl
  have f0:=HV5.out.fr 0
  have r1:=HV5.out.at_ 1 _ rfl
  have f1:=HV5.out.fr 1
  have r2:=HV5.out.at_ 2 _ rfl
  have f2:=HV5.out.fr 2
  have r3:=HV5.out.at_ 3 _ rfl
  have f3:=HV5.out.fr 3
  have r4:=HV5.out.at_ 4 _ rfl
  have f4:=HV5.out.fr 4
  have r5:=HV5.out.at_ 5 _ rfl
  have f5:=HV5.out.fr 5
  have r6:=HV5.out.at_ 6 _ rfl
  have f6:=HV5.out.fr 6
  have r7:=HV5.out.at_ 7 _ rfl
  have f7:=HV5.out.fr 7
  exact bodyPost_ret (v:=.tuple #[.agg #[.string (Ident.mk nm),.int .i64 0,.int .u64 0,.int .u64 0,.int .u64 0,.slice none 0 0,.slice none 0 0,.slice none 0 0],.int .i64 E]) (by simp [results,Tryd.results11,go_sem,r0,r1,r2,r3,r4,r5,r6,r7]) rfl ⟨⟨nm,noRng,Range.zeroRV 0⟩,E,rfl,hGE.symm,(fun h=>absurd h hE0),HB5.out,HE5.out⟩
end Go.Proofs.YtgakcdcfblgagaaDoor.Sheet
namespace Go.Proofs.YtgakcdcfblgagaaDoor.Sheet
open Go.RowKit Num Ident Semver Fr
open KR (AtV)
open Range (Rng noRng RV KeepS LtB InS From FitV)
open Name (isName)
open Model (PDep PPin PRel PPack MDep MPin MVer MRel MPack DepOk PinOk VerOk RelOk PackOk)

theorem pack_read {t:List UInt8} (hkw:kindW (wordOf t)=1) (hl:t.length≤16777216) {F:Nat} {x:List UInt8}
  (hF:F=(if t.drop ((wordOf t).length+1)=[] then 5 else if isName (t.drop ((wordOf t).length+1))=false then 12 else 0)) (hx:F=0→x=t.drop ((wordOf t).length+1)) :
  F=(readL t).e∧(F=0→x=(readL t).name∧x.length≤maxLen):=by
 have hr:=readL_pack (t:=t) (w:=wordOf t) (s:=t.drop ((wordOf t).length+1)) rfl rfl hkw
 have hdl:(t.drop ((wordOf t).length+1)).length≤16777216:=by rw [List.length_drop]; omega
 rw [hr]
 generalize t.drop ((wordOf t).length+1)=s at hF hx hdl ⊢
 by_cases h1:s=[]
 ·rw [if_pos h1] at hF ⊢
  exact ⟨hF,fun h=>by rw [hF] at h; cases h⟩
 ·rw [if_neg h1] at hF ⊢
  by_cases h2:isName s=false
  ·rw [if_pos h2] at hF ⊢
   exact ⟨hF,fun h=>by rw [hF] at h; cases h⟩
  ·rw [if_neg h2] at hF ⊢
   exact ⟨hF,fun h=>⟨hx h,by rw [hx h]; unfold maxLen; omega⟩⟩
theorem ver_read {t:List UInt8} (hkw:kindW (wordOf t)=2) {F:Nat} (hF:F=(if t.drop ((wordOf t).length+1)=[] then 5 else (vread (t.drop ((wordOf t).length+1))).1)) :
  F=(readL t).e∧(F=0→(vread (t.drop ((wordOf t).length+1))).2.2=(readL t).v):=by
 have hr:=readL_ver (t:=t) (w:=wordOf t) (s:=t.drop ((wordOf t).length+1)) rfl rfl hkw
 rw [hr]
 generalize t.drop ((wordOf t).length+1)=s at hF ⊢
 by_cases h1:s=[]
 ·rw [if_pos h1] at hF ⊢
  exact ⟨hF,fun h=>by rw [hF] at h; cases h⟩
 ·rw [if_neg h1] at hF ⊢
  unfold readV
  by_cases h2:(vread s).1≠0
  ·rw [if_pos h2]
   exact ⟨hF,fun h=>absurd (hF.symm.trans h) h2⟩
  ·rw [if_neg h2]
   have h3:(vread s).1=0:=by omega
   exact ⟨by rw [hF,h3],fun _=>rfl⟩
theorem pack_any (lb b o n c:Nat) (l:List UInt8) (k:Nat) (w:World) (h:Ln w lb b o n c l k) (hn:n≤16777216) (hkw:kindW (wordOf (l.drop k))=1) :
  Calls Tryd.prog 39 #[.pointer (some ⟨lb,0,none⟩)] w fun e w'=>∃ (x:MPack) (f:Nat),e=.returned (.tuple #[x.agg,.int .i64 f])∧f=(readL (l.drop k)).e∧(f=0→x=⟨(readL (l.drop k)).name,none,0,[]⟩∧x.name.length≤maxLen)∧But (fun g=>g=lb) w w'∧LnE w' lb b o n c:=by
 have hln:l.length=n:=h.row.1
 have hlt:=h.at_.lt
 have H0:Hid (Below w.heap.size w (w.alloc (.cells #[.string ⟨#[]⟩,.slice none 0 0] 41))):=(Below.refl _ _).alloc (Nat.le_refl _) _
 have hl0:=h.kept H0.out
 have HR0:Hid (AtV (w.alloc (.cells #[.string ⟨#[]⟩,.slice none 0 0] 41)) w.heap.size [.string ⟨#[]⟩,.slice none 0 0]):=AtV.new w _ _
 have hcon:=restN_any lb b o n c l k _ hl0 hn
 have HPL:=Lib.hid (fun (F:Nat) (x:List UInt8) hF hx=>pack_read (t:=l.drop k) hkw (by rw [List.length_drop]; omega) (F:=F) (x:=x) hF hx)
 have HLL:Hid (∀ W',But (fun g=>g=lb) (w.alloc (.cells #[.string ⟨#[]⟩,.slice none 0 0] 41)) W'→But (fun g=>g=lb) w W'):=fun W' q=>(But.of_same H0.out _).trans q fun i e=>.inl e
 clear hl0 h hkw
 obtain ⟨rb,hrb⟩:∃ rb,w.heap.size=rb:=⟨_,rfl⟩
 have HRB:=Lib.hid hrb
 have hne1:lb≠rb:=by omega
 go_enter Tryd.func39,Tryd.ntmps39
 go_wp2_with fail
 generalize w.alloc (.cells #[.string ⟨#[]⟩,.slice none 0 0] 41)=w0 at H0 HR0 HLL hcon ⊢
 rw [hrb] at HR0
 clear hrb
 refine hcon.mono ?_
 rintro e w1 ⟨nm,F,rfl,hF,hx,hb,hl⟩
 obtain ⟨h1,h2⟩:=HPL.out F nm hF hx
 have H1:=Lib.hid h1
 have H2:=Lib.hid h2
 have HB:=Lib.hid (HLL.out w1 hb)
 have HL:=Lib.hid hl
 have HR1:=Lib.hid (atv_oth HR0.out hb (fun e=>hne1 e.symm))
 clear hb hl hcon hF hx h1 h2
 have r0:=HR1.out.at_ 0 _ rfl
 have r1:=HR1.out.at_ 1 _ rfl
 have f0:=HR1.out.fr 0
 have f1:=HR1.out.fr 1
 go_wp2
 have HV5:Hid (AtV (((w1.setCell ⟨rb,0,none⟩ (.string (Ident.mk nm))).setCell ⟨rb,0,none⟩ (.string (Ident.mk nm))).setCell ⟨rb,1,none⟩ (.slice none 0 0)) rb [.string (Ident.mk nm),.slice none 0 0]):=atv_set (atv_set (atv_set HR1.out 0 (.string (Ident.mk nm)) (by simp)) 0 (.string (Ident.mk nm)) (by simp)) 1 (.slice none 0 0) (by simp)
 have HB5:Hid (But (fun g=>g=lb) w (((w1.setCell ⟨rb,0,none⟩ (.string (Ident.mk nm))).setCell ⟨rb,0,none⟩ (.string (Ident.mk nm))).setCell ⟨rb,1,none⟩ (.slice none 0 0))):=((HB.out.set rb 0 (.string (Ident.mk nm)) (.inr (Nat.le_of_eq HRB.out))).set rb 0 (.string (Ident.mk nm)) (.inr (Nat.le_of_eq HRB.out))).set rb 1 (.slice none 0 0) (.inr (Nat.le_of_eq HRB.out))
 have HE5:Hid (LnE (((w1.setCell ⟨rb,0,none⟩ (.string (Ident.mk nm))).setCell ⟨rb,0,none⟩ (.string (Ident.mk nm))).setCell ⟨rb,1,none⟩ (.slice none 0 0)) lb b o n c):=HL.out.oth (T:=fun g=>g=rb) ((((But.refl (fun g=>g=rb) w1).set rb 0 (.string (Ident.mk nm)) (.inl rfl)).set rb 0 (.string (Ident.mk nm)) (.inl rfl)).set rb 1 (.slice none 0 0) (.inl rfl)) hne1
 generalize ((w1.setCell ⟨rb,0,none⟩ (.string (Ident.mk nm))).setCell ⟨rb,0,none⟩ (.string (Ident.mk nm))).setCell ⟨rb,1,none⟩ (.slice none 0 0)=w5 at HV5 HB5 HE5 ⊢
 clear r0 r1 f0 f1
 have r0:=HV5.out.at_ 0 _ rfl
 have r1:=HV5.out.at_ 1 _ rfl
 exact bodyPost_ret (v:=.tuple #[.agg #[.string (Ident.mk nm),.slice none 0 0],.int .i64 F]) (by simp [results,Tryd.results39,go_sem,r0,r1]) rfl ⟨⟨nm,none,0,[]⟩,F,rfl,H1.out,(fun h0=>⟨by rw [← (H2.out h0).1],(H2.out h0).2⟩),HB5.out,HE5.out⟩
theorem published_any (lb b o n c yb:Nat) (y:Bool) (l:List UInt8) (k:Nat) (w:World) (h:Ln w lb b o n c l k) (hn:n≤16777216) (hkw:kindW (wordOf (l.drop k))=2) (hy:AtV w yb [.bool y]) (hyl:yb<lb) :
  Calls Tryd.prog 56 #[.pointer (some ⟨lb,0,none⟩),.pointer (some ⟨yb,0,none⟩)] w fun e w'=>∃ (x:MRel) (f:Nat),e=.returned (.tuple #[x.agg,.int .i64 f])∧f=(readL (l.drop k)).e∧(f=0→(∃ v:MVer,x=⟨v,y,none,0,[],none,0,[]⟩∧v.v=(readL (l.drop k)).v∧VerOk w' (From w.heap.size) v))∧But (fun g=>g=lb) w w'∧LnE w' lb b o n c:=by
 have hlt:=h.at_.lt
 have H0:Hid (Below w.heap.size w (w.alloc (.cells #[.int .u64 0,.int .u64 0,.int .u64 0,.slice none 0 0,.slice none 0 0,.bool false,.slice none 0 0,.slice none 0 0] 47))):=(Below.refl _ _).alloc (Nat.le_refl _) _
 have hl0:=h.kept H0.out
 have HR0:Hid (AtV (w.alloc (.cells #[.int .u64 0,.int .u64 0,.int .u64 0,.slice none 0 0,.slice none 0 0,.bool false,.slice none 0 0,.slice none 0 0] 47)) w.heap.size [.int .u64 0,.int .u64 0,.int .u64 0,.slice none 0 0,.slice none 0 0,.bool false,.slice none 0 0,.slice none 0 0]):=AtV.new w _ _
 have HY0:=Lib.hid (hy.kept H0.out hy.lt)
 have hcon:=restV_any lb b o n c l k _ hl0 hn
 have HPL:=Lib.hid (fun (F:Nat) hF=>ver_read (t:=l.drop k) hkw (F:=F) hF)
 have HLL:Hid (∀ W',But (fun g=>g=lb) (w.alloc (.cells #[.int .u64 0,.int .u64 0,.int .u64 0,.slice none 0 0,.slice none 0 0,.bool false,.slice none 0 0,.slice none 0 0] 47)) W'→But (fun g=>g=lb) w W'):=fun W' q=>(But.of_same H0.out _).trans q fun i e=>.inl e
 have hz0:(w.alloc (.cells #[.int .u64 0,.int .u64 0,.int .u64 0,.slice none 0 0,.slice none 0 0,.bool false,.slice none 0 0,.slice none 0 0] 47)).heap.size=w.heap.size+1:=by simp
 clear hl0 h hkw hy
 obtain ⟨rb,hrb⟩:∃ rb,w.heap.size=rb:=⟨_,rfl⟩
 have HRB:=Lib.hid hrb
 have hne1:lb≠rb:=by omega
 have hne2:yb≠lb:=by omega
 go_enter Tryd.func56,Tryd.ntmps56
 go_wp2_with fail
 generalize w.alloc (.cells #[.int .u64 0,.int .u64 0,.int .u64 0,.slice none 0 0,.slice none 0 0,.bool false,.slice none 0 0,.slice none 0 0] 47)=w0 at H0 HR0 HY0 HLL hcon hz0 ⊢
 rw [hrb] at HR0 hz0
 clear hrb
 refine hcon.mono ?_
 rintro e w1 ⟨x,F,rfl,hF,hx,hb,hl⟩
 obtain ⟨h1,h2⟩:=HPL.out F hF
 have HX:=Lib.hid hx
 have H1:=Lib.hid h1
 have H2:=Lib.hid h2
 have HB:=Lib.hid (HLL.out w1 hb)
 have HL:=Lib.hid hl
 have HR1:=Lib.hid (atv_oth HR0.out hb (fun e=>hne1 e.symm))
 have HY1:=Lib.hid (atv_oth HY0.out hb hne2)
 have hz1:=hb.size
 clear hb hl hcon hF hx h1 h2
 have y0:=HY1.out.at_ 0 _ rfl
 have hyl2:=HY1.out.lt
 unfold Model.MVer.agg
 go_upto_region 2 with (fail)
 have HA:Hid (Below w1.heap.size w1 (w1.alloc (x.v,x.A,x.c,x.B,x.d))):=(Below.refl _ _).alloc (Nat.le_refl _) _
 have HVB:Hid (AtV (w1.alloc (x.v,x.A,x.c,x.B,x.d)) w1.heap.size [.int .u64 x.v.a,.int .u64 x.v.b,.int .u64 x.v.c,.slice x.A x.v.pre.length x.c,.slice x.B x.v.build.length x.d]):=AtV.new w1 _ _
 have hrw:rb<w1.heap.size:=HR1.out.lt
 have HR2:=Lib.hid (HR1.out.kept HA.out hrw)
 have HY2:=Lib.hid (HY1.out.kept HA.out hyl2)
 have HL2:Hid (LnE (w1.alloc (x.v,x.A,x.c,x.B,x.d)) lb b o n c):=HL.out.oth (But.of_same HA.out fun _=>False) fun g=>g
 have HB2:Hid (But (fun g=>g=lb) w (w1.alloc (x.v,x.A,x.c,x.B,x.d))):=HB.out.trans (But.of_same HA.out fun _=>False) fun i g=>g.elim
 obtain ⟨vb,hvb⟩:∃ vb,w1.heap.size=vb:=⟨_,rfl⟩
 have HVE:=Lib.hid hvb
 rw [hvb] at HVB ⊢
 clear y0 hvb
 generalize (w1.alloc (x.v,x.A,x.c,x.B,x.d))=w2 at HA HVB HR2 HY2 HL2 HB2 ⊢
 have y0:=HY2.out.at_ 0 _ rfl
 have v0:=HVB.out.at_ 0 _ rfl
 have v1:=HVB.out.at_ 1 _ rfl
 have v2:=HVB.out.at_ 2 _ rfl
 have v3:=HVB.out.at_ 3 _ rfl
 have v4:=HVB.out.at_ 4 _ rfl
 have r0:=HR2.out.at_ 0 _ rfl
 have f0:=HR2.out.fr 0
 have r1:=HR2.out.at_ 1 _ rfl
 have f1:=HR2.out.fr 1
 have r2:=HR2.out.at_ 2 _ rfl
 have f2:=HR2.out.fr 2
 have r3:=HR2.out.at_ 3 _ rfl
 have f3:=HR2.out.fr 3
 have r4:=HR2.out.at_ 4 _ rfl
 have f4:=HR2.out.fr 4
 have r5:=HR2.out.at_ 5 _ rfl
 have f5:=HR2.out.fr 5
 have r6:=HR2.out.at_ 6 _ rfl
 have f6:=HR2.out.fr 6
 have r7:=HR2.out.at_ 7 _ rfl
 have f7:=HR2.out.fr 7
 go_wp2
 have HV5:Hid (AtV ((((((((w2.setCell ⟨rb,0,none⟩ x.v.a).setCell ⟨rb,1,none⟩ x.v.b).setCell ⟨rb,2,none⟩ x.v.c).setCell ⟨rb,3,none⟩ (.slice x.A x.v.pre.length x.c)).setCell ⟨rb,4,none⟩ (.slice x.B x.v.build.length x.d)).setCell ⟨rb,5,none⟩ (.bool y)).setCell ⟨rb,6,none⟩ (.slice none 0 0)).setCell ⟨rb,7,none⟩ (.slice none 0 0)) rb [.int .u64 x.v.a,.int .u64 x.v.b,.int .u64 x.v.c,.slice x.A x.v.pre.length x.c,.slice x.B x.v.build.length x.d,.bool y,.slice none 0 0,.slice none 0 0]):=(atv_set (atv_set (atv_set (atv_set (atv_set (atv_set (atv_set (atv_set HR2.out 0 x.v.a (by simp)) 1 x.v.b (by simp)) 2 x.v.c (by simp)) 3 (.slice x.A x.v.pre.length x.c) (by simp)) 4 (.slice x.B x.v.build.length x.d) (by simp)) 5 (.bool y) (by simp)) 6 (.slice none 0 0) (by simp)) 7 (.slice none 0 0) (by simp))
 have HB5:Hid (But (fun g=>g=lb) w ((((((((w2.setCell ⟨rb,0,none⟩ x.v.a).setCell ⟨rb,1,none⟩ x.v.b).setCell ⟨rb,2,none⟩ x.v.c).setCell ⟨rb,3,none⟩ (.slice x.A x.v.pre.length x.c)).setCell ⟨rb,4,none⟩ (.slice x.B x.v.build.length x.d)).setCell ⟨rb,5,none⟩ (.bool y)).setCell ⟨rb,6,none⟩ (.slice none 0 0)).setCell ⟨rb,7,none⟩ (.slice none 0 0))):=((((((((HB2.out.set rb 0 x.v.a (.inr (Nat.le_of_eq HRB.out))).set rb 1 x.v.b (.inr (Nat.le_of_eq HRB.out))).set rb 2 x.v.c (.inr (Nat.le_of_eq HRB.out))).set rb 3 (.slice x.A x.v.pre.length x.c) (.inr (Nat.le_of_eq HRB.out))).set rb 4 (.slice x.B x.v.build.length x.d) (.inr (Nat.le_of_eq HRB.out))).set rb 5 (.bool y) (.inr (Nat.le_of_eq HRB.out))).set rb 6 (.slice none 0 0) (.inr (Nat.le_of_eq HRB.out))).set rb 7 (.slice none 0 0) (.inr (Nat.le_of_eq HRB.out)))
 have HK5:Hid (But (fun g=>g=rb) w2 ((((((((w2.setCell ⟨rb,0,none⟩ x.v.a).setCell ⟨rb,1,none⟩ x.v.b).setCell ⟨rb,2,none⟩ x.v.c).setCell ⟨rb,3,none⟩ (.slice x.A x.v.pre.length x.c)).setCell ⟨rb,4,none⟩ (.slice x.B x.v.build.length x.d)).setCell ⟨rb,5,none⟩ (.bool y)).setCell ⟨rb,6,none⟩ (.slice none 0 0)).setCell ⟨rb,7,none⟩ (.slice none 0 0))):=(((((((((But.refl (fun g=>g=rb) w2).set rb 0 x.v.a (.inl rfl)).set rb 1 x.v.b (.inl rfl)).set rb 2 x.v.c (.inl rfl)).set rb 3 (.slice x.A x.v.pre.length x.c) (.inl rfl)).set rb 4 (.slice x.B x.v.build.length x.d) (.inl rfl)).set rb 5 (.bool y) (.inl rfl)).set rb 6 (.slice none 0 0) (.inl rfl)).set rb 7 (.slice none 0 0) (.inl rfl))
 have HE5:Hid (LnE ((((((((w2.setCell ⟨rb,0,none⟩ x.v.a).setCell ⟨rb,1,none⟩ x.v.b).setCell ⟨rb,2,none⟩ x.v.c).setCell ⟨rb,3,none⟩ (.slice x.A x.v.pre.length x.c)).setCell ⟨rb,4,none⟩ (.slice x.B x.v.build.length x.d)).setCell ⟨rb,5,none⟩ (.bool y)).setCell ⟨rb,6,none⟩ (.slice none 0 0)).setCell ⟨rb,7,none⟩ (.slice none 0 0)) lb b o n c):=HL2.out.oth HK5.out hne1
 generalize ((((((((w2.setCell ⟨rb,0,none⟩ x.v.a).setCell ⟨rb,1,none⟩ x.v.b).setCell ⟨rb,2,none⟩ x.v.c).setCell ⟨rb,3,none⟩ (.slice x.A x.v.pre.length x.c)).setCell ⟨rb,4,none⟩ (.slice x.B x.v.build.length x.d)).setCell ⟨rb,5,none⟩ (.bool y)).setCell ⟨rb,6,none⟩ (.slice none 0 0)).setCell ⟨rb,7,none⟩ (.slice none 0 0))=w5 at HV5 HB5 HE5 HK5 ⊢
 clear y0 r0 f0 r1 f1 r2 f2 r3 f3 r4 f4 r5 f5 r6 f6 r7 f7 v0 v1 v2 v3 v4
 have r0:=HV5.out.at_ 0 _ rfl
 have r1:=HV5.out.at_ 1 _ rfl
 have r2:=HV5.out.at_ 2 _ rfl
 have r3:=HV5.out.at_ 3 _ rfl
 have r4:=HV5.out.at_ 4 _ rfl
 have r5:=HV5.out.at_ 5 _ rfl
 have r6:=HV5.out.at_ 6 _ rfl
 have r7:=HV5.out.at_ 7 _ rfl
 refine bodyPost_ret (v:=.tuple #[.agg #[x.v.a,x.v.b,x.v.c,.slice x.A x.v.pre.length x.c,.slice x.B x.v.build.length x.d,.bool y,.slice none 0 0,.slice none 0 0],.int .i64 F]) (by simp [results,Tryd.results56,go_sem,r0,r1,r2,r3,r4,r5,r6,r7]) rfl ⟨⟨x,y,none,0,[],none,0,[]⟩,F,rfl,H1.out,fun h0=>⟨x,rfl,?_,?_⟩,HB5.out,HE5.out⟩
 ·rw [(HX.out h0).1,H2.out h0]
 ·have hx:=(HX.out h0).2
  have h12:=HA.out.size
  have q:=hx.keep (KeepS.of_below (S:=From w0.heap.size) HA.out)
  have q2:=q.keep (keep_oth HK5.out fun g hg d=>by have hg:w0.heap.size≤g:=hg; omega)
  exact q2.mono fun g hg _=>by
   have hg:w0.heap.size≤g:=hg
   have:w.heap.size≤g:=by have:=HRB.out; omega
   exact this
end Go.Proofs.YtgakcdcfblgagaaDoor.Sheet
namespace Go.Proofs.YtgakcdcfblgagaaDoor.Sheet
open Go.RowKit Num Ident Semver Fr

def ZeroJ (w:World) (A:Option Addr) (c mb:Nat) (a':Act) (w':World):Prop :=
 ∃ (u2 u3 u6 u7 u8 u9 u10 u11 u12 u13 u14 u15 u16 u17 u18 u19 u20 u21 u22 u23 u24 u25 u26 u27:Value),w=w'∧a'={ tmps:=#[.slice A 0 c,.map (some mb),u2,u3,.int .i64 0,.int .i64 0,u6,u7,u8,u9,u10,u11,u12,u13,u14,u15,u16,u17,u18,u19,u20,u21,u22,u23,u24,u25,u26,u27],defers:=[] }
theorem read_zero (A:Option Addr) (c mb:Nat) (w:World) :
  Calls Tryd.prog 16 #[.slice A 0 c,.map (some mb)] w fun e w'=>e=.returned (.tuple #[.int .i64 0,.int .i64 0])∧w=w':=by
 go_enter Tryd.func16,Tryd.ntmps16
 go_wp2
 refine wp_scope_back 0 (ZeroJ w A c mb) (fun _ _=>0) rfl ?_ ?_
 ·rintro a' w' ⟨u2,u3,u6,u7,u8,u9,u10,u11,u12,u13,u14,u15,u16,u17,u18,u19,u20,u21,u22,u23,u24,u25,u26,u27,rfl,rfl⟩
  go_wp2
  simp only [Exit.jump]
  go_ret2
  exact ⟨rfl,rfl⟩
 ·intro HP
  go_wp2
  go_step3
  rename_i hK
  exact hK _ _ (HP.out _ _ ⟨_,_,_,_,_,_,_,_,_,_,_,_,_,_,_,_,_,_,_,_,_,_,_,_,rfl,rfl⟩)
end Go.Proofs.YtgakcdcfblgagaaDoor.Sheet
