/-
  What the theorem of the last text needs of these: ShRestV, ShRead, ShMakeX, ShMake, ShMakeS, ShIntoD. Conditions: as each theorem states.
-/
import Derived.Test.YtgakcdcfblgagaaDoorJoA1
import Derived.Test.YtgakcdcfblgagaaDoorJoA4
import Derived.Test.YtgakcdcfblgagaaDoorJoA7
import Derived.Test.YtgakcdcfblgagaaDoorJoA9
import Derived.Test.YtgakcdcfblgagaaDoorJoA10
import Derived.Test.YtgakcdcfblgagaaDoorJoA15
import Derived.Test.YtgakcdcfblgagaaDoorJoA16
set_option maxRecDepth 100000
set_option maxHeartbeats 25600000
namespace Go.Proofs.YtgakcdcfblgagaaDoor.Sheet
open Go.RowKit Num Ident Semver Fr
open KR (AtV)
open Range (Rng noRng RV KeepS LtB InS From FitV pread)
open Name (isName)
open Model (MVer VerOk)
theorem vread_le (l:List UInt8):(vread l).2.1≤l.length:=by
 have:=vparse_end l 0
 show (if (vparse l 0).1≠0 then ((vparse l 0).1,(vparse l 0).2.1,noVer) else if (vparse l 0).2.1≠l.length then (13,(vparse l 0).2.1,noVer) else (0,0,(vparse l 0).2.2)).2.1≤l.length
 split
 ·exact this
 ·split
  ·exact this
  ·exact Nat.zero_le _

theorem restV_any (lb b o n c:Nat) (l:List UInt8) (k:Nat) (w:World) (h:Ln w lb b o n c l k) (hn:n≤16777216) :
  Calls Tryd.prog 25 #[.pointer (some ⟨lb,0,none⟩),.func (.func 26) #[] #[]] w fun e w'=>∃ (x:MVer) (f:Nat),e=.returned (.tuple #[x.agg,.int .i64 f])∧f=(if (l.drop k).drop ((wordOf (l.drop k)).length+1)=[] then 5 else (vread ((l.drop k).drop ((wordOf (l.drop k)).length+1))).1)∧(f=0→x.v=(vread ((l.drop k).drop ((wordOf (l.drop k)).length+1))).2.2∧VerOk w' (From w.heap.size) x)∧But (fun g=>g=lb) w w'∧LnE w' lb b o n c:=by
 have hln:l.length=n:=h.row.1
 have H0:Hid (Below w.heap.size w (w.alloc false)):=(Below.refl _ _).alloc (Nat.le_refl _) _
 have hl0:=h.kept H0.out
 have HL0:=Lib.hid hl0
 have HR0:Hid (AtV (w.alloc false) w.heap.size [.int .u64 0,.int .u64 0,.int .u64 0,.slice none 0 0,.slice none 0 0]):=AtV.new w _ _
 have hcon:=next_any lb b o n c l k _ hl0
 have HEM:=Lib.hid (nextAt_end (l:=l) h.kn')
 obtain ⟨s,hs⟩:∃ s,(l.drop k).drop ((wordOf (l.drop k)).length+1)=s:=⟨_,rfl⟩
 have HDR:Hid (l.drop (nextAt l k)=s):=by unfold Hid; rw [nextAt_drop l k,hs]
 rw [hs] at HEM ⊢
 obtain ⟨F,hF⟩:∃ F,(if s=[] then 5 else (vread s).1)=F:=⟨_,rfl⟩
 obtain ⟨rr,hrr⟩:∃ rr,(vread s).2.2=rr:=⟨_,rfl⟩
 have HF:=Lib.hid hF
 have HRR:=Lib.hid hrr
 rw [hF,hrr]
 clear hF hrr
 clear hs
 have hlt:=h.at_.lt
 have hbl:=h.hb
 have hcm:=h.cm
 unfold maxLen at hcm
 have hle:=(nextAt_le (l:=l) h.kn').2
 rw [hln] at HEM hle
 have HLL:Hid (∀ W',But (fun g=>g=lb) (w.alloc false) W'→But (fun g=>g=lb) w W'):=fun W' q=>(But.of_same H0.out _).trans q fun i e=>.inl e
 clear hl0 h
 obtain ⟨rb,hrb⟩:∃ rb,w.heap.size=rb:=⟨_,rfl⟩
 have HRB:=Lib.hid hrb
 have hlr:lb<rb:=by omega
 have hne1:lb≠rb:=by omega
 have hne2:b≠rb:=by omega
 go_enter Tryd.func25,Tryd.ntmps25
 go_wp2_with fail
 generalize w.alloc false=w0 at H0 HL0 HR0 HLL hcon ⊢
 rw [hrb] at HR0
 clear hrb
 obtain ⟨k',hk'⟩:∃ k',nextAt l k=k':=⟨_,rfl⟩
 rw [hk'] at hcon HEM hle
 rw [hk'] at HDR
 clear hk'
 by_cases he:k'=n
 ·have hs0:=HEM.out.1 he
  rw [if_pos he] at hcon
  clear he
  refine hcon.mono ?_
  rintro e w1 ⟨rfl,hb,hl⟩
  have HB:=Lib.hid hb
  have HL:=Lib.hid hl
  have HR1:=Lib.hid (atv_oth HR0.out hb (fun e=>hne1 e.symm))
  clear hb hl hcon
  have r0:=HR1.out.at_ 0 _ rfl
  have f0:=HR1.out.fr 0
  have r1:=HR1.out.at_ 1 _ rfl
  have f1:=HR1.out.fr 1
  have r2:=HR1.out.at_ 2 _ rfl
  have f2:=HR1.out.fr 2
  have r3:=HR1.out.at_ 3 _ rfl
  have f3:=HR1.out.fr 3
  have r4:=HR1.out.at_ 4 _ rfl
  have f4:=HR1.out.fr 4
  go_wp2
  have hB1:=HLL.out w1 HB.out
  have hF:F=5:=by rw [← HF.out,if_pos hs0]
  exact bodyPost_ret (v:=.tuple #[.agg #[.int .u64 0,.int .u64 0,.int .u64 0,.slice none 0 0,.slice none 0 0],.int .i64 5]) (by simp [results,Tryd.results25,go_sem,r0,r1,r2,r3,r4]) rfl ⟨default,5,rfl,hF.symm,(fun e=>by cases e),(((((hB1.set rb 0 (.int .u64 0) (.inr (Nat.le_of_eq HRB.out))).set rb 1 (.int .u64 0) (.inr (Nat.le_of_eq HRB.out))).set rb 2 (.int .u64 0) (.inr (Nat.le_of_eq HRB.out))).set rb 3 (.slice none 0 0) (.inr (Nat.le_of_eq HRB.out))).set rb 4 (.slice none 0 0) (.inr (Nat.le_of_eq HRB.out))),(LnE.of HL.out).oth (T:=fun g=>g=rb) (((((((But.refl (fun g=>g=rb) w1).set rb 0 (.int .u64 0) (.inl rfl)).set rb 1 (.int .u64 0) (.inl rfl)).set rb 2 (.int .u64 0) (.inl rfl)).set rb 3 (.slice none 0 0) (.inl rfl)).set rb 4 (.slice none 0 0) (.inl rfl))) hne1⟩
 ·have hs0:s≠[]:=fun e=>he (HEM.out.2 e)
  rw [if_neg he] at hcon
  clear he
  refine hcon.mono ?_
  rintro e w1 ⟨rfl,hb,hl⟩
  have HB:=Lib.hid hb
  have HL:=Lib.hid hl
  have HR1:=Lib.hid (atv_oth HR0.out hb (fun e=>hne1 e.symm))
  clear hb hl hcon
  have hk':=HL.out.kn
  have hnc:=HL.out.nc
  obtain ⟨o',hA⟩:∃ o',(if c=k' then some (⟨b,o,none⟩:Addr) else (some (⟨b,o,none⟩:Addr)).map (fun x=>x.add k'))=some ⟨b,o',none⟩:=by
   split
   ·exact ⟨o,rfl⟩
   ·exact ⟨o+k',by rw [Option.map_some,add_none]⟩
  have HRW:Hid (Row w1 (some ⟨b,o',none⟩) (n - k') s):=by
   unfold Hid
   rw [← HDR.out]
   exact Ident.Row.from_ HL.out.row k' c hk' hnc hA
  have HSL:Hid (s.length=n - k'):=HRW.out.1
  have hnk:¬ n<k':=by omega
  have hcn:¬ c<n:=by omega
  have c0:=HL.out.at_.at_ 0 _ rfl
  have c1:=HL.out.at_.at_ 1 _ rfl
  have lt:=HL.out.at_.lt
  have H0:Hid (But (fun g=>g=rb) w1 w1.drew):=(But.refl _ _).drew
  have HRd:Hid (AtV w1.drew rb [.int .u64 0,.int .u64 0,.int .u64 0,.slice none 0 0,.slice none 0 0]):=HR1.out.kept (Below.refl _ _).drew HR1.out.lt
  obtain ⟨⟨f',q,v⟩,hp⟩:∃ t,vread s=t:=⟨_,rfl⟩
  have hFf:F=f':=by rw [← HF.out,if_neg hs0,hp]
  have hrr:rr=v:=by rw [← HRR.out,hp]
  have hq:q≤n - k':=by have:=vread_le s; rw [hp] at this; rw [← HSL.out]; exact this
  subst hFf
  subst hrr
  have hsl:=HSL.out
  have HFT:Hid (F=0→FitV rr):=fun h0=>Range.fit_good (by have:=(read_back (l:=s) (q:=q) (v:=rr) (by rw [hp,h0])).1; exact this)
  have HRN:Hid (∀ W,Calls Tryd.prog 26 #[.string (Ident.mk s)] W (VerPostF W (F,q,rr))):=fun W=>by
   have:=Semver.read_fresh (Ident.mk s) W (by rw [mk_size]; unfold maxLen; omega)
   rw [mk_list,hp] at this
   exact this
  clear hp
  have HCV:Hid (∀ W',But (fun g=>g=rb) w1 W'→(convert 22 9 (.slice (some ⟨b,o',none⟩) (n - k') (c - k'))).run Tryd.prog W'=.ok (.string (Ident.mk s)) W'):=fun W' q=>run_text (row_oth HRW.out q hne2) (c - k')
  go_wp2
  refine wp_region_held_drew (S:=fun w'=>But (fun g=>g=rb) w1 w') (by kernel_rfl) H0.out (fun hHeld=>?_)
  generalize w1.drew=wd at H0 HRd hHeld ⊢
  refine tk 0 rfl (.func (.func 26) #[] #[]) ?_
  refine tk 1 rfl (.pointer (some ⟨lb,0,none⟩)) ?_
  refine tk 2 rfl (.pointer (some ⟨lb,0,none⟩)) ?_
  refine tk 3 rfl (.pointer (some ⟨lb,0,none⟩)) ?_
  refine tk 4 rfl (.slice (some ⟨b,o,none⟩) n c) ?_ (hv:=fun w' hS'=>by (have z0:=(hS'.cell lt hne1).trans c0); go_simp)
  refine tk 5 rfl (.pointer (some ⟨lb,0,none⟩)) ?_
  refine tk 6 rfl (.pointer (some ⟨lb,0,none⟩)) ?_
  refine tk 7 rfl (.pointer (some ⟨lb,1,none⟩)) ?_
  refine tk 8 rfl (.int .i64 k') ?_ (hv:=fun w' hS'=>by (have z0:=(hS'.cell lt hne1).trans c1); go_simp)
  refine tk 9 rfl (.slice (some ⟨b,o',none⟩) (n - k') (c - k')) ?_ (hv:=fun w' hS'=>by rw [← hA]; go_simp)
  refine tk 10 rfl (.string (Ident.mk s)) ?_ (hv:=fun w' hS'=>by (have z0:=HCV.out w' hS'); go_simp)
  refine cl 11 rfl fun K hK=>?_
  go_simp
  refine (HRN.out _).mono ?_
  rintro e w2 ⟨A1,ca,B1,cb,rfl,hca,hcb,hr1,hr2,hb,hf1,hf2⟩
  have H2:Hid (But (fun g=>g=rb) w1 w2):=H0.out.trans (But.of_same hb (fun _=>False)) fun i g=>g.elim
  have HR2:=Lib.hid (HRd.out.kept hb HRd.out.lt)
  have hz2:=hb.size
  simp only at hca hcb hr1 hr2 hf1 hf2 ⊢
  have HX:Hid (F=0→VerOk w2 (From wd.heap.size) ⟨rr,A1,ca,B1,cb⟩):=fun h0=>⟨hr1,hr2,hf1,hf2,hca,hcb,HFT.out h0⟩
  clear hca hcb hr1 hr2 hf1 hf2
  refine hK.out _ _ H2.out (fun hHeld2=>?_)
  clear hK K hb
  try simp only [Act.put,p1,p2,p3]
  refine tk 12 rfl (.tuple #[.agg #[rr.a,rr.b,rr.c,.slice A1 rr.pre.length ca,.slice B1 rr.build.length cb],.int .i64 q,.int .i64 F]) ?_
  refine tk 13 rfl (.agg #[rr.a,rr.b,rr.c,.slice A1 rr.pre.length ca,.slice B1 rr.build.length cb]) ?_
  refine tk 14 rfl (.int .i64 q) ?_
  refine tk 15 rfl (.int .i64 F) ?_
  have r0:=HR2.out.at_ 0 _ rfl
  have f0:=HR2.out.fr 0
  have r1:=HR2.out.at_ 1 _ rfl
  have f1:=HR2.out.fr 1
  have r2:=HR2.out.at_ 2 _ rfl
  have f2:=HR2.out.fr 2
  have r3:=HR2.out.at_ 3 _ rfl
  have f3:=HR2.out.fr 3
  have r4:=HR2.out.at_ 4 _ rfl
  have f4:=HR2.out.fr 4
  refine cl 16 rfl fun K hK=>?_
  go_simp
  have H3:Hid (But (fun g=>g=rb) w1 (((((w2.setCell ⟨rb,0,none⟩ rr.a).setCell ⟨rb,1,none⟩ rr.b).setCell ⟨rb,2,none⟩ rr.c).setCell ⟨rb,3,none⟩ (.slice A1 rr.pre.length ca)).setCell ⟨rb,4,none⟩ (.slice B1 rr.build.length cb))):=(((((H2.out.set rb 0 rr.a (.inl rfl)).set rb 1 rr.b (.inl rfl)).set rb 2 rr.c (.inl rfl)).set rb 3 (.slice A1 rr.pre.length ca) (.inl rfl)).set rb 4 (.slice B1 rr.build.length cb) (.inl rfl))
  have HV3:Hid (AtV (((((w2.setCell ⟨rb,0,none⟩ rr.a).setCell ⟨rb,1,none⟩ rr.b).setCell ⟨rb,2,none⟩ rr.c).setCell ⟨rb,3,none⟩ (.slice A1 rr.pre.length ca)).setCell ⟨rb,4,none⟩ (.slice B1 rr.build.length cb)) rb [.int .u64 rr.a,.int .u64 rr.b,.int .u64 rr.c,.slice A1 rr.pre.length ca,.slice B1 rr.build.length cb]):=(atv_set (atv_set (atv_set (atv_set (atv_set HR2.out 0 rr.a (by simp)) 1 rr.b (by simp)) 2 rr.c (by simp)) 3 (.slice A1 rr.pre.length ca) (by simp)) 4 (.slice B1 rr.build.length cb) (by simp))
  have HB23:Hid (But (fun g=>g=rb) w2 (((((w2.setCell ⟨rb,0,none⟩ rr.a).setCell ⟨rb,1,none⟩ rr.b).setCell ⟨rb,2,none⟩ rr.c).setCell ⟨rb,3,none⟩ (.slice A1 rr.pre.length ca)).setCell ⟨rb,4,none⟩ (.slice B1 rr.build.length cb))):=((((((But.refl (fun g=>g=rb) w2).set rb 0 rr.a (.inl rfl)).set rb 1 rr.b (.inl rfl)).set rb 2 rr.c (.inl rfl)).set rb 3 (.slice A1 rr.pre.length ca) (.inl rfl)).set rb 4 (.slice B1 rr.build.length cb) (.inl rfl))
  refine hK.out _ _ H3.out (fun hHeld3=>?_)
  clear hK K
  try simp only [Act.put,p1,p2,p3]
  refine tk 17 rfl (.int .i64 q) ?_
  refine tk 18 rfl (.int .i64 F) ?_
  refine wpAnyH_done (by kernel_rfl) ?_ _
  clear hHeld hHeld2 hHeld3 r0 f0 r1 f1 r2 f2 r3 f3 r4 f4
  generalize (((((w2.setCell ⟨rb,0,none⟩ rr.a).setCell ⟨rb,1,none⟩ rr.b).setCell ⟨rb,2,none⟩ rr.c).setCell ⟨rb,3,none⟩ (.slice A1 rr.pre.length ca)).setCell ⟨rb,4,none⟩ (.slice B1 rr.build.length cb))=w3 at H3 HV3 HB23 ⊢
  have d1:=(H3.out.cell lt hne1).trans c1
  have g1:=(H3.out.frozen lt hne1).trans (HL.out.at_.fr 1)
  have r0:=HV3.out.at_ 0 _ rfl
  have f0:=HV3.out.fr 0
  have r1:=HV3.out.at_ 1 _ rfl
  have f1:=HV3.out.fr 1
  have r2:=HV3.out.at_ 2 _ rfl
  have f2:=HV3.out.fr 2
  have r3:=HV3.out.at_ 3 _ rfl
  have f3:=HV3.out.fr 3
  have r4:=HV3.out.at_ 4 _ rfl
  have f4:=HV3.out.fr 4
  have HB3:Hid (But (fun g=>g=lb) w w3):=(HLL.out w1 HB.out).trans H3.out fun i e=>.inr (by rw [e]; exact Nat.le_of_eq HRB.out)
  have HE3:=Lib.hid ((LnE.of HL.out).oth H3.out hne1)
  clear c0 c1
  obtain ⟨j,hj⟩:∃ j,k'+q=j:=⟨_,rfl⟩
  have hwj:IntKind.i64.wrap ((k':Int)+(q:Int))=(j:Int):=by rw [IntKind.wrap_i64]; omega
  have hrl:rb<wd.heap.size:=HRd.out.lt
  have hll:lb<wd.heap.size:=Nat.lt_of_lt_of_le lt H0.out.size
  clear hj
  go_wp2
  exact bodyPost_ret (v:=.tuple #[.agg #[rr.a,rr.b,rr.c,.slice A1 rr.pre.length ca,.slice B1 rr.build.length cb],.int .i64 F]) (by simp [results,Tryd.results25,go_sem,r0,r1,r2,r3,r4]) rfl ⟨⟨rr,A1,ca,B1,cb⟩,F,rfl,rfl,fun h0=>⟨rfl,((HX.out h0).keep (keep_oth (T:=fun g=>g=rb∨g=lb) (S:=From wd.heap.size) (((((((HB23.out.mono (T':=fun g=>g=rb∨g=lb) fun g e=>.inl e).set lb 1 (.int .i64 j) (.inl (.inr rfl))).set rb 0 rr.a (.inl (.inl rfl))).set rb 1 rr.b (.inl (.inl rfl))).set rb 2 rr.c (.inl (.inl rfl))).set rb 3 (.slice A1 rr.pre.length ca) (.inl (.inl rfl))).set rb 4 (.slice B1 rr.build.length cb) (.inl (.inl rfl))) (fun g hg d=>by have hg:wd.heap.size≤g:=hg; rcases d with d | d <;> omega))).mono (fun g hg _=>by have hg:wd.heap.size≤g:=hg; have hg2:w.heap.size≤wd.heap.size:=(by have:=HRB.out; omega); exact Nat.le_trans hg2 hg)⟩,((((((HB3.out.set lb 1 (.int .i64 j) (.inl rfl)).set rb 0 rr.a (.inr (Nat.le_of_eq HRB.out))).set rb 1 rr.b (.inr (Nat.le_of_eq HRB.out))).set rb 2 rr.c (.inr (Nat.le_of_eq HRB.out))).set rb 3 (.slice A1 rr.pre.length ca) (.inr (Nat.le_of_eq HRB.out))).set rb 4 (.slice B1 rr.build.length cb) (.inr (Nat.le_of_eq HRB.out))),(HE3.out.setq (j:Int)).oth (T:=fun g=>g=rb) (((((((But.refl (fun g=>g=rb) (w3.setCell ⟨lb,1,none⟩ (.int .i64 j))).set rb 0 rr.a (.inl rfl)).set rb 1 rr.b (.inl rfl)).set rb 2 rr.c (.inl rfl)).set rb 3 (.slice A1 rr.pre.length ca) (.inl rfl)).set rb 4 (.slice B1 rr.build.length cb) (.inl rfl))) hne1⟩
end Go.Proofs.YtgakcdcfblgagaaDoor.Sheet
namespace Go.Proofs.YtgakcdcfblgagaaDoor.Sheet
open Go.RowKit Num Ident Semver Fr
open KR (AtV)

structure Keeper (σ:Type) (step:σ→List UInt8→Nat × σ) (mb b:Nat) (T:Nat→Prop) where
 Hold:σ→Nat→World→Prop
 Small:Nat→σ→Prop
 Rem:World→Prop
 rem:∀ {s M W},Hold s M W→Rem W
 kept:∀ {s M W W'},Hold s M W→Below W.heap.size W W'→Hold s M W'
 lt:∀ {s M W},Hold s M W→M≤W.heap.size
 up:∀ {s M M' W},Hold s M W→M≤M'→M'≤W.heap.size→Hold s M' W
 more:∀ {k k' s},Small k s→k≤k'→Small k' s
 step_:∀ {k s t},Small k s→Small (k+1) (step s t).2
 take:∀ (s:σ) (M lb o n c k:Nat) (l:List UInt8) (W:World),Hold s M W→M≤lb→Ln W lb b o n c l k→n≤16777216→Small k s→b<M →
  Calls Tryd.prog 29 #[.map (some mb),.pointer (some ⟨lb,0,none⟩)] W fun e W'=>∃ f:Nat,e=.returned (.int .i64 f)∧f=(if skipB (l.drop k)=true then 0 else (step s (l.drop k)).1)∧(f=0→Hold (if skipB (l.drop k)=true then s else (step s (l.drop k)).2) W'.heap.size W')∧But (fun g=>T g∨g=lb) W W'∧LnE W' lb b o n c∧Rem W'
section
variable {σ:Type} {step:σ→List UInt8→Nat × σ} {mb b:Nat} {T:Nat→Prop}
theorem line_take {l:List UInt8} {k:Nat}:(l.take (k+(lineOf (l.drop k)).length)).drop k=lineOf (l.drop k):=by
 rw [List.drop_take,Nat.add_sub_cancel_left]
 exact (List.prefix_iff_eq_take.1 (List.takeWhile_prefix _)).symm
def ReadJ (K:Keeper σ step mb b T) (w:World) (o n c:Nat) (l:List UInt8) (r:Nat × σ) (a':Act) (w':World):Prop :=
 ∃ (k M:Nat) (s:σ) (u2 u3 u6 u7 u8 u9 u10 u11 u12 u13 u14 u15 u16 u17 u18 u19 u20 u21 u22 u23 u24 u25 u26 u27:Value),k≤n+1∧K.Hold s M w'∧K.Small k s∧runT step s (l.drop k)=r∧But T w w'∧b<M∧a'={ tmps:=#[.slice (some ⟨b,o,none⟩) n c,.map (some mb),u2,u3,.int .i64 k,.int .i64 0,u6,u7,u8,u9,u10,u11,u12,u13,u14,u15,u16,u17,u18,u19,u20,u21,u22,u23,u24,u25,u26,u27],defers:=[] }
def ReadM (n:Nat) (a':Act) (_:World):Nat:=n+1 - (intOf (a'.tmps.getD 4 undef)).toNat
theorem read_lines (K:Keeper σ step mb b T) (s:σ) (M o n c:Nat) (l:List UInt8) (w:World) (hr:Row w (some ⟨b,o,none⟩) n l) (hn:n≤16777216) (hc:n≤c) (hm:c≤maxLen) (hh:K.Hold s M w) (hs:K.Small 0 s) (hb:¬ T b) (hbM:b<M) :
  Calls Tryd.prog 16 #[.slice (some ⟨b,o,none⟩) n c,.map (some mb)] w fun e w'=>∃ q:Int,e=.returned (.tuple #[.int .i64 q,.int .i64 ((runT step s l).1)])∧((runT step s l).1=0→q=0∧K.Hold (runT step s l).2 w'.heap.size w')∧But T w w'∧K.Rem w':=by
 have HR:=Lib.hid hr
 have HH:=Lib.hid hh
 have HS:=Lib.hid hs
 obtain ⟨r,hrr⟩:∃ r,runT step s l=r:=⟨_,rfl⟩
 have HRR:=Lib.hid hrr
 have hn2:¬ (16777216:Int)<(n:Int):=by omega
 rw [hrr]
 clear hr hh hs hrr
 go_enter Tryd.func16,Tryd.ntmps16
 go_wp2
 refine wp_scope_back 0 (ReadJ K w o n c l r) (ReadM n) rfl ?_ ?_
 ·rintro a' w' ⟨k,M,s',u2,u3,u6,u7,u8,u9,u10,u11,u12,u13,u14,u15,u16,u17,u18,u19,u20,u21,u22,u23,u24,u25,u26,u27,hk,hh,hs,hrun,hbt,hbM,rfl⟩
  have HH:=Lib.hid hh
  have HS:=Lib.hid hs
  have HRUN:=Lib.hid hrun
  have HBT:=Lib.hid hbt
  clear hh hs hrun hbt
  by_cases hlt:k<n
  ·have hkn:¬ (n:Int)≤(k:Int):=by omega
   have HRW:=Lib.hid (row_oth HR.out HBT.out hb)
   have hcon:=lineAt_any b o n c k l w' HRW.out hlt hc hm
   have HST:=Lib.hid (runT_step step s' (s:=l.drop k) (fun e=>by have:=List.drop_eq_nil_iff.1 e; have:=HR.out.1; omega))
   have hml:=lineOf_le (l.drop k)
   have HLT:=Lib.hid (line_take (l:=l) (k:=k))
   have hln:l.length=n:=HR.out.1
   rw [List.length_drop,hln] at hml
   obtain ⟨m,hm0⟩:∃ m,(lineOf (l.drop k)).length=m:=⟨_,rfl⟩
   rw [hm0] at hcon hml HST HLT
   clear hm0
   go_wp2_with fail
   refine hcon.mono ?_
   rintro e w1 ⟨rfl,hb1⟩
   have HM1:Hid (M≤w1.heap.size):=Nat.le_trans (K.lt HH.out) hb1.size
   have H12:Hid (Below w1.heap.size w1 (w1.alloc (.cells #[.slice (some ⟨b,o,none⟩) (k+m) c,.int .i64 k] 87))):=(Below.refl _ _).alloc (Nat.le_refl _) _
   have HB2:Hid (Below w'.heap.size w' (w1.alloc (.cells #[.slice (some ⟨b,o,none⟩) (k+m) c,.int .i64 k] 87))):=hb1.trans (H12.out.mono hb1.size)
   have HAT:Hid (AtV (w1.alloc (.cells #[.slice (some ⟨b,o,none⟩) (k+m) c,.int .i64 k] 87)) w1.heap.size [.slice (some ⟨b,o,none⟩) (k+m) c,.int .i64 k]):=AtV.new w1 _ _
   go_wp2_with fail
   generalize w1.alloc (.cells #[.slice (some ⟨b,o,none⟩) (k+m) c,.int .i64 k] 87)=w2 at H12 HB2 HAT ⊢
   obtain ⟨lb,hlb⟩:∃ lb,w1.heap.size=lb:=⟨_,rfl⟩
   have HLB:Hid (w'.heap.size≤lb):=by unfold Hid; rw [← hlb]; exact hb1.size
   rw [hlb] at HM1 HAT ⊢
   clear hb1 hlb
   have hMl:=HM1.out
   have HRW2:=Lib.hid (HRW.out.kept HB2.out)
   have HLN:Hid (Ln w2 lb b o (k+m) c (l.take (k+m)) k):=⟨HAT.out,by
    have q:=HRW2.out.piece (A':=some ⟨b,o,none⟩) 0 (k+m) (by omega) (fun _ _ _ e=>e)
    rwa [List.drop_zero] at q,by omega,by omega,by omega,hm⟩
   have hct:=K.take s' M lb o (k+m) c k (l.take (k+m)) w2 (K.kept HH.out HB2.out) hMl HLN.out (by omega) HS.out hbM
   rw [HLT.out] at hct
   obtain ⟨t,ht⟩:∃ t,lineOf (l.drop k)=t:=⟨_,rfl⟩
   rw [ht] at hct HST
   clear ht
   refine hct.mono ?_
   rintro e w3 ⟨f,rfl,hf,hh3,hb3,hl3,hrem⟩
   have HREM:=Lib.hid hrem
   clear hrem
   have HF:=Lib.hid hf
   have HH3:=Lib.hid hh3
   have HB3:Hid (But T w w3):=(HBT.out.trans (But.of_same HB2.out fun _=>False) fun i g=>g.elim).trans hb3 fun i g=>by
    rcases g with g | g
    ·exact .inl g
    ·have:=HLB.out; have:=HBT.out.size; exact .inr (by omega)
   have hz3:=hb3.size
   obtain ⟨q,hl3⟩:=hl3
   have c0:=hl3.at_ 0 _ rfl
   have c1:=hl3.at_ 1 _ rfl
   have HLL:=Lib.hid hl3
   clear hl3 hh3 hb3 hf hct
   by_cases h0:f=0
   ·have hfb:((f:Int) != 0)=false:=by rw [h0]; rfl
    have HH4:=Lib.hid (HH3.out h0)
    have HB4:Hid (b<w3.heap.size):=by have:=HLL.out.lt; have:=HLN.out.hb; show b<_; omega
    have HNX:Hid (∃ s2,K.Hold s2 w3.heap.size w3∧K.Small (k+m+1) s2∧runT step s2 (l.drop (k+m+1))=r):=by
     have hd:(l.drop k).drop (m+1)=l.drop (k+m+1):=by rw [List.drop_drop,Nat.add_assoc]
     have hst:=HST.out
     rw [hd] at hst
     by_cases hsk:skipB t=true
     ·refine ⟨s',?_,K.more HS.out (by omega),?_⟩
      ·have:=HH4.out; rwa [if_pos hsk] at this
      ·rw [if_pos hsk] at hst; rw [← hst]; exact HRUN.out
     ·refine ⟨(step s' t).2,?_,K.more (K.step_ HS.out) (by omega),?_⟩
      ·have:=HH4.out; rwa [if_neg hsk] at this
      ·have hf0:(step s' t).1=0:=by have:=HF.out; rw [if_neg hsk,h0] at this; exact this.symm
       rw [if_neg hsk,if_neg (by rw [hf0]; decide)] at hst
       rw [← hst]; exact HRUN.out
    obtain ⟨s2,hs2,hsm,hru⟩:=HNX.out
    have HS2:=Lib.hid hs2
    have HSM:=Lib.hid hsm
    have HRU:=Lib.hid hru
    clear hs2 hsm hru
    obtain ⟨j,hj⟩:∃ j,k+m+1=j:=⟨_,rfl⟩
    have hwj:IntKind.i64.wrap (((k+m:Nat):Int)+1)=(j:Int):=by rw [IntKind.wrap_i64]; omega
    have hwj2:IntKind.i64.wrap ((k:Int)+(m:Int)+1)=(j:Int):=by rw [IntKind.wrap_i64]; omega
    have hjn:j≤n+1:=by omega
    have hjk:k<j:=by omega
    have HJ:=Lib.hid hj
    have hf0:(f:Int)=0:=by rw [h0]; rfl
    clear h0 hj
    go_wp2
    go_step3
    refine ⟨rfl,⟨j,w3.heap.size,s2,_,_,_,_,_,_,_,_,_,_,_,_,_,_,_,_,_,_,_,_,_,_,_,_,hjn,HS2.out,by rw [← HJ.out]; exact HSM.out,by rw [← HJ.out]; exact HRU.out,HB3.out,HB4.out,rfl⟩,?_⟩
    simp [ReadM,intOf]; omega
   ·have hfb:((f:Int) != 0)=true:=by simp [h0]
    have hr1:r.1=f:=by
     rw [← HRUN.out,HST.out]
     have hf:=HF.out
     by_cases hsk:skipB t=true
     ·rw [if_pos hsk] at hf; exact absurd hf h0
     ·rw [if_neg hsk] at hf ⊢
      rw [if_pos (by rw [← hf]; exact h0)]
      exact hf.symm
    have HR1:=Lib.hid hr1
    have H0:=Lib.hid h0
    clear hr1 h0
    go_wp2
    simp only [Exit.jump]
    go_ret2
    exact ⟨q,by rw [HR1.out]; rfl,(fun h=>absurd (HR1.out.symm.trans h) H0.out),HB3.out,HREM.out⟩
  ·have hkn:(n:Int)≤(k:Int):=by omega
   have hnil:l.drop k=[]:=List.drop_eq_nil_of_le (by rw [HR.out.1]; omega)
   have HRE:Hid (r=(0,s')):=by
    have:=HRUN.out
    rw [hnil,runT_nil] at this
    exact this.symm
   go_wp2
   simp only [Exit.jump]
   go_ret2
   exact ⟨0,by rw [HRE.out]; rfl,(fun _=>⟨rfl,by rw [HRE.out]; exact K.up HH.out (K.lt HH.out) (Nat.le_refl _)⟩),HBT.out,K.rem HH.out⟩
 ·intro HP
  go_wp2
  go_step3
  rename_i hK
  exact hK _ _ (HP.out _ _ ⟨0,M,s,_,_,_,_,_,_,_,_,_,_,_,_,_,_,_,_,_,_,_,_,_,_,_,_,by omega,HH.out,HS.out,by rw [List.drop_zero]; exact HRR.out,But.refl _ _,hbM,rfl⟩)
end
end Go.Proofs.YtgakcdcfblgagaaDoor.Sheet
namespace Go.Proofs.YtgakcdcfblgagaaDoor.Sheet
open Go.RowKit Num Ident Semver Fr
open KR (AtV)

theorem makeR_any (g1 g2:Nat) (l1 l2:Array Value) (w:World):Calls Tryd.prog 40 #[.func (.func g1) #[] l1,.func (.func g2) #[] l2] w fun e w'=>e=.returned (.func (.func 55) #[] #[.pointer (some ⟨w.heap.size,0,none⟩),.pointer (some ⟨w.heap.size+1,0,none⟩)])∧AtV w' w.heap.size [.func (.func g1) #[] l1]∧AtV w' (w.heap.size+1) [.func (.func g2) #[] l2]∧Below w.heap.size w w'∧w'.heap.size=w.heap.size+2:=by
 have H1:Hid (AtV (w.alloc (.cells #[.func (.func g1) #[] l1] 93)) w.heap.size [.func (.func g1) #[] l1]):=AtV.new w _ _
 have H2:Hid (AtV ((w.alloc (.cells #[.func (.func g1) #[] l1] 93)).alloc (.cells #[.func (.func g2) #[] l2] 101)) (w.heap.size+1) [.func (.func g2) #[] l2]):=by
  have:=AtV.new (w.alloc (.cells #[.func (.func g1) #[] l1] 93)) 101 [.func (.func g2) #[] l2]
  rw [size_alloc] at this; exact this
 go_enter Tryd.func40,Tryd.ntmps40
 go_wp2
 go_ret
 exact ⟨rfl,H1.out.kept ((Below.refl _ _).alloc (Nat.le_refl _) _) H1.out.lt,H2.out,((Below.refl _ _).alloc (Nat.le_refl _) _).alloc (by simp) _,by simp⟩
theorem makeP_any (g1 g2:Nat) (l1 l2:Array Value) (w:World):Calls Tryd.prog 38 #[.func (.func g1) #[] l1,.func (.func g2) #[] l2] w fun e w'=>e=.returned (.func (.func 53) #[] #[.pointer (some ⟨w.heap.size,0,none⟩),.pointer (some ⟨w.heap.size+1,0,none⟩)])∧AtV w' w.heap.size [.func (.func g1) #[] l1]∧AtV w' (w.heap.size+1) [.func (.func g2) #[] l2]∧Below w.heap.size w w'∧w'.heap.size=w.heap.size+2:=by
 have H1:Hid (AtV (w.alloc (.cells #[.func (.func g1) #[] l1] 90)) w.heap.size [.func (.func g1) #[] l1]):=AtV.new w _ _
 have H2:Hid (AtV ((w.alloc (.cells #[.func (.func g1) #[] l1] 90)).alloc (.cells #[.func (.func g2) #[] l2] 98)) (w.heap.size+1) [.func (.func g2) #[] l2]):=by
  have:=AtV.new (w.alloc (.cells #[.func (.func g1) #[] l1] 90)) 98 [.func (.func g2) #[] l2]
  rw [size_alloc] at this; exact this
 go_enter Tryd.func38,Tryd.ntmps38
 go_wp2
 go_ret
 exact ⟨rfl,H1.out.kept ((Below.refl _ _).alloc (Nat.le_refl _) _) H1.out.lt,H2.out,((Below.refl _ _).alloc (Nat.le_refl _) _).alloc (by simp) _,by simp⟩
theorem makePub_any (y:Bool) (w:World):Calls Tryd.prog 41 #[.bool y] w fun e w'=>e=.returned (.func (.func 56) #[] #[.pointer (some ⟨w.heap.size,0,none⟩)])∧AtV w' w.heap.size [.bool y]∧Below w.heap.size w w'∧w'.heap.size=w.heap.size+1:=by
 have H1:Hid (AtV (w.alloc (.cells #[.bool y] 4)) w.heap.size [.bool y]):=AtV.new w _ _
 go_enter Tryd.func41,Tryd.ntmps41
 go_wp2
 go_ret
 exact ⟨rfl,H1.out,(Below.refl _ _).alloc (Nat.le_refl _) _,by simp⟩
end Go.Proofs.YtgakcdcfblgagaaDoor.Sheet
namespace Go.Proofs.YtgakcdcfblgagaaDoor.Sheet
open Go.RowKit Num Ident Semver Fr
open KR (AtV)

theorem wpList_insert_own {H:Type} {P:Program} (w:World) {ops:Array Oper} {rest:List Oper} {o:Oper} {a:Act} {Q:Exit→Act→World→Prop}
  (hg:o.guard=none) (m x v:Operand) (t:TypeId) (hop:o.op=Op.insert t m x v)
  (k e:TypeId) (K:Go.Maps.Keyed P k) (ht:P.underlying t=some (.map k e)) (R:Value→Option (DataW H × List MemPlace)) (b n:Nat) (D:DataW H)
  (hm:a.eval m=.map (some b)) (hown:w.ownsMap P k R b n D) (hn:n<maxLen) (key val:Value) (kl:Lit) (hx:a.eval x=key) (hv:a.eval v=val) (hkey:keyOf P k key=some kl)
  (d:DataW H) (ps:List MemPlace) (hval:R val=some (d,ps))
  (hK:∀ w',w'.ownsMap P k R b (n+1) (D.put kl d)→w.grownBy w' (some b)→wpList P ops Q rest (a.put o.dst undef) w') :
  wpList P ops Q (o :: rest) a w:=by
 refine wpList_plain hg fun K' hK'=>?_
 obtain ⟨w',hrun,r1,r2⟩:=hown.update K ht hn hkey hval
 unfold Oper.wp
 simp [execOp,hop,hm,hx,hv,hrun,Result.andThen]
 exact hK' _ _ (hK w' r1 r2)
theorem makeD_any (g1 g2:Nat) (l1 l2:Array Value) (w:World):Calls Tryd.prog 19 #[.func (.func g1) #[] l1,.func (.func g2) #[] l2] w fun e w'=>e=.returned (.func (.func 42) #[] #[.pointer (some ⟨w.heap.size,0,none⟩),.pointer (some ⟨w.heap.size+1,0,none⟩)])∧AtV w' w.heap.size [.func (.func g1) #[] l1]∧AtV w' (w.heap.size+1) [.func (.func g2) #[] l2]∧Below w.heap.size w w'∧w'.heap.size=w.heap.size+2:=by
 have H1:Hid (AtV (w.alloc (.cells #[.func (.func g1) #[] l1] 71)) w.heap.size [.func (.func g1) #[] l1]):=AtV.new w _ _
 have H2:Hid (AtV ((w.alloc (.cells #[.func (.func g1) #[] l1] 71)).alloc (.cells #[.func (.func g2) #[] l2] 54)) (w.heap.size+1) [.func (.func g2) #[] l2]):=by
  have:=AtV.new (w.alloc (.cells #[.func (.func g1) #[] l1] 71)) 54 [.func (.func g2) #[] l2]
  rw [size_alloc] at this; exact this
 go_enter Tryd.func19,Tryd.ntmps19
 go_wp2
 go_ret
 exact ⟨rfl,H1.out.kept ((Below.refl _ _).alloc (Nat.le_refl _) _) H1.out.lt,H2.out,((Below.refl _ _).alloc (Nat.le_refl _) _).alloc (by simp) _,by simp⟩
end Go.Proofs.YtgakcdcfblgagaaDoor.Sheet
namespace Go.Proofs.YtgakcdcfblgagaaDoor.Sheet
open Go.RowKit Num Ident Semver Fr
open KR (AtV)

theorem makeS_any (g1 g2:Nat) (l1 l2:Array Value) (w:World):Calls Tryd.prog 24 #[.func (.func g1) #[] l1,.func (.func g2) #[] l2] w fun e w'=>e=.returned (.func (.func 47) #[] #[.pointer (some ⟨w.heap.size,0,none⟩),.pointer (some ⟨w.heap.size+1,0,none⟩)])∧AtV w' w.heap.size [.func (.func g1) #[] l1]∧AtV w' (w.heap.size+1) [.func (.func g2) #[] l2]∧Below w.heap.size w w'∧w'.heap.size=w.heap.size+2:=by
 have H1:Hid (AtV (w.alloc (.cells #[.func (.func g1) #[] l1] 80)) w.heap.size [.func (.func g1) #[] l1]):=AtV.new w _ _
 have H2:Hid (AtV ((w.alloc (.cells #[.func (.func g1) #[] l1] 80)).alloc (.cells #[.func (.func g2) #[] l2] 61)) (w.heap.size+1) [.func (.func g2) #[] l2]):=by
  have:=AtV.new (w.alloc (.cells #[.func (.func g1) #[] l1] 80)) 61 [.func (.func g2) #[] l2]
  rw [size_alloc] at this; exact this
 go_enter Tryd.func24,Tryd.ntmps24
 go_wp2
 go_ret
 exact ⟨rfl,H1.out.kept ((Below.refl _ _).alloc (Nat.le_refl _) _) H1.out.lt,H2.out,((Below.refl _ _).alloc (Nat.le_refl _) _).alloc (by simp) _,by simp⟩
end Go.Proofs.YtgakcdcfblgagaaDoor.Sheet
namespace Go.Proofs.YtgakcdcfblgagaaDoor.Sheet
open Go.RowKit Num Ident Semver Fr
open KR (KRow AtV)
open Model (PDep PRel PPack MDep MVer MRel MPack MPin DepOk VerOk RelOk PackOk PinOk DRow RRow PRow)

theorem intoD_any (lb b o n c ob tb B m F:Nat) (q:Option (Nat × Nat)) (v:Value) (xs:List MDep) (Is:MDep→Prop) (g1 g2:Nat) (l1 l2:Array Value) (w:World) (hob:AtV w ob [.func (.func g1) #[] l1]) (htb:AtV w tb [.func (.func g2) #[] l2])
  (e1:∀ args w,(callFunc g1 args).run Tryd.prog w=.ok (.enter g1 args) w) (e2:∀ args w,(callFunc g2 args).run Tryd.prog w=.ok (.enter g2 args) w)
  (hown:∀ W,Below w.heap.size w W→Calls Tryd.prog g1 l1 W fun e w'=>e=.returned (.pointer (q.map fun a=>⟨a.1,a.2,none⟩))∧Below W.heap.size W w')
  (htell:q≠none→∀ W,Below w.heap.size w W→Calls Tryd.prog g2 (#[.pointer (some ⟨lb,0,none⟩)] ++ l2) W fun e w'=>∃ x:MDep,e=.returned (.tuple #[x.agg,.int .i64 F])∧(F=0→Is x∧DepOk w' (fun g=>W.heap.size≤g∧g<w'.heap.size) x)∧But (fun g=>g=lb) W w'∧LnE w' lb b o n c)
  (hslot:∀ a,q=some a→Slot MDep.vals 8 53 w B a.1 a.2 v m xs∧a.1<lb∧∀ g,v.ownBlock=some g→g<lb) (hm:m≤100000000) (hln:LnE w lb b o n c) :
  Calls Tryd.prog 42 #[.pointer (some ⟨lb,0,none⟩),.pointer (some ⟨ob,0,none⟩),.pointer (some ⟨tb,0,none⟩)] w fun e w'=>LnE w' lb b o n c∧((q=none∧e=.returned (.int .i64 13)∧But (fun g=>g=lb) w w')∨∃ a,q=some a∧e=.returned (.int .i64 F)∧((F≠0∧But (fun g=>g=lb) w w')∨(F=0∧Kept MDep.vals 8 53 DepOk Is w lb B a.1 a.2 v m xs w'))):=by
 have HO:=Lib.hid hown
 have HT:=Lib.hid htell
 have HSL:=Lib.hid hslot
 have HOB:=Lib.hid hob
 have HTB:=Lib.hid htb
 have HLN:=Lib.hid hln
 have c0:=hob.at_ 0 _ rfl
 have hol:=hob.lt
 clear hown htell hslot hob htb hln
 cases q with
 | none =>
  go_enter Tryd.func42,Tryd.ntmps42
  go_wp2_with (go_at_fn g1; refine (HO.out w (Below.refl _ _)).mono ?_; rintro e w1 ⟨rfl,hb⟩)
  go_ret
  exact ⟨HLN.out.oth (But.of_same hb fun _=>False) fun g=>g,.inl ⟨by trivial,rfl,But.of_same hb _⟩⟩
 | some a =>
  obtain ⟨qb,qo⟩:=a
  obtain ⟨hsl,hq2,hv2⟩:=HSL.out _ rfl
  have HS0:=Lib.hid hsl
  have HV2:=Lib.hid hv2
  have HTL:=Lib.hid (HT.out (by simp))
  have d0:=HTB.out.at_ 0 _ rfl
  have tl:=HTB.out.lt
  clear hsl hv2 HSL HT
  have STEP:Hid (∀ W,Below w.heap.size w W→W.cell? ⟨tb,0,none⟩=some (.func (.func g2) #[] l2)):=fun W hB=>(hB.cell (p:=⟨tb,0,none⟩) tl).trans d0
  by_cases h0:F=0
  ·have hFb:((F:Int) == 0)=true:=by rw [h0]; rfl
   have H0:=Lib.hid h0
   clear h0
   go_enter Tryd.func42,Tryd.ntmps42
   go_upto_region 6 with (first
    | (go_at_fn g1; refine (HO.out w (Below.refl _ _)).mono ?_; rintro e w1 ⟨rfl,hb1⟩; have e0:=STEP.out w1 hb1)
    | (go_at_fn g2; refine (HTL.out w1 hb1).mono ?_; rintro e w2 ⟨x,rfl,hx,hb2,hl2⟩; unfold MDep.agg; have HX:=Lib.hid hx; have HB1:=Lib.hid hb1; have HB2:=Lib.hid hb2; have HL2:=Lib.hid hl2; clear hx hb1 hb2 hl2 e0))
   have HA3:Hid (Below w2.heap.size w2 (w2.alloc (.cells #[.string (Ident.mk x.name),x.x.kind,x.x.v.a,x.x.v.b,x.x.v.c,.slice x.x.A x.x.v.pre.length x.x.c,.slice x.x.B x.x.v.build.length x.x.d,.slice x.x.L x.x.n x.x.e] 53))):=(Below.refl _ _).alloc (Nat.le_refl _) _
   have HD3:Hid (AtV (w2.alloc (.cells #[.string (Ident.mk x.name),x.x.kind,x.x.v.a,x.x.v.b,x.x.v.c,.slice x.x.A x.x.v.pre.length x.x.c,.slice x.x.B x.x.v.build.length x.x.d,.slice x.x.L x.x.n x.x.e] 53)) w2.heap.size [.string (Ident.mk x.name),.int .i64 x.x.kind,.int .u64 x.x.v.a,.int .u64 x.x.v.b,.int .u64 x.x.v.c,.slice x.x.A x.x.v.pre.length x.x.c,.slice x.x.B x.x.v.build.length x.x.d,.slice x.x.L x.x.n x.x.e]):=AtV.new w2 _ _
   obtain ⟨db,hdb⟩:∃ db,w2.heap.size=db:=⟨_,rfl⟩
   have HDB:=Lib.hid hdb
   rw [hdb] at HD3 ⊢
   clear hdb
   generalize w2.alloc (.cells #[.string (Ident.mk x.name),x.x.kind,x.x.v.a,x.x.v.b,x.x.v.c,.slice x.x.A x.x.v.pre.length x.x.c,.slice x.x.B x.x.v.build.length x.x.d,.slice x.x.L x.x.n x.x.e] 53)=w3 at HA3 HD3 ⊢
   have HB3:Hid (But (fun g=>g=lb) w w3):=((But.of_same HB1.out _).trans HB2.out fun i e=>.inl e).trans (But.of_same HA3.out fun _=>False) fun i g=>g.elim
   have HBd:Hid (But (fun g=>g=lb) w w3.drew):=HB3.out.drew
   have HDd:Hid (AtV w3.drew db [.string (Ident.mk x.name),.int .i64 x.x.kind,.int .u64 x.x.v.a,.int .u64 x.x.v.b,.int .u64 x.x.v.c,.slice x.x.A x.x.v.pre.length x.x.c,.slice x.x.B x.x.v.build.length x.x.d,.slice x.x.L x.x.n x.x.e]):=HD3.out.kept (Below.refl _ _).drew HD3.out.lt
   have HLd:Hid (LnE w3.drew lb b o n c):=(HL2.out.oth (But.of_same HA3.out fun _=>False) fun g=>g).oth (But.of_same (Below.refl _ _).drew fun _=>False) fun g=>g
   have HXd:Hid (Is x∧DepOk w3.drew (fun g=>w1.heap.size≤g∧g<w2.heap.size) x):=⟨(HX.out H0.out).1,((HX.out H0.out).2.keep (Range.KeepS.of_below HA3.out)).keep (Range.KeepS.of_below (Below.refl _ _).drew)⟩
   have HZ:Hid (w.heap.size≤w1.heap.size∧w2.heap.size≤w3.drew.heap.size):=⟨HB1.out.size,HA3.out.size⟩
   refine wp_region_held_drew (S:=fun _=>True) (by kernel_rfl) trivial (fun _=>?_)
   generalize w3.drew=wd at HBd HDd HLd HXd HZ ⊢
   have HSd:=Lib.hid (HS0.out.oth HBd.out (Nat.ne_of_lt hq2) fun g e=>Nat.ne_of_lt (HV2.out g e))
   have HA5:Hid (Below wd.heap.size wd (wd.alloc (.cells #[.string (Ident.mk x.name),x.x.kind,x.x.v.a,x.x.v.b,x.x.v.c,.slice x.x.A x.x.v.pre.length x.x.c,.slice x.x.B x.x.v.build.length x.x.d,.slice x.x.L x.x.n x.x.e] 53))):=(Below.refl _ _).alloc (Nat.le_refl _) _
   have HN5:Hid (∀ j u,(MDep.vals x)[j]?=some u→(wd.alloc (.cells #[.string (Ident.mk x.name),x.x.kind,x.x.v.a,x.x.v.b,x.x.v.c,.slice x.x.A x.x.v.pre.length x.x.c,.slice x.x.B x.x.v.build.length x.x.d,.slice x.x.L x.x.n x.x.e] 53)).cell? ((⟨wd.heap.size,0,none⟩:Addr).add j)=some u):=news_new wd (MDep.vals x) _
   have HS5:=Lib.hid (HSd.out.oth (But.of_same HA5.out fun _=>False) (fun g=>g) fun _ _ g=>g)
   obtain ⟨v',wa,hrun,hown,hgr,hat⟩:=run_append_at Tryd.underlying24 Model.depInfo rfl Model.dep_len (by omega) Model.dep_one _ 24 B v m xs HS5.out.own ⟨wd.heap.size,0,none⟩ 1 x HN5.out (by unfold maxLen; omega) (by omega) HS5.out.base
   obtain ⟨A',c',rfl⟩:=slice_of hown
   have cq:=HSd.out.cell
   have fq:=HSd.out.fr
   have hqn:v.ownBlock≠some qb:=fun e=>HSd.out.ne qb e rfl
   have ca:wa.cell? ⟨qb,qo,none⟩=some v:=((But.of_grown (T:=fun k=>v.ownBlock=some k) hgr fun _ e=>e).cell HS5.out.lt hqn).trans HS5.out.cell
   have fa:wa.frozen? ⟨qb,qo,none⟩=false:=((But.of_grown (T:=fun k=>v.ownBlock=some k) hgr fun _ e=>e).frozen HS5.out.lt hqn).trans HS5.out.fr
   have hlo:v.ownBlock≠some lb:=fun e=>by have:=HV2.out lb e; omega
   have HLF:Hid (LnE (wa.setCell ⟨qb,qo,none⟩ (.slice A' (m+1) c')) lb b o n c):=((HLd.out.oth (But.of_same HA5.out fun _=>False) fun g=>g).oth (But.of_grown (T:=fun k=>v.ownBlock=some k) hgr fun _ e=>e) hlo).oth (but_one wa qb qo (.slice A' (m+1) c')) (by omega)
   have HKP:Hid (Kept MDep.vals 8 53 DepOk Is w lb B qb qo v m xs (wa.setCell ⟨qb,qo,none⟩ (.slice A' (m+1) c'))):=⟨x,.slice A' (m+1) c',_,wa,HXd.out.1,DepOk.mono (HXd.out.2.keep (Range.KeepS.of_below HA5.out)) fun g hg _=>⟨Nat.le_trans HZ.out.1 hg.1,Nat.lt_of_lt_of_le hg.2 (Nat.le_trans HZ.out.2 HA5.out.size)⟩,HBd.out.trans (But.of_same HA5.out fun _=>False) (fun i g=>g.elim),hgr,hown,hat,rfl⟩
   clear hown hgr hat
   have d0:=HDd.out.at_ 0 _ rfl
   have g0:=((But.of_same HA5.out fun _=>False).cell HDd.out.lt (fun g=>g)).trans d0
   have d1:=HDd.out.at_ 1 _ rfl
   have g1:=((But.of_same HA5.out fun _=>False).cell HDd.out.lt (fun g=>g)).trans d1
   have d2:=HDd.out.at_ 2 _ rfl
   have g2:=((But.of_same HA5.out fun _=>False).cell HDd.out.lt (fun g=>g)).trans d2
   have d3:=HDd.out.at_ 3 _ rfl
   have g3:=((But.of_same HA5.out fun _=>False).cell HDd.out.lt (fun g=>g)).trans d3
   have d4:=HDd.out.at_ 4 _ rfl
   have g4:=((But.of_same HA5.out fun _=>False).cell HDd.out.lt (fun g=>g)).trans d4
   have d5:=HDd.out.at_ 5 _ rfl
   have g5:=((But.of_same HA5.out fun _=>False).cell HDd.out.lt (fun g=>g)).trans d5
   have d6:=HDd.out.at_ 6 _ rfl
   have g6:=((But.of_same HA5.out fun _=>False).cell HDd.out.lt (fun g=>g)).trans d6
   have d7:=HDd.out.at_ 7 _ rfl
   have g7:=((But.of_same HA5.out fun _=>False).cell HDd.out.lt (fun g=>g)).trans d7
   refine tk 0 rfl (.pointer (some ⟨qb,qo,none⟩)) ?_
   refine tk 1 rfl (.pointer (some ⟨qb,qo,none⟩)) ?_
   refine tk 2 rfl (.pointer (some ⟨qb,qo,none⟩)) ?_
   have cq5:=HS5.out.cell
   refine wpAnyH_ready (rs:=[3,4]) (by kernel_rfl) (by simp) ?_
   refine AllReadyH.cons (nth_ops (i:=3) rfl) (fun K hK=>?_) (AllReadyH.cons (nth_ops (i:=4) rfl) (fun K hK=>?_) AllReadyH.nil)
   ·go_simp
    refine hK.out _ _ trivial (fun _=>?_)
    clear hK K
    try simp only [Act.put,p1,p2,p3]
    refine cl 4 rfl fun K hK=>?_
    go_simp
    refine hK.out _ _ trivial (fun _=>?_)
    clear hK K
    try simp only [Act.put,p1,p2,p3]
    refine cl 5 rfl fun K hK=>?_
    go_simp
    refine hK.out _ _ trivial (fun _=>?_)
    clear hK K
    try simp only [Act.put,p1,p2,p3]
    refine cl 6 rfl fun K hK=>?_
    refine KR.region_append (by rfl) _ _ rfl rfl rfl hrun ?_
    refine hK.out _ _ trivial (fun _=>?_)
    clear hK K
    try simp only [Act.put,p1,p2,p3]
    refine tk 7 rfl (.pointer (some ⟨qb,qo,none⟩)) ?_
    refine cl 8 rfl fun K hK=>?_
    go_simp
    refine hK.out _ _ trivial (fun _=>?_)
    clear hK K
    try simp only [Act.put,p1,p2,p3]
    refine wpAnyH_done (by kernel_rfl) ?_ _
    clear cq fq ca fa hrun
    go_wp2
    go_ret
    exact ⟨HLF.out,.inr ⟨_,rfl,by first | rfl | (rw [H0.out]; rfl),.inr ⟨H0.out,HKP.out⟩⟩⟩
   ·go_simp
    refine hK.out _ _ trivial (fun _=>?_)
    clear hK K
    try simp only [Act.put,p1,p2,p3]
    refine wpAnyH_ready (rs:=[3,5]) (by kernel_rfl) (by simp) ?_
    refine AllReadyH.cons (nth_ops (i:=3) rfl) (fun K hK=>?_) (AllReadyH.cons (nth_ops (i:=5) rfl) (fun K hK=>?_) AllReadyH.nil)
    ·go_simp
     refine hK.out _ _ trivial (fun _=>?_)
     clear hK K
     try simp only [Act.put,p1,p2,p3]
     refine cl 5 rfl fun K hK=>?_
     go_simp
     refine hK.out _ _ trivial (fun _=>?_)
     clear hK K
     try simp only [Act.put,p1,p2,p3]
     refine cl 6 rfl fun K hK=>?_
     refine KR.region_append (by rfl) _ _ rfl rfl rfl hrun ?_
     refine hK.out _ _ trivial (fun _=>?_)
     clear hK K
     try simp only [Act.put,p1,p2,p3]
     refine tk 7 rfl (.pointer (some ⟨qb,qo,none⟩)) ?_
     refine cl 8 rfl fun K hK=>?_
     go_simp
     refine hK.out _ _ trivial (fun _=>?_)
     clear hK K
     try simp only [Act.put,p1,p2,p3]
     refine wpAnyH_done (by kernel_rfl) ?_ _
     clear cq fq ca fa hrun
     go_wp2
     go_ret
     exact ⟨HLF.out,.inr ⟨_,rfl,by first | rfl | (rw [H0.out]; rfl),.inr ⟨H0.out,HKP.out⟩⟩⟩
    ·go_simp
     refine hK.out _ _ trivial (fun _=>?_)
     clear hK K
     try simp only [Act.put,p1,p2,p3]
     refine cl 3 rfl fun K hK=>?_
     go_simp
     refine hK.out _ _ trivial (fun _=>?_)
     clear hK K
     try simp only [Act.put,p1,p2,p3]
     refine cl 6 rfl fun K hK=>?_
     refine KR.region_append (by rfl) _ _ rfl rfl rfl hrun ?_
     refine hK.out _ _ trivial (fun _=>?_)
     clear hK K
     try simp only [Act.put,p1,p2,p3]
     refine tk 7 rfl (.pointer (some ⟨qb,qo,none⟩)) ?_
     refine cl 8 rfl fun K hK=>?_
     go_simp
     refine hK.out _ _ trivial (fun _=>?_)
     clear hK K
     try simp only [Act.put,p1,p2,p3]
     refine wpAnyH_done (by kernel_rfl) ?_ _
     clear cq fq ca fa hrun
     go_wp2
     go_ret
     exact ⟨HLF.out,.inr ⟨_,rfl,by first | rfl | (rw [H0.out]; rfl),.inr ⟨H0.out,HKP.out⟩⟩⟩
  ·have hFb:((F:Int) == 0)=false:=by rw [beq_eq_false_iff_ne]; omega
   have H0:=Lib.hid h0
   clear h0
   go_enter Tryd.func42,Tryd.ntmps42
   go_wp2_with (first
    | (go_at_fn g1; refine (HO.out w (Below.refl _ _)).mono ?_; rintro e w1 ⟨rfl,hb1⟩; have e0:=STEP.out w1 hb1)
    | (go_at_fn g2; refine (HTL.out w1 hb1).mono ?_; rintro e w2 ⟨x,rfl,hx,hb2,hl2⟩; unfold MDep.agg; have HX:=Lib.hid hx; have HB1:=Lib.hid hb1; have HB2:=Lib.hid hb2; have HL2:=Lib.hid hl2; clear hx hb1 hb2 hl2 e0))
   go_ret
   have hB:But (fun g=>g=lb) w w2:=(But.of_same HB1.out _).trans HB2.out fun i e=>.inl e
   exact ⟨HL2.out.oth (But.alloc (But.refl (fun _=>False) w2) _) fun g=>g,.inr ⟨_,rfl,rfl,.inl ⟨H0.out,hB.alloc _⟩⟩⟩
end Go.Proofs.YtgakcdcfblgagaaDoor.Sheet
