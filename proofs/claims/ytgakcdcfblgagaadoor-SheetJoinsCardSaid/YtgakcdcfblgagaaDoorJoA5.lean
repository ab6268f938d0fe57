/-
  What the theorem of the last text needs of these: IdRow, SvRefSmall, RgProg, PrCmp, SpMath. Conditions: as each theorem states.
-/
import Derived.Test.YtgakcdcfblgagaaDoorJoA1
import Derived.Test.YtgakcdcfblgagaaDoorJoA2
import Derived.Test.YtgakcdcfblgagaaDoorJoA3
import Derived.Test.YtgakcdcfblgagaaDoorJoA4
import Derived.Deep.CutBlock
import Derived.Deep.DeepCutAuto
import Derived.Test.YtgakcdcfblgagaaDoorChecked
import Derived.WalkKit
import Derived.ChangeKeysEq
import Derived.Laws.StructEq
import Derived.StillTailTactics
import Derived.Deep.RegionHeld3
set_option maxRecDepth 100000
set_option maxHeartbeats 25600000
namespace Go.Proofs.YtgakcdcfblgagaaDoor.Ident
open Go.RowKit Num

def Fresh (B:Nat) (A:Option Addr) (n:Nat):Prop:=0<n→∃ b o,A=some ⟨b,o,none⟩∧B≤b
theorem Fresh.none_ (B:Nat) (A:Option Addr):Fresh B A 0:=fun h=>absurd h (Nat.lt_irrefl _)
theorem Fresh.mono {B B':Nat} {A:Option Addr} {n:Nat} (h:Fresh B A n) (hB:B'≤B):Fresh B' A n:=fun h0=>by
 obtain ⟨b,o,e,hb⟩:=h h0
 exact ⟨b,o,e,Nat.le_trans hB hb⟩
theorem Fresh.of_own {w:World} {base:Nat} {e:TypeId} {k:Nat} {A:Option Addr} {n c:Nat} {xs:List Value} (h:w.ownsRow base e k (.slice A n c) n xs):Fresh base A n:=fun h0=>by
 rcases h.2 with ⟨_,h1⟩ | ⟨g,cap,cur,hv,hg,_⟩
 ·omega
 ·injection hv with hv _ _
  exact ⟨g,0,hv,hg⟩
def RowPostF (w:World) (r:Res) (e:Ending) (w':World):Prop :=
 ∃ A c,e=.returned (.tuple #[.slice A r.2.2.length c,.int .i64 r.2.1,.int .i64 r.1])∧r.2.2.length≤c∧SRow w' A r.2.2.length r.2.2∧Below w.heap.size w w'∧Fresh w.heap.size A r.2.2.length
theorem RowPostF.bad {w w':World} {f:Nat} (hb:Below w.heap.size w w'):RowPostF w (f,0,[]) (.returned (.tuple #[.slice none 0 0,.int .i64 0,.int .i64 f])) w' :=
 ⟨none,0,rfl,Nat.le_refl _,SRow.none_ _ _,hb,Fresh.none_ _ _⟩

theorem row_out (A:Option Addr) (n c:Nat) (l:List UInt8) (p:Int) (pre:Bool) (w:World) (h:Row w A n l) (ho:p<0∨(n:Int)<p) :
  Calls Tryd.prog 71 #[.slice A n c,.int .i64 p,.bool pre] w (RowPostF w (row l p pre)):=by
 have HE:Hid (row l p pre=(1,0,[])):=by
  unfold Hid row; rw [if_pos (by rw [h.1]; exact ho)]
 rw [HE.out]
 clear h HE
 by_cases h0:p<0
 ·go_enter Tryd.func71,Tryd.ntmps71
  go_wp2
  refine wp_scope_back 0 (fun _ _=>False) (fun _ _=>0) rfl (fun _ _ hF=>hF.elim) ?_
  intro _
  go_wp2
  simp only [Exit.jump]
  go_ret3
  exact RowPostF.bad (f:=1) (Below.refl _ _)
 ·have h1:(n:Int)<p:=by omega
  clear ho
  go_enter Tryd.func71,Tryd.ntmps71
  go_wp2
  refine wp_scope_back 0 (fun _ _=>False) (fun _ _=>0) rfl (fun _ _ hF=>hF.elim) ?_
  intro _
  go_wp2
  simp only [Exit.jump]
  go_ret3
  exact RowPostF.bad (f:=1) (Below.refl _ _)

theorem go_step_bad {pre:Bool} {l s:List UInt8} {acc:List (List UInt8)} {k m:Nat} (hM:lead (l.drop k)=m) (hs:(l.drop k).take m=s) (hf:fault s acc.length pre≠0):go pre (l.drop k) [] acc k=(fault s acc.length pre,0,[]):=by
 subst hM; subst hs; exact go_stop pre _ acc k hf
theorem lead_end (l:List UInt8) (h:lead l<l.length):isId (l.getD (lead l) 0)=false:=by
 induction l with
 | nil=>simp at h
 | cons b r ih =>
  by_cases hb:isId b=true
  ·rw [lead,if_pos hb] at h ⊢
   simpa using ih (by simpa using h)
  ·rw [lead,if_neg hb]; simpa using hb
theorem go_step_point {pre:Bool} {l s:List UInt8} {acc:List (List UInt8)} {k m:Nat} (hM:lead (l.drop k)=m) (hs:(l.drop k).take m=s) (hf:fault s acc.length pre=0) (hlt:k+m<l.length) (hx:byteAt l (k+m)=46) :
  go pre (l.drop k) [] acc k=go pre (l.drop (k+m+1)) [] (acc ++ [s]) (k+m+1):=by
 rw [go_lead,hM,hs,List.nil_append,List.drop_drop,drop_getD l (k+m) hlt]
 exact go_point (by unfold byteAt at hx; omega) hf
theorem go_step_end {pre:Bool} {l s:List UInt8} {acc:List (List UInt8)} {k m:Nat} (hM:lead (l.drop k)=m) (hs:(l.drop k).take m=s) (hf:fault s acc.length pre=0) (h:l.length≤k+m∨byteAt l (k+m)≠46) :
  go pre (l.drop k) [] acc k=(0,k+m,acc ++ [s]):=by
 have e:shut pre s acc (k+m)=(0,k+m,acc ++ [s]):=by unfold shut; rw [if_pos hf]
 rw [go_lead,hM,hs,List.nil_append,List.drop_drop]
 rcases Nat.lt_or_ge (k+m) l.length with hlt | hge
 ·rw [drop_getD l (k+m) hlt,go_else ?_ ?_,e]
  ·have h1:=lead_end (l.drop k) (by rw [hM,List.length_drop]; omega)
   rw [hM] at h1
   simpa [List.getD] using h1
  ·rcases h with h | h
   ·omega
   ·unfold byteAt at h; omega
 ·rw [List.drop_eq_nil_of_le hge,go,e]
theorem RowPostF.good {w w':World} {n:Nat} {xs:List (List UInt8)} (hb:Below w.heap.size w w') {A:Option Addr} {c:Nat} (hc:xs.length≤c) (hr:SRow w' A xs.length xs) (hf:Fresh w.heap.size A xs.length) :
  RowPostF w (0,n,xs) (.returned (.tuple #[.slice A xs.length c,.int .i64 n,.int .i64 0])) w' :=
 ⟨A,c,rfl,hc,hr,hb,hf⟩

def RowJ (w:World) (A:Option Addr) (n c p:Nat) (pre:Bool) (R:Option Addr) (N C:Nat) (l:List UInt8) (a':Act) (w':World):Prop :=
 ∃ (acc:List (List UInt8)) (k:Nat) (v:Value) (u10 u11 u12 u13 u14 u15 u16 u17 u18 u19 u20 u21 u22 u23 u24 u25 u26 u27 u28 u29 u30 u31 u32 u33 u34 u35 u36 u37 u38 u39 u40 u41 u42 u43 u44 u45 u46 u47 u48 u49 u50 u51 u52 u53 u54 u55 u56 u57 u58 u59 u60 u61 u62:Value),Below w.heap.size w w'∧w'.ownsRow w.heap.size 9 1 v acc.length (strs acc)∧acc.length≤16∧k≤N∧go pre (l.drop k) [] acc k=go pre l [] [] 0 ∧
  a'={ tmps:=#[.slice A n c,.int .i64 p,.bool pre,undef,undef,undef,v,.int .i64 k,.int .i64 0,.slice R N C,u10,u11,u12,u13,u14,u15,u16,u17,u18,u19,u20,u21,u22,u23,u24,u25,u26,u27,u28,u29,u30,u31,u32,u33,u34,u35,u36,u37,u38,u39,u40,u41,u42,u43,u44,u45,u46,u47,u48,u49,u50,u51,u52,u53,u54,u55,u56,u57,u58,u59,u60,u61,u62],defers:=[] }
def RowM (N:Nat) (a':Act) (_:World):Nat:=N - (intOf (a'.tmps.getD 7 undef)).toNat

theorem row_in (A:Option Addr) (n c:Nat) (l0:List UInt8) (p:Nat) (pre:Bool) (w:World) (h:Row w A n l0) (hc:n≤c) (hp:p≤n) :
  Calls Tryd.prog 71 #[.slice A n c,.int .i64 p,.bool pre] w (RowPostF w (row l0 p pre)):=by
 have hm:=h.2.1
 unfold maxLen at hm
 have hp0:¬ (p:Int)<0:=by omega
 have hp1:¬ n<p:=by omega
 obtain ⟨R,hR⟩:∃ R,(if c=p then A else A.map (fun x=>x.add p))=R:=⟨_,rfl⟩
 obtain ⟨l,hl⟩:∃ l,l0.drop p=l:=⟨_,rfl⟩
 have HE:Hid (row l0 p pre=go pre l [] [] 0):=by
  unfold Hid row; rw [if_neg (by rw [h.1]; omega),Int.toNat_natCast,hl]
 have R1:Row w R (n - p) l:=hl ▸ Row.from_ h p c hp hc hR
 rw [HE.out]
 clear h HE hl
 obtain ⟨N,hN⟩:∃ N,n - p=N:=⟨_,rfl⟩
 obtain ⟨C,hC⟩:∃ C,c - p=C:=⟨_,rfl⟩
 have hNC:N≤C:=by omega
 have hNm:N≤9223372036854775807:=by omega
 rw [hN] at R1
 have HR1:=Lib.hid R1
 have HLen:=Lib.hid R1.1
 clear R1
 go_enter Tryd.func71,Tryd.ntmps71
 go_wp2
 refine wp_scope_back 0 (RowJ w A n c p pre R N C l) (RowM N) rfl ?_ ?_
 ·rintro a' w1 ⟨acc,k,v,u10,u11,u12,u13,u14,u15,u16,u17,u18,u19,u20,u21,u22,u23,u24,u25,u26,u27,u28,u29,u30,u31,u32,u33,u34,u35,u36,u37,u38,u39,u40,u41,u42,u43,u44,u45,u46,u47,u48,u49,u50,u51,u52,u53,u54,u55,u56,u57,u58,u59,u60,u61,u62,hb1,hown,hacc,hk,hgo,rfl⟩
  have HRW:=Lib.hid (HR1.out.kept hb1)
  obtain ⟨VA,VC,rfl,hvc,_⟩:=SRow.of_own hown
  clear hR hN hC
  obtain ⟨m,hM⟩:∃ m,lead (l.drop k)=m:=⟨_,rfl⟩
  have hkm:k+m≤N:=by have:=lead_le (l.drop k); rw [hM,List.length_drop,HLen.out] at this; omega
  obtain ⟨S,hS⟩:∃ S,(if C=k then R else R.map (fun x=>x.add k))=S:=⟨_,rfl⟩
  have RA:=Row.from_ HRW.out k C hk hNC hS
  have RB:=Row.part_ HRW.out k m C hkm hNC hS
  obtain ⟨s,hs⟩:∃ s,(l.drop k).take m=s:=⟨_,rfl⟩
  rw [hs] at RB
  have hsl:=RB.1
  have htx:=run_text RB (C - k)
  have HA:=Lib.hid RA
  have HM:=Lib.hid hM
  have HSl:=Lib.hid hsl
  have HSS:=Lib.hid hs
  have HB1:=Lib.hid hb1
  have HO:=Lib.hid hown
  have HG:=Lib.hid hgo
  clear RA RB hM hsl hs hb1 hown hgo
  have hz1:=HB1.out.size
  go_wp2_with fail
  refine (length_any _ _ _ _ _ HA.out).mono ?_
  rintro e w' ⟨rfl,rfl⟩
  rw [HM.out]
  go_wp2_with fail
  refine (fault_any (mk s) acc.length pre _ (by rw [mk_size,HSl.out]; unfold maxLen; omega) (by unfold maxLen; omega)).mono ?_
  rintro e w2 ⟨rfl,hb2⟩
  rw [mk_list]
  have HBD:=Lib.hid (go_step_bad (pre:=pre) (acc:=acc) HM.out HSS.out)
  have HPT:=Lib.hid (fun hf=>go_step_point (pre:=pre) (acc:=acc) HM.out HSS.out hf)
  have HEN:=Lib.hid (fun hf=>go_step_end (pre:=pre) (acc:=acc) HM.out HSS.out hf)
  have HPL0:Hid (fault s acc.length pre=0→acc.length+1≤16):=fun h=>(fault_pos h).2.2
  obtain ⟨f,hf⟩:∃ f,fault s acc.length pre=f:=⟨_,rfl⟩
  rw [hf] at HBD HPT HEN HPL0 ⊢
  clear hf
  by_cases hf0:f=0
  ·subst hf0
   have HPL:=Lib.hid (HPL0.out rfl)
   have HPT2:=Lib.hid (HPT.out rfl)
   have HEN2:=Lib.hid (HEN.out rfl)
   clear HBD HPT HEN
   have hz2:=hb2.size
   have HO2:Hid ((w2.alloc (.cells #[.string (mk s)] 9)).ownsRow w.heap.size 9 1 (.slice VA acc.length VC) acc.length (strs acc)):=(own_below HO.out hb2).alloc _
   have HB2:=Lib.hid ((HB1.out.trans (hb2.mono hz1)).alloc (Nat.le_trans hz1 hz2) (.cells #[.string (mk s)] 9))
   have hms:(mk s).size=m:=HSl.out
   have hacc2:acc.length+1≤16:=HPL.out
   clear hS htx
   by_cases hlt:k+m<N
   ·obtain ⟨b,o,rfl,hb,hcell⟩:=HR1.out.2.2 (by omega)
    have HX:=Lib.hid (hcell (k+m) hlt)
    have hbd:=byteAt_bd l (k+m)
    clear hcell
    have HPT3:=Lib.hid (fun h=>HPT2.out (by rw [HLen.out]; exact hlt) h)
    have HEN3:=Lib.hid (fun h=>HEN2.out (.inr h))
    clear HPT2 HEN2 HRW
    generalize byteAt l (k+m)=x at HX hbd HPT3 HEN3
    by_cases h46:x=46
    ·subst h46
     have HPT4:=Lib.hid (HPT3.out rfl)
     clear HPT3 HEN3
     go_wp2_with (first
      | (at_builtin; refine wpList_append_strs _ rfl _ _ rfl w.heap.size _ acc.length acc rfl HO2.out (some ⟨w2.heap.size,0,none⟩) 1 1 [s] rfl (SRow.one w2 s) (fun h=>by cases h) (by omega) (by simp; omega) ?_; intro v3 w3 ho3 hb3; obtain ⟨VA3,VC3,rfl,hvc3,hr3⟩:=SRow.of_own ho3; have HB3:=Lib.hid (HB2.out.trans hb3); have HO3:=Lib.hid ho3; have HR3:=Lib.hid hr3; clear ho3 hb3 hr3; have hx:=(HB3.out.cell (p:=⟨b,o+(k+m),none⟩) hb).trans HX.out)
      | fail)
     go_step3
     rw [show ((k:Int)+(m:Int)+1)=((k+m+1:Nat):Int) from rfl]
     refine ⟨rfl,⟨acc ++ [s],k+m+1,.slice VA3 (acc.length+1) VC3,_,_,_,_,_,_,_,_,_,_,_,_,_,_,_,_,_,_,_,_,_,_,_,_,_,_,_,_,_,_,_,_,_,_,_,_,_,_,_,_,_,_,_,_,_,_,_,_,_,_,_,_,_,HB3.out,?_,?_,by omega,?_,rfl⟩,?_⟩
     ·rw [List.length_append]; exact HO3.out
     ·rw [List.length_append]; exact hacc2
     ·rw [← HPT4.out]; exact HG.out
     ·simp [RowM,intOf]; omega
    ·have HEN4:=Lib.hid (HEN3.out h46)
     have hb46:(x == 46)=false:=by simp [h46]
     clear HPT3 HEN3 h46
     go_wp2_with (first
      | (at_builtin; refine wpList_append_strs _ rfl _ _ rfl w.heap.size _ acc.length acc rfl HO2.out (some ⟨w2.heap.size,0,none⟩) 1 1 [s] rfl (SRow.one w2 s) (fun h=>by cases h) (by omega) (by simp; omega) ?_; intro v3 w3 ho3 hb3; obtain ⟨VA3,VC3,rfl,hvc3,hr3⟩:=SRow.of_own ho3; have HB3:=Lib.hid (HB2.out.trans hb3); have HO3:=Lib.hid ho3; have HR3:=Lib.hid hr3; clear ho3 hb3 hr3; have hx:=(HB3.out.cell (p:=⟨b,o+(k+m),none⟩) hb).trans HX.out)
      | fail)
     simp only [Exit.jump]
     go_ret3
     rw [← HG.out,HEN4.out]
     have e1:(acc ++ [s]).length=acc.length+1:=by simp
     have:=RowPostF.good (n:=k+m) HB3.out (A:=VA3) (c:=VC3) (xs:=acc ++ [s]) (by rw [e1]; exact hvc3) (by rw [e1]; exact HR3.out) (by rw [e1]; exact Fresh.of_own HO3.out)
     rw [e1] at this
     exact this
   ·have HEN4:=Lib.hid (HEN2.out (.inl (by rw [HLen.out]; omega)))
    clear HPT2 HEN2 HRW
    go_wp2_with (first
     | (at_builtin; refine wpList_append_strs _ rfl _ _ rfl w.heap.size _ acc.length acc rfl HO2.out (some ⟨w2.heap.size,0,none⟩) 1 1 [s] rfl (SRow.one w2 s) (fun h=>by cases h) (by omega) (by simp; omega) ?_; intro v3 w3 ho3 hb3; obtain ⟨VA3,VC3,rfl,hvc3,hr3⟩:=SRow.of_own ho3; have HB3:=Lib.hid (HB2.out.trans hb3); have HO3:=Lib.hid ho3; have HR3:=Lib.hid hr3; clear ho3 hb3 hr3)
     | fail)
    simp only [Exit.jump]
    go_ret3
    rw [← HG.out,HEN4.out]
    have e1:(acc ++ [s]).length=acc.length+1:=by simp
    have:=RowPostF.good (n:=k+m) HB3.out (A:=VA3) (c:=VC3) (xs:=acc ++ [s]) (by rw [e1]; exact hvc3) (by rw [e1]; exact HR3.out) (by rw [e1]; exact Fresh.of_own HO3.out)
    rw [e1] at this
    exact this
  ·have HBD2:=Lib.hid (HBD.out hf0)
   have HB2:=Lib.hid (HB1.out.trans (hb2.mono hz1))
   go_wp2
   simp only [Exit.jump]
   go_ret3
   rw [← HG.out,HBD2.out]
   exact RowPostF.bad HB2.out
 ·intro HP
  go_wp2
  go_step3
  rename_i hK
  exact hK _ _ (HP.out _ _ ⟨[],0,.slice none 0 0,_,_,_,_,_,_,_,_,_,_,_,_,_,_,_,_,_,_,_,_,_,_,_,_,_,_,_,_,_,_,_,_,_,_,_,_,_,_,_,_,_,_,_,_,_,_,_,_,_,_,_,_,_,Below.refl _ _,World.ownsRow_nil _ _ _ _,by simp,by omega,rfl,rfl⟩)

theorem row_anyF (A:Option Addr) (n c:Nat) (l:List UInt8) (p:Int) (pre:Bool) (w:World) (h:Row w A n l) (hc:n≤c) :
  Calls Tryd.prog 71 #[.slice A n c,.int .i64 p,.bool pre] w (RowPostF w (row l p pre)):=by
 by_cases ho:p<0∨(n:Int)<p
 ·exact row_out A n c l p pre w h ho
 ·obtain ⟨k,rfl⟩:=Int.eq_ofNat_of_zero_le (show 0≤p by omega)
  exact row_in A n c l k pre w h hc (by omega)
end Go.Proofs.YtgakcdcfblgagaaDoor.Ident
namespace Go.Proofs.YtgakcdcfblgagaaDoor.Semver
open Go.RowKit Num Ident

theorem refSame_any (u v:Ver) (A1 A2 B1 B2:Option Addr) (c1 c2 d1 d2:Nat) (w:World) (r1:SRow w A1 u.pre.length u.pre) (r2:SRow w A2 u.build.length u.build) (q1:SRow w B1 v.pre.length v.pre) (q2:SRow w B2 v.build.length v.build)
  (hn1:u.pre.length≤maxLen) (hn2:u.build.length≤maxLen) (hn3:v.pre.length≤maxLen) (hn4:v.build.length≤maxLen) :
  Calls Tryd.prog 15 #[.agg #[u.a,u.b,u.c,.slice A1 u.pre.length c1,.slice A2 u.build.length c2],.agg #[v.a,v.b,v.c,.slice B1 v.pre.length d1,.slice B2 v.build.length d2]] w fun e w'=>e=.returned (.bool (sameV u v))∧Below w.heap.size w w':=by
 have HBa:Hid (Below w.heap.size w ((w.alloc (.cells #[u.a,u.b,u.c,.slice A1 u.pre.length c1,.slice A2 u.build.length c2] 45)).alloc (.cells #[v.a,v.b,v.c,.slice B1 v.pre.length d1,.slice B2 v.build.length d2] 45))):=((Below.refl _ _).alloc (Nat.le_refl _) _).alloc (by simp) _
 have R1:=Lib.hid (r1.kept HBa.out)
 have R2:=Lib.hid (r2.kept HBa.out)
 have Q1:=Lib.hid (q1.kept HBa.out)
 have Q2:=Lib.hid (q2.kept HBa.out)
 have N1:=Lib.hid hn1
 have N2:=Lib.hid hn2
 have N3:=Lib.hid hn3
 have N4:=Lib.hid hn4
 have K1:Hid (At5 ((w.alloc (.cells #[u.a,u.b,u.c,.slice A1 u.pre.length c1,.slice A2 u.build.length c2] 45)).alloc (.cells #[v.a,v.b,v.c,.slice B1 v.pre.length d1,.slice B2 v.build.length d2] 45)) w.heap.size u.a u.b u.c (.slice A1 u.pre.length c1) (.slice A2 u.build.length c2)):=(At5.new w 45 _ _ _ _ _).kept ((Below.refl _ _).alloc (Nat.le_refl _) _) (by simp)
 have K2:Hid (At5 ((w.alloc (.cells #[u.a,u.b,u.c,.slice A1 u.pre.length c1,.slice A2 u.build.length c2] 45)).alloc (.cells #[v.a,v.b,v.c,.slice B1 v.pre.length d1,.slice B2 v.build.length d2] 45)) (w.heap.size+1) v.a v.b v.c (.slice B1 v.pre.length d1) (.slice B2 v.build.length d2)):=by
  have:=At5.new (w.alloc (.cells #[u.a,u.b,u.c,.slice A1 u.pre.length c1,.slice A2 u.build.length c2] 45)) 45 v.a v.b v.c (.slice B1 v.pre.length d1) (.slice B2 v.build.length d2)
  rw [size_alloc] at this; exact this
 clear r1 r2 q1 q2 hn1 hn2 hn3 hn4
 by_cases h1:u.a=v.a
 ·have e1:((u.a:Int) == (v.a:Int))=true:=by simp [h1]
  by_cases h2:u.b=v.b
  ·have e2:((u.b:Int) == (v.b:Int))=true:=by simp [h2]
   by_cases h3:u.c=v.c
   ·have e3:((u.c:Int) == (v.c:Int))=true:=by simp [h3]
    have HF:Hid (sameV u v=(sameB u.pre v.pre && sameB u.build v.build)):=by unfold Hid sameV; rw [decide_eq_true ⟨h1,h2,h3⟩]; rfl
    clear h1 h2 h3
    go_enter Tryd.func15,Tryd.ntmps15
    go_upto_region 1 with (fail)
    generalize ((w.alloc (.cells #[u.a,u.b,u.c,.slice A1 u.pre.length c1,.slice A2 u.build.length c2] 45)).alloc (.cells #[v.a,v.b,v.c,.slice B1 v.pre.length d1,.slice B2 v.build.length d2] 45))=W at HBa R1 R2 Q1 Q2 K1 K2 ⊢
    have hz:=K2.out.1
    have hzw:=HBa.out.size
    obtain ⟨_,_,x0,x1,x2,x3,x4⟩:=K1.out
    obtain ⟨_,_,y0,y1,y2,y3,y4⟩:=K2.out
    go_wp2_with fail
    refine (same_any _ _ _ u.pre _ _ _ v.pre _ R1.out Q1.out N1.out N3.out).mono ?_
    rintro e w1 ⟨rfl,hb1⟩
    have L1:=Lib.hid (K1.out.kept hb1 (by omega))
    have L2:=Lib.hid (K2.out.kept hb1 (by omega))
    have R2':=Lib.hid (R2.out.kept hb1)
    have Q2':=Lib.hid (Q2.out.kept hb1)
    have HB1:=Lib.hid (HBa.out.trans (hb1.mono hzw))
    have hz1:=HB1.out.size
    clear hb1 x0 x1 x2 x3 x4 y0 y1 y2 y3 y4
    obtain ⟨_,_,x0,x1,x2,x3,x4⟩:=L1.out
    obtain ⟨_,_,y0,y1,y2,y3,y4⟩:=L2.out
    generalize sameB u.pre v.pre=g1 at HF ⊢
    cases g1
    ·go_wp2
     go_ret
     exact ⟨by rw [HF.out]; rfl,HB1.out⟩
    go_wp2_with fail
    refine (same_any _ _ _ u.build _ _ _ v.build _ R2'.out Q2'.out N2.out N4.out).mono ?_
    rintro e w2 ⟨rfl,hb2⟩
    have HB2:=Lib.hid (HB1.out.trans (hb2.mono hz1))
    clear hb2 x0 x1 x2 x3 x4 y0 y1 y2 y3 y4
    go_wp2
    go_ret
    exact ⟨by rw [HF.out]; simp,HB2.out⟩
   ·have e3:((u.c:Int) == (v.c:Int))=false:=by simp; omega
    have HF:=Lib.hid (sameV_no (u:=u) (v:=v) fun h=>h3 h.2.2)
    clear h1 h2 h3
    go_enter Tryd.func15,Tryd.ntmps15
    go_wp2
    go_ret
    exact ⟨by rw [HF.out]; rfl,HBa.out⟩
  ·have e2:((u.b:Int) == (v.b:Int))=false:=by simp; omega
   have HF:=Lib.hid (sameV_no (u:=u) (v:=v) fun h=>h2 h.2.1)
   clear h1 h2
   go_enter Tryd.func15,Tryd.ntmps15
   go_wp2
   go_ret
   exact ⟨by rw [HF.out]; rfl,HBa.out⟩
 ·have e1:((u.a:Int) == (v.a:Int))=false:=by simp; omega
  have HF:=Lib.hid (sameV_no (u:=u) (v:=v) fun h=>h1 h.1)
  clear h1
  go_enter Tryd.func15,Tryd.ntmps15
  go_wp2
  go_ret
  exact ⟨by rw [HF.out]; rfl,HBa.out⟩
end Go.Proofs.YtgakcdcfblgagaaDoor.Semver
namespace Go.Proofs.YtgakcdcfblgagaaDoor.Range
open Num Ident Semver

theorem stands_nil (s:List UInt8):stands [] s=true:=by cases s <;> rfl
theorem stands_split {t s:List UInt8} (h:stands t s=true):s=t ++ s.drop t.length:=by
 unfold stands at h
 obtain ⟨u,rfl⟩:=List.isPrefixOf_iff_prefix.1 h
 simp
theorem stands_len {t s:List UInt8} (h:stands t s=true):t.length≤s.length:=by
 rw [stands_split h]; simp
theorem blanks_drop (s:List UInt8):∃ k,k≤s.length∧blanks s=s.drop k:=by
 induction s with
 | nil=>exact ⟨0,by simp,rfl⟩
 | cons b s ih =>
  rw [blanks]
  split
  ·obtain ⟨k,h1,h2⟩:=ih
   exact ⟨k+1,by simpa using h1,by rw [h2]; rfl⟩
  ·exact ⟨0,by simp,rfl⟩
theorem blanks_len (s:List UInt8):(blanks s).length≤s.length:=by
 obtain ⟨k,_,h⟩:=blanks_drop s
 rw [h,List.length_drop]; omega
theorem blanks_yes {b:UInt8} (s:List UInt8) (h:blankB b=true):blanks (b :: s)=blanks s:=by rw [blanks,if_pos h]
theorem blanks_no {b:UInt8} (s:List UInt8) (h:blankB b=false):blanks (b :: s)=b :: s:=by rw [blanks,h]; simp
theorem lackN_ne (s:List UInt8):lackN s≠0:=by unfold lackN; split <;> decide
def Piece (s' s:List UInt8):Prop:=∃ k,s'=s.drop k
theorem Piece.refl (s:List UInt8):Piece s s:=⟨0,rfl⟩
theorem Piece.trans {a b c:List UInt8} (h:Piece a b) (k:Piece b c):Piece a c:=by
 obtain ⟨i,rfl⟩:=h
 obtain ⟨j,rfl⟩:=k
 exact ⟨j+i,by rw [List.drop_drop]⟩
theorem Piece.drop (s:List UInt8) (k:Nat):Piece (s.drop k) s:=⟨k,rfl⟩
theorem Piece.blanks (s:List UInt8):Piece (blanks s) s:=by
 obtain ⟨k,_,h⟩:=blanks_drop s
 exact ⟨k,h⟩
theorem Piece.len {a b:List UInt8} (h:Piece a b):a.length≤b.length:=by
 obtain ⟨k,rfl⟩:=h; rw [List.length_drop]; omega
def Prog (pf:List UInt8→Out):Prop:=∀ s,(pf s).1=0→(pf s).2.1.length<s.length
def Falls (ff:List UInt8→Option (List UInt8)):Prop:=∀ s s',ff s=some s'→s'.length≤s.length
def Pieces (pf:List UInt8→Out):Prop:=∀ s,Piece (pf s).2.1 s
def PiecesF (ff:List UInt8→Option (List UInt8)):Prop:=∀ s s',ff s=some s'→Piece s' s
theorem furE_piece:PiecesF furE:=by
 intro s s' h
 unfold furE at h
 split at h
 ·injection h with h; rw [← h]; exact (Piece.blanks _).trans (Piece.drop _ _)
 ·cases h
theorem furO_piece:PiecesF furO:=by
 intro s s' h
 unfold furO at h
 split at h
 ·injection h with h; rw [← h]; exact (Piece.blanks _).trans (Piece.drop _ _)
 ·split at h
  ·injection h with h; rw [← h]; exact Piece.refl _
  ·cases h
theorem PiecesF.falls {ff:List UInt8→Option (List UInt8)} (h:PiecesF ff):Falls ff:=fun s s' e=>(h s s' e).len
theorem sev_bad {pf:List UInt8→Out} {ff:List UInt8→Option (List UInt8)} {kind:Int} {n:Nat} {acc:List Rng} {s:List UInt8} (h:(pf s).1≠0):sev pf ff kind (n+1) acc s=((pf s).1,(pf s).2.1,noRng):=by rw [sev,if_pos h]
theorem sev_on {pf:List UInt8→Out} {ff:List UInt8→Option (List UInt8)} {kind:Int} {n:Nat} {acc:List Rng} {s s':List UInt8} (h:(pf s).1=0) (hf:ff (pf s).2.1=some s'):sev pf ff kind (n+1) acc s=sev pf ff kind n (acc ++ [(pf s).2.2]) s':=by
 rw [sev,if_neg (by simp [h]),hf]
theorem sev_end {pf:List UInt8→Out} {ff:List UInt8→Option (List UInt8)} {kind:Int} {n:Nat} {acc:List Rng} {s:List UInt8} (h:(pf s).1=0) (hf:ff (pf s).2.1=none):sev pf ff kind (n+1) acc s=(0,(pf s).2.1,whole kind acc (pf s).2.2):=by
 rw [sev,if_neg (by simp [h]),hf]
theorem sev_prog {pf:List UInt8→Out} {ff:List UInt8→Option (List UInt8)} {kind:Int} (hp:Prog pf) (hf:Falls ff):∀ (n:Nat) (acc:List Rng) (s:List UInt8),(sev pf ff kind n acc s).1=0→(sev pf ff kind n acc s).2.1.length<s.length
 | 0,_,_,h=>by rw [sev] at h; exact absurd h (by simp)
 | n+1,acc,s,h=>by
  by_cases h0:(pf s).1=0
  ·have h1:=hp s h0
   cases h2:ff (pf s).2.1 with
   | some s' =>
    rw [sev_on h0 h2] at h ⊢
    have:=sev_prog hp hf n _ s' h
    have:=hf _ _ h2
    omega
   | none=>rw [sev_end h0 h2]; exact h1
  ·rw [sev_bad h0] at h; exact absurd h h0
theorem sev_piece {pf:List UInt8→Out} {ff:List UInt8→Option (List UInt8)} {kind:Int} (hp:Pieces pf) (hf:PiecesF ff):∀ (n:Nat) (acc:List Rng) (s:List UInt8),Piece (sev pf ff kind n acc s).2.1 s
 | 0,_,_=>Piece.refl _
 | n+1,acc,s=>by
  by_cases h0:(pf s).1=0
  ·cases h2:ff (pf s).2.1 with
   | some s'=>rw [sev_on h0 h2]; exact ((sev_piece hp hf n _ s').trans (hf _ _ h2)).trans (hp s)
   | none=>rw [sev_end h0 h2]; exact hp s
  ·rw [sev_bad h0]; exact hp s
theorem everyF_prog {pf:List UInt8→Out} (h:Prog pf):Prog (everyF pf):=fun s=>sev_prog h furO_piece.falls _ _ s
theorem exprF_prog {pf:List UInt8→Out} (h:Prog pf):Prog (exprF pf):=fun s=>sev_prog (everyF_prog h) furE_piece.falls _ _ s
theorem everyF_piece {pf:List UInt8→Out} (h:Pieces pf):Pieces (everyF pf):=fun s=>sev_piece h furO_piece _ _ s
theorem exprF_piece {pf:List UInt8→Out} (h:Pieces pf):Pieces (exprF pf):=fun s=>sev_piece (everyF_piece h) furE_piece _ _ s
theorem ver_piece (kind:Int):Pieces (verAt kind):=by
 intro s
 unfold verAt
 split
 ·split
  ·exact Piece.drop _ _
  ·exact (Piece.blanks _).trans (Piece.drop _ _)
 ·exact Piece.refl _
theorem shutF_piece {t:Out} {s:List UInt8} (h:Piece t.2.1 s):Piece (shutF t).2.1 s:=by
 unfold shutF
 split
 ·exact h
 ·split
  ·exact ((Piece.blanks _).trans (Piece.drop _ _)).trans h
  ·exact h
theorem notF_piece {t:Out} {s:List UInt8} (h:Piece t.2.1 s):Piece (notF t).2.1 s:=by
 unfold notF; split <;> exact h
theorem oneF_piece {sub:Option (List UInt8→Out)} (h:∀ f,sub=some f→Pieces f):Pieces (oneF sub):=by
 intro s
 have hd:∀ k,Piece (blanks (s.drop k)) s:=fun k=>(Piece.blanks _).trans (Piece.drop _ _)
 unfold oneF
 split
 ·exact hd 1
 ·split
  ·cases sub with
   | none=>exact Piece.refl _
   | some f=>exact shutF_piece ((exprF_piece (h f rfl) _).trans (hd 1))
  ·split
   ·cases sub with
    | none=>exact Piece.refl _
    | some f=>exact notF_piece ((h f rfl _).trans (hd 1))
   ·exact (ver_piece _ _).trans (hd _)
theorem pone_piece:∀ k,Pieces (pone k)
 | 0=>oneF_piece fun f h=>by cases h
 | k+1=>oneF_piece fun f h=>by injection h with h; rw [← h]; exact pone_piece k
theorem oneOf_cons {some s:List UInt8} (h:oneOf some s=true):∃ b r,s=b :: r∧b ∈ some:=by
 cases s with
 | nil=>cases h
 | cons b r=>exact ⟨b,r,rfl,of_decide_eq_true h⟩
theorem core2_ge {l:List UInt8} {x y p:Nat} (h:(core2 l x y p).1=0):p≤(core2 l x y p).2.1:=by
 unfold core2 at h ⊢
 by_cases h0:(parse l p).2.2≠0
 ·rw [if_pos h0] at h; exact absurd h h0
 ·rw [if_neg h0]; exact Nat.le_add_right _ _
theorem after2_gt {l:List UInt8} {x y q:Nat} (h:(after2 l x y q).1=0):q<(after2 l x y q).2.1:=by
 unfold after2 at h ⊢
 by_cases h0:point l q≠0
 ·rw [if_pos h0] at h; exact absurd h h0
 ·rw [if_neg h0] at h ⊢; exact core2_ge h
theorem core1_ge {l:List UInt8} {x p:Nat} (h:(core1 l x p).1=0):p≤(core1 l x p).2.1:=by
 unfold core1 at h ⊢
 by_cases h0:(parse l p).2.2≠0
 ·rw [if_pos h0] at h; exact absurd h h0
 ·rw [if_neg h0] at h ⊢; have:=after2_gt h; omega
theorem after1_gt {l:List UInt8} {x q:Nat} (h:(after1 l x q).1=0):q<(after1 l x q).2.1:=by
 unfold after1 at h ⊢
 by_cases h0:point l q≠0
 ·rw [if_pos h0] at h; exact absurd h h0
 ·rw [if_neg h0] at h ⊢; exact core1_ge h
theorem core_gt {l:List UInt8} {p:Nat} (h:(core l p).1=0):p<(core l p).2.1:=by
 unfold core at h ⊢
 by_cases h0:(parse l p).2.2≠0
 ·rw [if_pos h0] at h; exact absurd h h0
 ·rw [if_neg h0] at h ⊢; have:=after1_gt h; omega
theorem rowAt_ge (l:List UInt8) (p m:Nat):p≤(Semver.rowAt l p m).2.1:=by
 unfold Semver.rowAt; split
 ·exact Nat.le_refl _
 ·show p≤p+1+_; omega
theorem inside_gt {l:List UInt8} {p:Nat} (h:(inside l p).1=0):p<(inside l p).2.1:=by
 unfold inside at h ⊢
 by_cases h0:(core l p).1≠0
 ·rw [if_pos h0] at h; exact absurd h h0
 ·rw [if_neg h0] at h ⊢
  have h1:=core_gt (l:=l) (p:=p) (by simpa using h0)
  unfold tail1 at h ⊢
  have h2:=rowAt_ge l (core l p).2.1 45
  by_cases h3:(Semver.rowAt l (core l p).2.1 45).1≠0
  ·rw [if_pos h3] at h; exact absurd h h3
  ·rw [if_neg h3] at h ⊢
   unfold tail2 at h ⊢
   have h4:=rowAt_ge l (Semver.rowAt l (core l p).2.1 45).2.1 43
   split
   ·rename_i h5; rw [if_pos h5] at h; exact absurd h h5
   ·show p<(Semver.rowAt l (Semver.rowAt l (core l p).2.1 45).2.1 43).2.1; omega
theorem vparse_gt {l:List UInt8} (h:(vparse l 0).1=0):0<(vparse l 0).2.1:=by
 unfold vparse at h ⊢
 rw [if_neg (by omega),Int.toNat_zero] at h ⊢
 exact inside_gt h
theorem ver_prog (kind:Int):Prog (verAt kind):=by
 intro s h
 unfold verAt at h ⊢
 by_cases h0:oneOf digits s=true
 ·obtain ⟨b,r,rfl,_⟩:=oneOf_cons h0
  rw [if_pos h0] at h ⊢
  by_cases h1:(vparse (b :: r) 0).1≠0
  ·rw [if_pos h1] at h; exact absurd h h1
  ·rw [if_neg h1]
   have h2:=vparse_gt (l:=b :: r) (by simpa using h1)
   have h3:=blanks_len ((b :: r).drop (vparse (b :: r) 0).2.1)
   simp only [List.length_drop,List.length_cons] at h3 ⊢
   omega
 ·rw [if_neg h0] at h; exact absurd h (lackN_ne s)
theorem shutF_prog {t:Out} (h:(shutF t).1=0):t.1=0∧stands [41] t.2.1=true∧shutF t=(0,blanks (t.2.1.drop 1),t.2.2):=by
 unfold shutF at h ⊢
 by_cases h0:t.1≠0
 ·rw [if_pos h0] at h; exact absurd h h0
 ·rw [if_neg h0] at h ⊢
  by_cases h1:stands [41] t.2.1=true
  ·exact ⟨by simpa using h0,h1,by rw [if_pos h1]⟩
  ·rw [if_neg h1] at h; exact absurd h (lackN_ne _)
theorem notF_prog {t:Out} (h:(notF t).1=0):t.1=0∧notF t=(0,t.2.1,.mk 11 noVer [t.2.2]):=by
 unfold notF at h ⊢
 by_cases h0:t.1≠0
 ·rw [if_pos h0] at h; exact absurd h h0
 ·rw [if_neg h0]; exact ⟨by simpa using h0,rfl⟩
theorem oneF_prog {sub:Option (List UInt8→Out)} (hs:∀ f,sub=some f→Prog f):Prog (oneF sub):=by
 intro s h
 have hd:∀ k,0<k→k≤s.length→(blanks (s.drop k)).length<s.length:=fun k h0 hk=>by
  have:=blanks_len (s.drop k); rw [List.length_drop] at this; omega
 unfold oneF at h ⊢
 by_cases h1:stands [42] s=true
 ·rw [if_pos h1]; exact hd 1 (by decide) (stands_len h1)
 ·rw [if_neg h1] at h ⊢
  by_cases h2:stands [40] s=true
  ·rw [if_pos h2] at h ⊢
   have h3:=hd 1 (by decide) (stands_len h2)
   cases sub with
   | none=>exact absurd h (show (8:Nat)≠0 by decide)
   | some f =>
    simp only at h ⊢
    obtain ⟨a1,a2,a3⟩:=shutF_prog h
    rw [a3]
    have h4:=exprF_prog (hs f rfl) _ a1
    have h5:=blanks_len ((exprF f (blanks (s.drop 1))).2.1.drop 1)
    rw [List.length_drop] at h5
    show (blanks _).length<_
    omega
  ·rw [if_neg h2] at h ⊢
   by_cases h3:(opOf s).2=[]∧stands [33] s=true
   ·rw [if_pos h3] at h ⊢
    have h4:=hd 1 (by decide) (stands_len h3.2)
    cases sub with
    | none=>exact absurd h (show (8:Nat)≠0 by decide)
    | some f =>
     simp only at h ⊢
     obtain ⟨a1,a2⟩:=notF_prog h
     rw [a2]
     have h5:=hs f rfl _ a1
     show (f (blanks (s.drop 1))).2.1.length<_
     omega
   ·rw [if_neg h3] at h ⊢
    have h4:=ver_prog _ _ h
    have h5:=blanks_len (s.drop (opOf s).2.length)
    rw [List.length_drop] at h5
    omega
theorem pone_prog:∀ k,Prog (pone k)
 | 0=>oneF_prog fun f h=>by cases h
 | k+1=>oneF_prog fun f h=>by injection h with h; rw [← h]; exact pone_prog k
end Go.Proofs.YtgakcdcfblgagaaDoor.Range
namespace Go.Proofs.YtgakcdcfblgagaaDoor.Prec
open Go.RowKit Num Ident Semver

def Fit (xs:List (List UInt8)):Prop:=xs.length≤maxLen∧∀ x ∈ xs,x.length≤maxLen
end Go.Proofs.YtgakcdcfblgagaaDoor.Prec
namespace Go.Proofs.YtgakcdcfblgagaaDoor.Span
open Go.RowKit Num Ident Semver Prec

structure Cut where
 kind:Int
 v:Ver
deriving DecidableEq
structure Sp where
 lo:Cut
 hi:Cut
deriving DecidableEq
def low:Cut:=⟨0,noVer⟩
instance:Inhabited Sp:=⟨⟨low,low⟩⟩
def ofVer (c:Cut):Bool:=decide (c.kind=1∨c.kind=2)
def right (c:Cut):Bool:=if c.kind=0∨c.kind=3 then sameV c.v noVer else if c.kind=1∨c.kind=2 then goodV c.v && decide (c.v.build.length=0) else false
def ordI (x y:Int):Int:=if x<y then -1 else if y<x then 1 else 0
def stand (a b:Cut):Int:=if ofVer a=true∧ofVer b=true∧cmpV a.v b.v≠0 then cmpV a.v b.v else ordI a.kind b.kind
def kc (c:Cut):Int:=if ofVer c=true then 1 else c.kind

def cnt (s:Sp):Bool:=right s.lo && (right s.hi && decide (stand s.lo s.hi<0))
structure Norm (l:List Sp):Prop where
 cnt:∀ s ∈ l,cnt s=true
 gap:l.Pairwise fun s t=>stand s.hi t.lo<0
inductive Like:List Sp→List Sp→Prop
 | nil:Like [] []
 | cons {s t:Sp} {l m:List Sp}:stand s.lo t.lo=0→stand s.hi t.hi=0→Like l m→Like (s :: l) (t :: m)

theorem sameV_none {v:Ver} (h:sameV v noVer=true):v=noVer:=by
 unfold sameV at h
 rw [Bool.and_eq_true,decide_eq_true_eq,Bool.and_eq_true,sameB_iff,sameB_iff] at h
 obtain ⟨⟨h1,h2,h3⟩,h4,h5⟩:=h
 cases v; simp only [noVer] at *; subst h1; subst h2; subst h3; subst h4; subst h5; rfl
theorem good_len (pre:Bool):∀ (xs:List (List UInt8)) (i:Nat),i≤16→goodFrom pre xs i=true→i+xs.length≤16
 | [],i,hi,_=>by simpa using hi
 | x :: r,i,hi,h=>by
  rw [goodFrom] at h
  simp only [Bool.and_eq_true,beq_iff_eq] at h
  have h1:=(fault_pos h.1.1).2.2
  have:=good_len pre r (i+1) (by omega) h.2
  simp; omega


end Go.Proofs.YtgakcdcfblgagaaDoor.Span
