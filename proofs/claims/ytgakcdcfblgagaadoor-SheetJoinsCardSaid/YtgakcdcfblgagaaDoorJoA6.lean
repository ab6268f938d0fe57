/-
  What the theorem of the last text needs of these: SvParse, RgBack, SpSweep. Conditions: as each theorem states.
-/
import Derived.Test.YtgakcdcfblgagaaDoorJoA1
import Derived.Test.YtgakcdcfblgagaaDoorJoA4
import Derived.Test.YtgakcdcfblgagaaDoorJoA5
set_option maxRecDepth 100000
set_option maxHeartbeats 25600000
namespace Go.Proofs.YtgakcdcfblgagaaDoor.Semver
open Go.RowKit Num Ident

theorem readRow_pre (A:Option Addr) (n c:Nat) (l:List UInt8) (p:Nat) (w:World) (h:Row w A n l) (hc:n≤c) (hp:p≤n) :
  Calls Tryd.prog 62 #[.slice A n c,.int .i64 p,.int .u8 45] w (RowPostF w (rowAt l p 45)):=by
 have hm:=h.2.1
 unfold maxLen at hm
 have HR:=Lib.hid h
 have HL:=Lib.hid h.1
 have HC:=Lib.hid h.2.2
 clear h
 by_cases h0:p=n
 ·have HF:=Lib.hid (rowAt_none (l:=l) (p:=p) (m:=45) (.inl (by rw [HL.out]; exact h0)))
  subst h0
  have hb:((p:Int) == (p:Int))=true:=by simp
  rw [HF.out]
  go_enter Tryd.func62,Tryd.ntmps62
  go_wp2
  go_ret3
  exact ⟨none,0,rfl,Nat.le_refl _,SRow.none_ _ _,Below.refl _ _,Fresh.none_ _ _⟩
 ·have hlt:p<n:=by omega
  have hb:((p:Int) == (n:Int))=false:=by simp; omega
  have H0:Hid (p≠l.length):=by unfold Hid; rw [HL.out]; exact h0
  obtain ⟨b,o,rfl,hbl,hcell⟩:=HC.out (by omega)
  have hx:=hcell p hlt
  clear hcell HC h0
  have hbd:=byteAt_bd l p
  have HN:=Lib.hid (fun h=>rowAt_none (l:=l) (p:=p) (m:=45) (.inr h))
  have HY:=Lib.hid (fun h=>rowAt_some (l:=l) (p:=p) (m:=45) H0.out h)
  generalize byteAt l p=x at hx hbd HN HY
  by_cases hxm:x=45
  ·have HF:=Lib.hid (HY.out (by exact hxm))
   have h1:(x != 45)=false:=by simp [hxm]
   clear hxm HN HY
   rw [HF.out]
   have HQ:=Lib.hid (fun W hW=>row_anyF (some ⟨b,o,none⟩) n c l ((p+1:Nat):Int) true W hW hc)
   rw [show ((45:Nat) == 45)=true from rfl]
   obtain ⟨⟨E,N,xs⟩,hr⟩:∃ t,row l ((p+1:Nat):Int) true=t:=⟨_,rfl⟩
   have HE:=Lib.hid (row_end l (p+1) true (by rw [HL.out]; exact hlt))
   rw [hr] at HQ HE ⊢
   clear hr HF
   have hE:p+1+N≤n:=by have:=HE.out; rw [HL.out] at this; exact this
   go_enter Tryd.func62,Tryd.ntmps62
   go_wp2_with fail
   refine (HQ.out _ HR.out).mono ?_
   rintro e w1 ⟨A1,c1,rfl,hc1,hr1,hb1,hf1⟩
   simp only at hc1 hr1 hf1 ⊢
   have HR1:=Lib.hid hr1
   have HB1:=Lib.hid hb1
   clear hr1 hb1
   go_wp2
   go_ret3
   exact ⟨A1,c1,by simp,hc1,HR1.out,HB1.out,hf1⟩
  ·have HF:=Lib.hid (HN.out (by exact hxm))
   have h1:(x != 45)=true:=by simp [hxm]
   clear hxm HN HY
   rw [HF.out]
   go_enter Tryd.func62,Tryd.ntmps62
   go_wp2
   go_ret3
   exact ⟨none,0,rfl,Nat.le_refl _,SRow.none_ _ _,Below.refl _ _,Fresh.none_ _ _⟩

theorem readRow_build (A:Option Addr) (n c:Nat) (l:List UInt8) (p:Nat) (w:World) (h:Row w A n l) (hc:n≤c) (hp:p≤n) :
  Calls Tryd.prog 62 #[.slice A n c,.int .i64 p,.int .u8 43] w (RowPostF w (rowAt l p 43)):=by
 have hm:=h.2.1
 unfold maxLen at hm
 have HR:=Lib.hid h
 have HL:=Lib.hid h.1
 have HC:=Lib.hid h.2.2
 clear h
 by_cases h0:p=n
 ·have HF:=Lib.hid (rowAt_none (l:=l) (p:=p) (m:=43) (.inl (by rw [HL.out]; exact h0)))
  subst h0
  have hb:((p:Int) == (p:Int))=true:=by simp
  rw [HF.out]
  go_enter Tryd.func62,Tryd.ntmps62
  go_wp2
  go_ret3
  exact ⟨none,0,rfl,Nat.le_refl _,SRow.none_ _ _,Below.refl _ _,Fresh.none_ _ _⟩
 ·have hlt:p<n:=by omega
  have hb:((p:Int) == (n:Int))=false:=by simp; omega
  have H0:Hid (p≠l.length):=by unfold Hid; rw [HL.out]; exact h0
  obtain ⟨b,o,rfl,hbl,hcell⟩:=HC.out (by omega)
  have hx:=hcell p hlt
  clear hcell HC h0
  have hbd:=byteAt_bd l p
  have HN:=Lib.hid (fun h=>rowAt_none (l:=l) (p:=p) (m:=43) (.inr h))
  have HY:=Lib.hid (fun h=>rowAt_some (l:=l) (p:=p) (m:=43) H0.out h)
  generalize byteAt l p=x at hx hbd HN HY
  by_cases hxm:x=43
  ·have HF:=Lib.hid (HY.out (by exact hxm))
   have h1:(x != 43)=false:=by simp [hxm]
   clear hxm HN HY
   rw [HF.out]
   have HQ:=Lib.hid (fun W hW=>row_anyF (some ⟨b,o,none⟩) n c l ((p+1:Nat):Int) false W hW hc)
   rw [show ((43:Nat) == 45)=false from rfl]
   obtain ⟨⟨E,N,xs⟩,hr⟩:∃ t,row l ((p+1:Nat):Int) false=t:=⟨_,rfl⟩
   have HE:=Lib.hid (row_end l (p+1) false (by rw [HL.out]; exact hlt))
   rw [hr] at HQ HE ⊢
   clear hr HF
   have hE:p+1+N≤n:=by have:=HE.out; rw [HL.out] at this; exact this
   go_enter Tryd.func62,Tryd.ntmps62
   go_wp2_with fail
   refine (HQ.out _ HR.out).mono ?_
   rintro e w1 ⟨A1,c1,rfl,hc1,hr1,hb1,hf1⟩
   simp only at hc1 hr1 hf1 ⊢
   have HR1:=Lib.hid hr1
   have HB1:=Lib.hid hb1
   clear hr1 hb1
   go_wp2
   go_ret3
   exact ⟨A1,c1,by simp,hc1,HR1.out,HB1.out,hf1⟩
  ·have HF:=Lib.hid (HN.out (by exact hxm))
   have h1:(x != 43)=true:=by simp [hxm]
   clear hxm HN HY
   rw [HF.out]
   go_enter Tryd.func62,Tryd.ntmps62
   go_wp2
   go_ret3
   exact ⟨none,0,rfl,Nat.le_refl _,SRow.none_ _ _,Below.refl _ _,Fresh.none_ _ _⟩

def VerPostF (w:World) (r:Out) (e:Ending) (w':World):Prop :=
 ∃ A c B d,e=.returned (.tuple #[.agg #[r.2.2.a,r.2.2.b,r.2.2.c,.slice A r.2.2.pre.length c,.slice B r.2.2.build.length d],.int .i64 r.2.1,.int .i64 r.1]) ∧
  r.2.2.pre.length≤c∧r.2.2.build.length≤d∧SRow w' A r.2.2.pre.length r.2.2.pre∧SRow w' B r.2.2.build.length r.2.2.build∧Below w.heap.size w w'∧Fresh w.heap.size A r.2.2.pre.length∧Fresh w.heap.size B r.2.2.build.length
theorem VerPostF.bad {w w':World} {q f:Nat} (hb:Below w.heap.size w w'):VerPostF w (f,q,noVer) (.returned (.tuple #[.agg #[.int .u64 0,.int .u64 0,.int .u64 0,.slice none 0 0,.slice none 0 0],.int .i64 q,.int .i64 f])) w' :=
 ⟨none,0,none,0,rfl,Nat.le_refl _,Nat.le_refl _,SRow.none_ _ _,SRow.none_ _ _,hb,Fresh.none_ _ _,Fresh.none_ _ _⟩

theorem parse_out (A:Option Addr) (n c:Nat) (l:List UInt8) (p:Int) (w:World) (h:Row w A n l) (ho:p<0∨(n:Int)<p) :
  Calls Tryd.prog 48 #[.slice A n c,.int .i64 p] w (VerPostF w (vparse l p)):=by
 have HE:Hid (vparse l p=(1,0,noVer)):=by
  unfold Hid vparse; rw [if_pos (by rw [h.1]; exact ho)]
 rw [HE.out]
 clear h HE
 by_cases h0:p<0
 ·go_enter Tryd.func48,Tryd.ntmps48
  go_wp2
  exact bodyPost_ret (v:=.tuple #[.agg #[.int .u64 0,.int .u64 0,.int .u64 0,.slice none 0 0,.slice none 0 0],.int .i64 0,.int .i64 1]) (by simp [results,Tryd.results48,go_sem]) rfl (VerPostF.bad (q:=0) (f:=1) ((Below.refl _ _).alloc (Nat.le_refl _) _))
 ·have h1:(n:Int)<p:=by omega
  clear ho
  go_enter Tryd.func48,Tryd.ntmps48
  go_wp2
  exact bodyPost_ret (v:=.tuple #[.agg #[.int .u64 0,.int .u64 0,.int .u64 0,.slice none 0 0,.slice none 0 0],.int .i64 0,.int .i64 1]) (by simp [results,Tryd.results48,go_sem]) rfl (VerPostF.bad (q:=0) (f:=1) ((Below.refl _ _).alloc (Nat.le_refl _) _))

theorem parse_in (A:Option Addr) (n c:Nat) (l:List UInt8) (p:Nat) (w:World) (h:Row w A n l) (hc:n≤c) (hp:p≤n) :
  Calls Tryd.prog 48 #[.slice A n c,.int .i64 p] w (VerPostF w (vparse l p)):=by
 have hm:=h.2.1
 unfold maxLen at hm
 have HR:=Lib.hid h
 have HL:=Lib.hid h.1
 have HE:Hid (vparse l p=inside l p):=by
  unfold Hid vparse; rw [if_neg (by rw [h.1]; omega),Int.toNat_natCast]
 rw [HE.out]
 clear h HE
 have hp0:¬ (p:Int)<0:=by omega
 have hp1:¬ n<p:=by omega
 have HB0:Hid (Below w.heap.size w (w.alloc false)):=(Below.refl _ _).alloc (Nat.le_refl _) _
 obtain ⟨⟨f,q,x,y,z⟩,hk⟩:∃ t,core l p=t:=⟨_,rfl⟩
 have HQ:=Lib.hid (core_end l p (by rw [HL.out]; exact hp))
 have HI:Hid (inside l p=if f≠0 then (f,q,noVer) else tail1 l x y z q):=by unfold Hid inside; rw [hk]
 have HO:Hid (coreOut (core l p)=.tuple #[.agg #[.int .u64 x,.int .u64 y,.int .u64 z],.int .i64 q,.int .i64 f]):=by unfold Hid; rw [hk]; rfl
 rw [hk] at HQ
 have hq:q≤n:=by have:=HQ.out; rw [HL.out] at this; exact this
 clear hk HQ
 go_enter Tryd.func48,Tryd.ntmps48
 go_wp2_with fail
 refine (readCore_any _ _ _ l p _ (HR.out.kept HB0.out) hc hp).mono ?_
 rw [HO.out]
 rintro e w1 ⟨rfl,hb1⟩
 have hz1:w.heap.size+1≤w1.heap.size:=by have:=hb1.size; simpa using this
 have HV1:Hid (At5 w1 w.heap.size (.int .u64 0) (.int .u64 0) (.int .u64 0) (.slice none 0 0) (.slice none 0 0)):=(At5.new w 45 _ _ _ _ _).kept hb1 (by simp)
 have HC1:Hid (At3 (w1.alloc (.cells #[.int .u64 x,.int .u64 y,.int .u64 z] 129)) w1.heap.size (.int .u64 x) (.int .u64 y) (.int .u64 z)):=At3.new w1 129 _ _ _
 have HB1w:Hid (Below w.heap.size w w1):=HB0.out.trans (hb1.mono (by simp))
 have HB1:Hid (Below w.heap.size w (w1.alloc (.cells #[.int .u64 x,.int .u64 y,.int .u64 z] 129))):=(HB0.out.trans (hb1.mono (by simp))).alloc (by omega) _
 clear hb1
 by_cases h0:f=0
 ·subst h0
  have HI2:Hid (inside l p=tail1 l x y z q):=HI.out.trans (if_neg (by simp))
  clear HI
  have HP2:=Lib.hid (fun W hW=>readRow_pre A n c l q W hW hc hq)
  have HQ:=Lib.hid (rowAt_end l q 45 (by rw [HL.out]; exact hq))
  have HT:Hid (tail1 l x y z q=if (rowAt l q 45).1≠0 then ((rowAt l q 45).1,(rowAt l q 45).2.1,noVer) else tail2 l x y z (rowAt l q 45).2.2 (rowAt l q 45).2.1):=rfl
  obtain ⟨⟨f,q2,xs⟩,hr⟩:∃ t,rowAt l q 45=t:=⟨_,rfl⟩
  rw [hr] at HP2 HQ HT
  clear hr
  have hq2:q2≤n:=by have:=HQ.out; rw [HL.out] at this; exact this
  go_wp2_with fail
  refine (HP2.out _ (HR.out.kept HB1.out)).mono ?_
  rintro e w2 ⟨A2,c2,rfl,hc2,hr2,hb2,hf2⟩
  simp only at hc2 hr2 hf2 ⊢
  replace hf2:=hf2.mono (B':=w.heap.size) (by simp; omega)
  have hz2:w1.heap.size+1≤w2.heap.size:=by have:=hb2.size; simpa using this
  have HB2:=Lib.hid (HB1.out.trans (hb2.mono (by simp; omega)))
  have HV2:Hid (At5 w2 w.heap.size (.int .u64 0) (.int .u64 0) (.int .u64 0) (.slice none 0 0) (.slice none 0 0)):=(HV1.out.kept ((Below.refl _ _).alloc (Nat.le_refl _) _) (by omega)).kept hb2 (by simp; omega)
  have HC2:=Lib.hid (HC1.out.kept hb2 (by simp))
  have HR2:=Lib.hid hr2
  clear hb2 hr2 HV1 HC1
  by_cases h0:f=0
  ·subst h0
   have HI3:Hid (inside l p=tail2 l x y z xs q2):=HI2.out.trans (HT.out.trans (if_neg (by simp)))
   clear HT HI2
   have HP3:=Lib.hid (fun W hW=>readRow_build A n c l q2 W hW hc hq2)
   have HQ3:=Lib.hid (rowAt_end l q2 43 (by rw [HL.out]; exact hq2))
   have HT:Hid (tail2 l x y z xs q2=if (rowAt l q2 43).1≠0 then ((rowAt l q2 43).1,(rowAt l q2 43).2.1,noVer) else (0,(rowAt l q2 43).2.1,⟨x,y,z,xs,(rowAt l q2 43).2.2⟩)):=rfl
   obtain ⟨⟨f,q3,ys⟩,hr⟩:∃ t,rowAt l q2 43=t:=⟨_,rfl⟩
   rw [hr] at HP3 HQ3 HT
   clear hr
   go_wp2_with fail
   refine (HP3.out _ (HR.out.kept HB2.out)).mono ?_
   rintro e w3 ⟨A3,c3,rfl,hc3,hr3,hb3,hf3⟩
   simp only at hc3 hr3 hf3 ⊢
   replace hf3:=hf3.mono (B':=w.heap.size) (by omega)
   have hz3:w2.heap.size≤w3.heap.size:=hb3.size
   have HB3:=Lib.hid (HB2.out.trans (hb3.mono (by omega)))
   have HV3:=Lib.hid (HV2.out.kept hb3 (by omega))
   have HC3:=Lib.hid (HC2.out.kept hb3 (by omega))
   have HR3:=Lib.hid hr3
   have HR2':=Lib.hid (HR2.out.kept hb3)
   clear hb3 hr3 HV2 HC2
   by_cases h0:f=0
   ·subst h0
    have HI4:Hid (inside l p=(0,q3,⟨x,y,z,xs,ys⟩)):=HI3.out.trans (HT.out.trans (if_neg (by simp)))
    clear HT HI3
    obtain ⟨hvl,hvf,hv0,hv1,hv2,hv3,hv4⟩:=HV3.out
    obtain ⟨hcl,hcf,hk0,hk1,hk2⟩:=HC3.out
    have HA:=Lib.hid (HR2'.out.set5 hv0 hv1 hv2 hv3 hv4 (by simp) (by simp) (by simp) (by simp) (by simp) (.int .u64 x) (.int .u64 y) (.int .u64 z) (.slice A2 xs.length c2) (.slice A3 ys.length c3))
    have HB:=Lib.hid (HR3.out.set5 hv0 hv1 hv2 hv3 hv4 (by simp) (by simp) (by simp) (by simp) (by simp) (.int .u64 x) (.int .u64 y) (.int .u64 z) (.slice A2 xs.length c2) (.slice A3 ys.length c3))
    go_wp2
    exact bodyPost_ret (v:=.tuple #[.agg #[.int .u64 x,.int .u64 y,.int .u64 z,.slice A2 xs.length c2,.slice A3 ys.length c3],.int .i64 q3,.int .i64 0]) (by simp [results,Tryd.results48,go_sem,hv0,hv1,hv2,hv3,hv4]) rfl (by rw [HI4.out]; exact ⟨A2,c2,A3,c3,rfl,hc2,hc3,HA.out,HB.out,(((((HB3.out.setCell (by simp) _).setCell (by simp) _).setCell (by simp) _).setCell (by simp) _).setCell (by simp) _),hf2,hf3⟩)
   ·have HI4:Hid (inside l p=(f,q3,noVer)):=HI3.out.trans (HT.out.trans (if_pos h0))
    clear HT HI3
    have hb1:((f:Int) != 0)=true:=by simp [h0]
    have hb2:((f:Int) == 0)=false:=by simp [h0]
    clear h0
    obtain ⟨hvl,hvf,hv0,hv1,hv2,hv3,hv4⟩:=HV3.out
    have hne:=Nat.ne_of_lt hvl
    go_wp2
    exact bodyPost_ret (v:=.tuple #[.agg #[.int .u64 0,.int .u64 0,.int .u64 0,.slice none 0 0,.slice none 0 0],.int .i64 q3,.int .i64 f]) (by simp [results,Tryd.results48,go_sem,hv0,hv1,hv2,hv3,hv4]) rfl (by rw [HI4.out]; exact VerPostF.bad (((((HB3.out.setCell (by simp) _).setCell (by simp) _).setCell (by simp) _).setCell (by simp) _).setCell (by simp) _))
  ·have HI3:Hid (inside l p=(f,q2,noVer)):=HI2.out.trans (HT.out.trans (if_pos h0))
   clear HT HI2
   have hb1:((f:Int) != 0)=true:=by simp [h0]
   have hb2:((f:Int) == 0)=false:=by simp [h0]
   clear h0
   obtain ⟨hvl,hvf,hv0,hv1,hv2,hv3,hv4⟩:=HV2.out
   have hne:=Nat.ne_of_lt hvl
   go_wp2
   exact bodyPost_ret (v:=.tuple #[.agg #[.int .u64 0,.int .u64 0,.int .u64 0,.slice none 0 0,.slice none 0 0],.int .i64 q2,.int .i64 f]) (by simp [results,Tryd.results48,go_sem,hv0,hv1,hv2,hv3,hv4]) rfl (by rw [HI3.out]; exact VerPostF.bad (((((HB2.out.setCell (by simp) _).setCell (by simp) _).setCell (by simp) _).setCell (by simp) _).setCell (by simp) _))
 ·have HI2:Hid (inside l p=(f,q,noVer)):=HI.out.trans (if_pos h0)
  clear HI
  have hb1:((f:Int) != 0)=true:=by simp [h0]
  have hb2:((f:Int) == 0)=false:=by simp [h0]
  clear h0
  obtain ⟨hvl,hvf,hv0,hv1,hv2,hv3,hv4⟩:=HV1.out
  have hne:=Nat.ne_of_lt hvl
  go_wp2
  exact bodyPost_ret (v:=.tuple #[.agg #[.int .u64 0,.int .u64 0,.int .u64 0,.slice none 0 0,.slice none 0 0],.int .i64 q,.int .i64 f]) (by simp [results,Tryd.results48,go_sem,hv0,hv1,hv2,hv3,hv4,hvl]) rfl (by rw [HI2.out]; exact VerPostF.bad ((((((HB1w.out.setCell (by simp) _).setCell (by simp) _).setCell (by simp) _).setCell (by simp) _).setCell (by simp) _).alloc (by simp; omega) _))

theorem parse_anyF (A:Option Addr) (n c:Nat) (l:List UInt8) (p:Int) (w:World) (h:Row w A n l) (hc:n≤c) :
  Calls Tryd.prog 48 #[.slice A n c,.int .i64 p] w (VerPostF w (vparse l p)):=by
 by_cases ho:p<0∨(n:Int)<p
 ·exact parse_out A n c l p w h ho
 ·obtain ⟨k,rfl⟩:=Int.eq_ofNat_of_zero_le (show 0≤p by omega)
  exact parse_in A n c l k w h hc (by omega)

end Go.Proofs.YtgakcdcfblgagaaDoor.Semver
namespace Go.Proofs.YtgakcdcfblgagaaDoor.Range
open Num Ident Semver

theorem vparse_read {l:List UInt8} {q:Nat} {v:Ver} (h:vparse l 0=(0,q,v)):goodV v=true∧l=vtext v ++ l.drop q:=by
 unfold vparse at h
 rw [if_neg (by omega),Int.toNat_zero] at h
 unfold inside at h
 by_cases h2:(core l 0).1≠0
 ·rw [if_pos h2] at h; injection h with h; exact absurd h h2
 ·rw [if_neg h2] at h
  have hce:=core_end l 0 (Nat.zero_le _)
  obtain ⟨⟨f,q1,x,y,z⟩,hk⟩:∃ t,core l 0=t:=⟨_,rfl⟩
  rw [hk] at h2 h hce
  simp only at h2 h hce
  have h2':f=0:=by simpa using h2
  subst h2'
  obtain ⟨c1,c2,c3,c4⟩:=core_read (Nat.zero_le _) hk
  unfold tail1 at h
  by_cases h3:(Semver.rowAt l q1 45).1≠0
  ·rw [if_pos h3] at h; injection h with h; exact absurd h h3
  ·rw [if_neg h3] at h
   have hre:=rowAt_end l q1 45 hce
   obtain ⟨⟨f,q2,xs⟩,hr⟩:∃ t,Semver.rowAt l q1 45=t:=⟨_,rfl⟩
   rw [hr] at h3 h hre
   simp only at h3 h hre
   have h3':f=0:=by simpa using h3
   subst h3'
   obtain ⟨r1,r2⟩:=rowAt_read (mb:=45) rfl hce hr
   unfold tail2 at h
   by_cases h4:(Semver.rowAt l q2 43).1≠0
   ·rw [if_pos h4] at h; injection h with h; exact absurd h h4
   ·rw [if_neg h4] at h
    obtain ⟨⟨f,q3,ys⟩,hr3⟩:∃ t,Semver.rowAt l q2 43=t:=⟨_,rfl⟩
    rw [hr3] at h4 h
    simp only at h4 h
    have h4':f=0:=by simpa using h4
    subst h4'
    obtain ⟨s1,s2⟩:=rowAt_read (mb:=43) rfl hre hr3
    injection h with _ h
    injection h with hq hv
    subst hq; subst hv
    refine ⟨?_,?_⟩
    ·unfold goodV
     rw [heldB_yes c2 c3 c4]
     have r2':goodFrom true xs 0=true:=r2
     have s2':goodFrom false ys 0=true:=s2
     simp [r2',s2']
    ·have e:l=Lib.decDigits x ++ 46 :: (Lib.decDigits y ++ 46 :: (Lib.decDigits z ++ (rowText 45 xs ++ (rowText 43 ys ++ l.drop q3)))):=by
      rw [← s1,← r1,← c1]; rfl
     generalize l.drop q3=t at e ⊢
     rw [e]
     unfold vtext
     simp
theorem goodR_mono:∀ (r:Rng) (d d':Nat),d'≤d→goodR r d=true→goodR r d'=true
 | .mk kind v l,d,d',h,hg=>by
  rw [goodR_eq,Bool.and_eq_true,Bool.and_eq_true,decide_eq_true_eq] at hg ⊢
  exact ⟨⟨by omega,hg.1.2⟩,goodL_mono kind l d d' h hg.2⟩
where goodL_mono (outer:Int):∀ (l:List Rng) (d d':Nat),d'≤d→goodL outer l d=true→goodL outer l d'=true
 | [],_,_,_,_=>rfl
 | r :: rs,d,d',h,hg=>by
  rw [goodL_cons,Bool.and_eq_true] at hg ⊢
  exact ⟨goodR_mono r _ _ (by omega) hg.1,goodL_mono outer rs d d' h hg.2⟩

theorem opens_le (k:Int):opens 10 k≤opens 9 k∧opens 9 k≤1∧opens 11 k=1+opens 9 k:=by
 unfold opens bracketed
 by_cases h1:k=10 <;> by_cases h2:k=9 <;> simp [h1,h2]
theorem goodL_append (o:Int):∀ (a b:List Rng) (d:Nat),goodL o (a ++ b) d=(goodL o a d && goodL o b d)
 | [],b,d=>by simp [goodL]
 | r :: a,b,d=>by rw [List.cons_append,goodL_cons,goodL_cons,goodL_append o a b d,Bool.and_assoc]
theorem fits_many {kind:Int} (h:kind=9∨kind=10) {n:Nat} (hn:2≤n):fits kind noVer n=true:=by
 have h1:ofVersion kind=false:=by unfold ofVersion; rcases h with rfl | rfl <;> decide
 have h2:kind≠0:=by omega
 unfold fits
 rw [h1,sameV_self,if_neg (by simp),if_neg (by simp),if_neg h2,if_pos h,decide_eq_true hn]
theorem sev_good {pf:List UInt8→Out} {ff:List UInt8→Option (List UInt8)} {kind:Int} (hk:kind=9∨kind=10) {d:Nat} (hd:d≤64) (hp:∀ s,(pf s).1=0→goodR (pf s).2.2 (d+opens kind (pf s).2.2.kind)=true):∀ (n:Nat) (acc:List Rng) (s:List UInt8),goodL kind acc d=true→(sev pf ff kind n acc s).1=0 →
  (acc=[]∧goodR (sev pf ff kind n acc s).2.2 (d+opens kind (sev pf ff kind n acc s).2.2.kind)=true)∨((sev pf ff kind n acc s).2.2.kind=kind∧goodR (sev pf ff kind n acc s).2.2 d=true)
 | 0,_,_,_,h=>by rw [sev] at h; exact absurd h (by simp)
 | n+1,acc,s,ha,h=>by
  by_cases h0:(pf s).1=0
  ·have h1:=hp s h0
   have h3:goodL kind (acc ++ [(pf s).2.2]) d=true:=by rw [goodL_append,ha,goodL_cons,h1]; rfl
   cases h2:ff (pf s).2.1 with
   | some s' =>
    rw [sev_on h0 h2] at h ⊢
    rcases sev_good hk hd hp n _ s' h3 h with ⟨h4,_⟩ | h4
    ·simp at h4
    ·exact .inr h4
   | none =>
    rw [sev_end h0 h2]
    unfold whole
    by_cases h5:acc=[]
    ·left; rw [if_pos h5]; exact ⟨h5,h1⟩
    ·right
     rw [if_neg h5]
     refine ⟨rfl,?_⟩
     have:2≤(acc ++ [(pf s).2.2]).length:=by
      cases acc with
      | nil=>exact absurd rfl h5
      | cons=>simp
     rw [goodR_eq,decide_eq_true hd,fits_many hk this,h3]; rfl
  ·rw [sev_bad h0] at h; exact absurd h h0
theorem every_good {pf:List UInt8→Out} {d:Nat} (hd:d≤64) (hp:∀ s,(pf s).1=0→goodR (pf s).2.2 (d+opens 9 (pf s).2.2.kind)=true) (s:List UInt8) (h:(everyF pf s).1=0):goodR (everyF pf s).2.2 (d+opens 10 (everyF pf s).2.2.kind)=true:=by
 rcases sev_good (.inl rfl) hd hp (s.length+1) [] s rfl h with ⟨_,h1⟩ | ⟨h1,h2⟩
 ·exact goodR_mono _ _ _ (Nat.add_le_add_left (opens_le _).1 d) h1
 ·have e:opens 10 (everyF pf s).2.2.kind=0:=by
   have:(everyF pf s).2.2.kind=9:=h1
   rw [this]; decide
  rw [e]; exact h2
theorem expr_good {pf:List UInt8→Out} {d:Nat} (hd:d≤64) (hp:∀ s,(pf s).1=0→goodR (pf s).2.2 (d+opens 9 (pf s).2.2.kind)=true) (s:List UInt8) (h:(exprF pf s).1=0):goodR (exprF pf s).2.2 d=true:=by
 rcases sev_good (.inr rfl) hd (every_good hd hp) (s.length+1) [] s rfl h with ⟨_,h1⟩ | ⟨_,h2⟩
 ·exact goodR_mono _ _ _ (Nat.le_add_right _ _) h1
 ·exact h2
theorem opFrom_kind (s:List UInt8):(opOf s).1=1∧(opOf s).2=[62,61]∨(opOf s).1=2∧(opOf s).2=[62]∨(opOf s).1=3∧(opOf s).2=[60,61]∨(opOf s).1=4∧(opOf s).2=[60]∨(opOf s).1=5∧(opOf s).2=[61]∨(opOf s).1=6∧(opOf s).2=[33,61]∨(opOf s).1=7∧(opOf s).2=[94]∨(opOf s).1=8∧(opOf s).2=[126]∨(opOf s).1=5∧(opOf s).2=[]:=by
 unfold opOf ops opFrom
 split
 ·simp
 ·unfold opFrom; split
  ·simp
  ·unfold opFrom; split
   ·simp
   ·unfold opFrom; split
    ·simp
    ·unfold opFrom; split
     ·simp
     ·unfold opFrom; split
      ·simp
      ·unfold opFrom; split
       ·simp
       ·unfold opFrom; split
        ·simp
        ·unfold opFrom; simp
theorem opOf_kind (s:List UInt8):1≤(opOf s).1∧(opOf s).1≤8:=by
 rcases opFrom_kind s with ⟨h,_⟩ | ⟨h,_⟩ | ⟨h,_⟩ | ⟨h,_⟩ | ⟨h,_⟩ | ⟨h,_⟩ | ⟨h,_⟩ | ⟨h,_⟩ | ⟨h,_⟩ <;> omega
theorem verAt_ok {kind:Int} {s:List UInt8} (h:(verAt kind s).1=0):oneOf digits s=true∧(vparse s 0).1=0∧verAt kind s=(0,blanks (s.drop (vparse s 0).2.1),.mk kind (vparse s 0).2.2 []):=by
 unfold verAt at h ⊢
 by_cases h0:oneOf digits s=true
 ·rw [if_pos h0] at h ⊢
  by_cases h1:(vparse s 0).1≠0
  ·rw [if_pos h1] at h; exact absurd h h1
  ·rw [if_neg h1]; exact ⟨h0,by simpa using h1,rfl⟩
 ·rw [if_neg h0] at h; exact absurd h (lackN_ne s)
theorem ver_kind {kind:Int} (h1:1≤kind) (h2:kind≤8):ofVersion kind=true∧opens 9 kind=0:=by
 refine ⟨decide_eq_true ⟨h1,h2⟩,?_⟩
 have a:kind≠10:=by omega
 have b:kind≠9:=by omega
 unfold opens bracketed
 simp [a,b]
theorem ver_good {kind:Int} (h1:1≤kind) (h2:kind≤8) {d:Nat} (hd:d≤64) (s:List UInt8) (h:(verAt kind s).1=0):goodR (verAt kind s).2.2 (d+opens 9 (verAt kind s).2.2.kind)=true:=by
 obtain ⟨_,h4,h5⟩:=verAt_ok h
 obtain ⟨⟨f,q,v⟩,hk⟩:∃ t,vparse s 0=t:=⟨_,rfl⟩
 rw [hk] at h4 h5
 have h4':f=0:=h4
 subst h4'
 have hg:=(vparse_read hk).1
 rw [h5]
 show goodR (.mk kind v []) (d+opens 9 kind)=true
 obtain ⟨e1,e2⟩:=ver_kind h1 h2
 rw [e2,goodR_eq,decide_eq_true (by omega:d+0≤64)]
 unfold fits
 rw [if_pos e1,hg]; rfl
theorem zero_good {d:Nat} (hd:d≤64):goodR noRng (d+opens 9 noRng.kind)=true:=by
 show goodR (.mk 0 noVer []) (d+opens 9 0)=true
 rw [goodR_eq,decide_eq_true (show d+opens 9 0≤64 from hd)]; rfl
theorem oneF_good {sub:Option (List UInt8→Out)} {d:Nat} (hd:d≤64) (hs:∀ f,sub=some f→d+1≤64∧∀ s,(f s).1=0→goodR (f s).2.2 (d+1+opens 9 (f s).2.2.kind)=true) (s:List UInt8) (h:(oneF sub s).1=0):goodR (oneF sub s).2.2 (d+opens 9 (oneF sub s).2.2.kind)=true:=by
 unfold oneF at h ⊢
 by_cases h1:stands [42] s=true
 ·rw [if_pos h1]; exact zero_good hd
 ·rw [if_neg h1] at h ⊢
  by_cases h2:stands [40] s=true
  ·rw [if_pos h2] at h ⊢
   cases sub with
   | none=>exact absurd h (show (8:Nat)≠0 by decide)
   | some f =>
    simp only at h ⊢
    obtain ⟨a1,a2,a3⟩:=shutF_prog h
    rw [a3]
    have h4:=expr_good (hs f rfl).1 (hs f rfl).2 _ a1
    exact goodR_mono _ _ _ (Nat.add_le_add_left (opens_le _).2.1 d) h4
  ·rw [if_neg h2] at h ⊢
   by_cases h3:(opOf s).2=[]∧stands [33] s=true
   ·rw [if_pos h3] at h ⊢
    cases sub with
    | none=>exact absurd h (show (8:Nat)≠0 by decide)
    | some f =>
     simp only at h ⊢
     obtain ⟨a1,a2⟩:=notF_prog h
     rw [a2]
     have h5:=(hs f rfl).2 _ a1
     generalize (f (blanks (s.drop 1))).2.2=x at h5 ⊢
     show goodR (.mk 11 noVer [x]) (d+opens 9 11)=true
     have e:d+opens 9 11+opens 11 x.kind=d+1+opens 9 x.kind:=by
      rw [(opens_le x.kind).2.2]
      have:opens 9 11=0:=by decide
      omega
     rw [goodR_eq,goodL_cons,e,h5,decide_eq_true (show d+opens 9 11≤64 from hd)]
     rfl
   ·rw [if_neg h3] at h ⊢
    exact ver_good (opOf_kind s).1 (opOf_kind s).2 hd _ h
theorem pone_good:∀ (k:Nat),k≤64→∀ (s:List UInt8),(pone k s).1=0→goodR (pone k s).2.2 (64 - k+opens 9 (pone k s).2.2.kind)=true
 | 0,_,s,h=>oneF_good (Nat.le_refl _) (fun f e=>by cases e) s h
 | k+1,hk,s,h=>oneF_good (d:=64 - (k+1)) (by omega) (fun f e=>by
   injection e with e
   subst e
   refine ⟨by omega,fun s hs=>?_⟩
   have:=pone_good k (by omega) s hs
   rw [show 64 - (k+1)+1=64 - k by omega]; exact this) s h
theorem read_good {s:List UInt8} (h:(exprF (pone 64) s).1=0):goodR (exprF (pone 64) s).2.2 0=true:=expr_good (d:=0) (by omega) (fun s h=>pone_good 64 (Nat.le_refl _) s h) s h

theorem vtext_pos (v:Ver):2≤(vtext v).length:=by unfold vtext; simp only [List.length_append,List.length_singleton]; omega
theorem textL_append (o:Int) (m:Nat):∀ (a b:List Rng) (i:Nat),i+a.length≤m→textL o m (a ++ b) i=textL o m a i ++ textL o m b (i+a.length)
 | [],b,i,_=>by simp [textL]
 | r :: a,b,i,h=>by
  rw [List.length_cons] at h
  rw [List.cons_append,textL_cons,textL_cons,if_pos (by omega),if_pos (by omega),textL_append o m a b (i+1) (by omega),List.length_cons,show i+1+a.length=i+(a.length+1) by omega]
  simp only [List.append_assoc]
theorem textL_more (o:Int) (m m':Nat):∀ (a:List Rng) (i:Nat),i+a.length≤m→i+a.length≤m'→textL o m a i=textL o m' a i
 | [],_,_,_=>by simp [textL]
 | r :: a,i,h,h'=>by
  rw [List.length_cons] at h h'
  rw [textL_cons,textL_cons,if_pos (by omega),if_pos (by omega),textL_more o m m' a (i+1) (by omega) (by omega)]
theorem brk_len (o k:Int):(openR o k).length+(shutR o k).length=2 * (if bracketed o k=true then 1 else 0):=by
 unfold openR shutR; split <;> simp
theorem brk_le (o k:Int):(openR o k).length≤1∧(shutR o k).length≤1:=by
 unfold openR shutR; split <;> simp
theorem ahead_le (o k:Int) (i:Nat):(aheadR o k i).length≤4:=by
 unfold aheadR; split <;> (try split) <;> (try split) <;> simp
theorem ahead_first {o:Int} (k:Int) (h:o=9∨o=10):aheadR o k 0=[]:=by
 unfold aheadR; rw [if_neg (by rintro ⟨h1,_⟩; omega),if_pos rfl]
def longL (o:Int) (acc:List Rng):Nat:=(textL o acc.length acc 0).length
theorem longL_snoc (o:Int) (acc:List Rng) (r:Rng):longL o (acc ++ [r])=longL o acc+(aheadR o r.kind acc.length).length+((openR o r.kind).length+(textR r).length+(shutR o r.kind).length):=by
 unfold longL
 rw [List.length_append,List.length_singleton,textL_append _ _ _ _ _ (by omega),textL_more o (acc.length+1) acc.length acc 0 (by omega) (by omega),Nat.zero_add,textL_cons,if_pos (by omega)]
 simp only [List.length_append,textL,List.length_nil]; omega
theorem whole_long {kind:Int} (hk:kind=9∨kind=10) (acc:List Rng) (r:Rng) (h:acc≠[]):(textR (whole kind acc r)).length=longL kind (acc ++ [r]):=by
 unfold whole
 rw [if_neg h,textR_eq]
 have e1:markR kind noVer=[]:=by unfold markR; rw [if_neg (by omega),if_pos hk]
 have e2:most kind (acc ++ [r]).length=(acc ++ [r]).length:=by unfold most; rw [if_pos hk]
 rw [e1,e2]; rfl
def Short (pf:List UInt8→Out) (o:Int):Prop:=∀ s,(pf s).1=0→(openR o (pf s).2.2.kind).length+(textR (pf s).2.2).length+(shutR o (pf s).2.2.kind).length+4+6 * (pf s).2.1.length≤6 * s.length
theorem sev_short {pf:List UInt8→Out} {ff:List UInt8→Option (List UInt8)} {kind:Int} (hk:kind=9∨kind=10) (b:Int→Nat) (hb:∀ k,b k≤(openR kind k).length+(shutR kind k).length) (hb0:b kind=0) (hp:Short pf kind) (hf:Falls ff):∀ (n:Nat) (acc:List Rng) (s:List UInt8),(sev pf ff kind n acc s).1=0 →
  b (sev pf ff kind n acc s).2.2.kind+(textR (sev pf ff kind n acc s).2.2).length+4+6 * (sev pf ff kind n acc s).2.1.length≤longL kind acc+(if acc=[] then 0 else 4)+6 * s.length
 | 0,_,_,h=>by rw [sev] at h; exact absurd h (by simp)
 | n+1,acc,s,h=>by
  by_cases h0:(pf s).1=0
  ·have h1:=hp s h0
   have h4:=longL_snoc kind acc (pf s).2.2
   have h5:=ahead_le kind (pf s).2.2.kind acc.length
   have h6:(aheadR kind (pf s).2.2.kind acc.length).length≤(if acc=[] then 0 else 4):=by
    by_cases h7:acc=[]
    ·subst h7; rw [List.length_nil,ahead_first _ hk]; simp
    ·rw [if_neg h7]; exact h5
   cases h2:ff (pf s).2.1 with
   | some s' =>
    rw [sev_on h0 h2] at h ⊢
    have:=sev_short hk b hb hb0 hp hf n _ s' h
    rw [if_neg (by simp)] at this
    have:=hf _ _ h2
    omega
   | none =>
    rw [sev_end h0 h2]
    show b (whole kind acc (pf s).2.2).kind+(textR (whole kind acc (pf s).2.2)).length+4+6 * (pf s).2.1.length≤_
    by_cases h7:acc=[]
    ·subst h7
     have:=hb (pf s).2.2.kind
     unfold whole
     rw [if_pos rfl,if_pos rfl]; omega
    ·have e:(whole kind acc (pf s).2.2).kind=kind:=by unfold whole; rw [if_neg h7]; rfl
     rw [e,hb0,whole_long hk acc _ h7]; omega
  ·rw [sev_bad h0] at h; exact absurd h h0
theorem every_short {pf:List UInt8→Out} (hp:Short pf 9):Short (everyF pf) 10:=by
 intro s h
 have:=sev_short (.inl rfl) (fun k=>(openR 10 k).length+(shutR 10 k).length) (fun k=>by
  rw [brk_len,brk_len]
  unfold bracketed
  by_cases h1:k=10 <;> by_cases h2:k=9 <;> simp [h1,h2]) rfl hp furO_piece.falls (s.length+1) [] s h
 rw [if_pos rfl] at this
 have e:longL 9 []=0:=rfl
 rw [e] at this
 show (openR 10 (sev pf furO 9 (s.length+1) [] s).2.2.kind).length+(textR (sev pf furO 9 (s.length+1) [] s).2.2).length+(shutR 10 (sev pf furO 9 (s.length+1) [] s).2.2.kind).length+4+6 * (sev pf furO 9 (s.length+1) [] s).2.1.length≤_
 omega
theorem expr_short {pf:List UInt8→Out} (hp:Short pf 9) (s:List UInt8) (h:(exprF pf s).1=0):(textR (exprF pf s).2.2).length+4+6 * (exprF pf s).2.1.length≤6 * s.length:=by
 have:=sev_short (.inr rfl) (fun _=>0) (fun _=>Nat.zero_le _) rfl (every_short hp) furE_piece.falls (s.length+1) [] s h
 rw [if_pos rfl] at this
 have e:longL 10 []=0:=rfl
 rw [e] at this
 show (textR (sev (everyF pf) furE 10 (s.length+1) [] s).2.2).length+4+6 * (sev (everyF pf) furE 10 (s.length+1) [] s).2.1.length≤_
 omega
theorem op_len (kind:Int):(ops.getD (kind - 1).toNat []).length≤2:=by
 unfold ops
 generalize (kind - 1).toNat=k
 match k with
 | 0 | 1 | 2 | 3 | 4 | 5 | 6 | 7=>decide
 | k+8=>exact Nat.zero_le _
theorem text_ver {kind:Int} (h1:1≤kind) (h2:kind≤8) (v:Ver) (l:List Rng):textR (.mk kind v l)=ops.getD (kind - 1).toNat [] ++ vtext v:=by
 rw [textR_eq]
 have e:most kind l.length=0:=by unfold most; rw [if_neg (by omega),if_neg (by omega)]
 have e2:∀ (l:List Rng),textL kind 0 l 0=[]:=by intro l; cases l <;> simp [textL]
 rw [e,e2,List.append_nil]
 unfold markR
 rw [if_neg (by omega),if_neg (by omega),if_neg (by omega),if_pos (ver_kind h1 h2).1]
theorem no_brk {o k:Int} (h:bracketed o k=false):openR o k=[]∧shutR o k=[]:=by unfold openR shutR; rw [h]; simp
theorem ver_brk (o:Int) {kind:Int} (h1:1≤kind) (h2:kind≤8):bracketed o kind=false:=by
 have a:kind≠10:=by omega
 have b:kind≠9:=by omega
 unfold bracketed; simp [a,b]
theorem ver_short {kind:Int} (h1:1≤kind) (h2:kind≤8):Short (verAt kind) 9:=by
 intro s h
 obtain ⟨_,h4,h5⟩:=verAt_ok h
 obtain ⟨⟨f,q,v⟩,hk⟩:∃ t,vparse s 0=t:=⟨_,rfl⟩
 have hq:=vparse_end s 0
 rw [hk] at h4 h5 hq
 have h4':f=0:=h4
 subst h4'
 have hg:=congrArg List.length (vparse_read hk).2
 have hv:=vtext_pos v
 have hb:=blanks_len (s.drop q)
 have ho:=op_len kind
 rw [List.length_append,List.length_drop] at hg
 rw [List.length_drop] at hb
 rw [h5]
 show (openR 9 kind).length+(textR (.mk kind v [])).length+(shutR 9 kind).length+4+6 * (blanks (s.drop q)).length≤_
 rw [text_ver h1 h2,(no_brk (ver_brk 9 h1 h2)).1,(no_brk (ver_brk 9 h1 h2)).2,List.length_append]
 have hq':q≤s.length:=hq
 have e0:([]:List UInt8).length=0:=rfl
 omega
theorem oneF_short {sub:Option (List UInt8→Out)} (hs:∀ f,sub=some f→Short f 9):Short (oneF sub) 9:=by
 intro s h
 unfold oneF at h ⊢
 by_cases h1:stands [42] s=true
 ·rw [if_pos h1]
  have h2:=blanks_len (s.drop 1)
  have h3:=stands_len h1
  rw [List.length_drop] at h2
  simp only [List.length_singleton] at h3
  show 0+1+0+4+6 * (blanks (s.drop 1)).length≤_
  omega
 ·rw [if_neg h1] at h ⊢
  by_cases h2:stands [40] s=true
  ·rw [if_pos h2] at h ⊢
   cases sub with
   | none=>exact absurd h (show (8:Nat)≠0 by decide)
   | some f =>
    simp only at h ⊢
    obtain ⟨a1,a2,a3⟩:=shutF_prog h
    rw [a3]
    have h4:=expr_short (hs f rfl) _ a1
    have h5:=blanks_len (s.drop 1)
    have h6:=stands_len h2
    have h7:=blanks_len ((exprF f (blanks (s.drop 1))).2.1.drop 1)
    have h8:=stands_len a2
    have h9:=brk_le 9 (exprF f (blanks (s.drop 1))).2.2.kind
    rw [List.length_drop] at h5 h7
    simp only [List.length_singleton] at h6 h8
    simp only
    omega
  ·rw [if_neg h2] at h ⊢
   by_cases h3:(opOf s).2=[]∧stands [33] s=true
   ·rw [if_pos h3] at h ⊢
    cases sub with
    | none=>exact absurd h (show (8:Nat)≠0 by decide)
    | some f =>
     simp only at h ⊢
     obtain ⟨a1,a2⟩:=notF_prog h
     rw [a2]
     have h4:=hs f rfl _ a1
     have h5:=blanks_len (s.drop 1)
     have h6:=stands_len h3.2
     rw [List.length_drop] at h5
     simp only [List.length_singleton] at h6
     generalize (f (blanks (s.drop 1))).2.2=x at h4 ⊢
     generalize (f (blanks (s.drop 1))).2.1=y at h4 ⊢
     have e:textR (.mk 11 noVer [x])=[33] ++ (aheadR 11 x.kind 0 ++ (openR 11 x.kind ++ textR x ++ shutR 11 x.kind)):=by
      rw [textR_eq,textL_cons]; simp [markR,most,textL]
     have h7:(aheadR 11 x.kind 0).length≤1:=by unfold aheadR; split <;> simp
     have h8:=brk_len 11 x.kind
     have h9:=brk_len 9 x.kind
     have h10:bracketed 11 x.kind=bracketed 9 x.kind:=by unfold bracketed; simp
     rw [h10] at h8
     show 0+(textR (.mk 11 noVer [x])).length+0+4+6 * y.length≤_
     rw [e]
     simp only [List.length_append,List.length_singleton]
     omega
   ·rw [if_neg h3] at h ⊢
    have h4:=ver_short (opOf_kind s).1 (opOf_kind s).2 _ h
    have h5:=blanks_len (s.drop (opOf s).2.length)
    rw [List.length_drop] at h5
    omega
theorem pone_short:∀ k,Short (pone k) 9
 | 0=>oneF_short fun f h=>by cases h
 | k+1=>oneF_short fun f h=>by injection h with h; rw [← h]; exact pone_short k
theorem read_short {s:List UInt8} (h:(exprF (pone 64) s).1=0):(textR (exprF (pone 64) s).2.2).length≤6 * s.length:=by
 have:=expr_short (pone_short 64) s h
 omega
end Go.Proofs.YtgakcdcfblgagaaDoor.Range
namespace Go.Proofs.YtgakcdcfblgagaaDoor.Span
open Go.RowKit Num Ident Semver Prec

structure Edge where
 cut:Cut
 step:Int
def times (l:List Sp) (c:Cut):Nat:=(l.filter fun s=>cnt s && (decide (stand s.lo c≤0) && decide (stand c s.hi<0))).length

def go (n:Int):Cut→Bool→Int→Cut→List Edge→List Sp
 | _,_,_,_,[]=>[]
 | cut,was,t,lo,[e] =>
  if was=true∧¬ n≤t+e.step then [⟨lo,cut⟩] else []
 | cut,was,t,lo,e :: f :: r =>
  if stand cut f.cut=0 then go n cut was (t+e.step) lo (f :: r)
  else if n≤t+e.step∧was=false then go n f.cut true (t+e.step) cut (f :: r)
  else if was=true∧¬ n≤t+e.step then ⟨lo,cut⟩ :: go n f.cut false (t+e.step) lo (f :: r)
  else go n f.cut was (t+e.step) lo (f :: r)

structure Open (cut:Cut) (was:Bool) (lo:Cut) (out:List Sp):Prop where
 norm:Norm out
 yes:was=true→∃ h r,out=⟨lo,h⟩ :: r∧stand cut h≤0∧∀ s ∈ r,stand cut s.lo<0
 no:was=false→∀ s ∈ out,stand cut s.lo≤0


end Go.Proofs.YtgakcdcfblgagaaDoor.Span
