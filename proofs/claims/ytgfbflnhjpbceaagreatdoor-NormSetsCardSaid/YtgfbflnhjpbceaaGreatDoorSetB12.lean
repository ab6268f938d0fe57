/-
  What the theorem of the last text needs of these: RgPass, RgTell, PrCaret, RgBack. Conditions: as each theorem states.
-/
import Derived.Test.YtgfbflnhjpbceaaGreatDoorSetB1
import Derived.Test.YtgfbflnhjpbceaaGreatDoorSetB2
import Derived.Test.YtgfbflnhjpbceaaGreatDoorSetB7
import Derived.Test.YtgfbflnhjpbceaaGreatDoorSetB10
import Derived.Test.YtgfbflnhjpbceaaGreatDoorSetB11
import Derived.Test.YtgfbflnhjpbceaaGreatDoorShelfPre
import Derived.StillTailTactics
import Derived.Deep.QuietTactic
import Derived.BigQuiet
import Derived.Deep.RegionHeld3
import Derived.Deep.CutBlock
import Derived.Deep.DeepCutAuto
set_option maxRecDepth 100000
set_option maxHeartbeats 25600000
namespace Go.Proofs.YtgfbflnhjpbceaaGreatDoor.Range
open Go.RowKit Num Ident Semver

def PsJ (w:World) (b:Nat) (A:Option Addr) (n c k:Nat) (l s:List UInt8) (a':Act) (w':World):Prop :=
 ∃ (q:Nat) (t:List UInt8) (u2 u3 u4 u5 u6 u7 u8 u9 u10 u11 u12 u13 u14 u15 u16 u17 u18 u19 u20 u21 u22 u23 u24 u25 u26 u27 u28 u29 u30 u31 u32 u33 u34 u35 u36 u37 u38 u39 u40 u41 u42 u43 u44 u45 u46 u47 u48 u49 u50 u51 u52 u53 u54:Value),Rd w' b A n c q∧Pl l q t∧blanks t=s∧Moved b w w' ∧
  a'={ tmps:=#[.pointer (some ⟨b,0,none⟩),.int .i64 k,u2,u3,u4,u5,u6,u7,u8,u9,u10,u11,u12,u13,u14,u15,u16,u17,u18,u19,u20,u21,u22,u23,u24,u25,u26,u27,u28,u29,u30,u31,u32,u33,u34,u35,u36,u37,u38,u39,u40,u41,u42,u43,u44,u45,u46,u47,u48,u49,u50,u51,u52,u53,u54],defers:=[] }
def PsM (b n:Nat) (_:Act) (w':World):Nat:=n - (intOf ((w'.cell? ⟨b,1,none⟩).getD undef)).toNat
theorem pl_next {l t:List UInt8} {q:Nat} (h:Pl l q t) (hq:q<l.length):t=l.getD q 0 :: l.drop (q+1):=by rw [h.eq,drop_getD l q hq]
theorem blank_at {l:List UInt8} {q:Nat} (h:byteAt l q=32∨byteAt l q=9):blankB (l.getD q 0)=true:=by
 unfold byteAt at h
 have e:l.getD q 0=32∨l.getD q 0=9:=by
  rcases h with h | h
  ·left; exact UInt8.toNat_inj.1 (show (l.getD q 0).toNat=32 by omega)
  ·right; exact UInt8.toNat_inj.1 (show (l.getD q 0).toNat=9 by omega)
 unfold blankB
 rcases e with e | e <;> rw [e] <;> decide
theorem blank_not {l:List UInt8} {q:Nat} (h1:byteAt l q≠32) (h2:byteAt l q≠9):blankB (l.getD q 0)=false:=by
 unfold byteAt at h1 h2
 unfold blankB
 have e1:l.getD q 0≠32:=fun e=>h1 (by rw [e]; rfl)
 have e2:l.getD q 0≠9:=fun e=>h2 (by rw [e]; rfl)
 rw [beq_eq_false_iff_ne.2 e1,beq_eq_false_iff_ne.2 e2]; rfl
theorem psM_less {w w':World} {b n c c' p q:Nat} {A A':Option Addr} {a a':Act} (h':Rd w' b A' n c' q) (h:Rd w b A n c p) (hl:p<q∧p<n):PsM b n a' w'<PsM b n a w:=by
 unfold PsM
 rw [h'.at_,h.at_]
 simp only [Option.getD_some,intOf]
 omega
theorem pass_any (b:Nat) (A:Option Addr) (n c p k:Nat) (l s:List UInt8) (w:World) (hR:Rd w b A n c p) (hr:Row w A n l) (hs:Pl l p s) (hk:p+k≤n) :
  Calls Tryz.prog 87 #[.pointer (some ⟨b,0,none⟩),.int .i64 k] w fun e w'=>e=.returned (.tuple #[])∧∃ q,Pl l q (blanks (s.drop k))∧Rd w' b A n c q∧Moved b w w':=by
 have hm:=hr.2.1
 unfold maxLen at hm
 have HL:=Lib.hid hr.1
 have HR:=Lib.hid hR
 have HRow:=Lib.hid hr
 have HS:=Lib.hid hs
 obtain ⟨hlt,hfr,hx0,hx1,_⟩:=hR
 clear hr hs
 go_enter Tryz.func87,Tryz.ntmps87
 go_wp2
 refine wp_scope_back 0 (PsJ w b A n c k l (blanks (s.drop k))) (PsM b n) rfl ?_ ?_
 ·rintro a' w1 ⟨q,t,u2,u3,u4,u5,u6,u7,u8,u9,u10,u11,u12,u13,u14,u15,u16,u17,u18,u19,u20,u21,u22,u23,u24,u25,u26,u27,u28,u29,u30,u31,u32,u33,u34,u35,u36,u37,u38,u39,u40,u41,u42,u43,u44,u45,u46,u47,u48,u49,u50,u51,u52,u53,u54,hR1,hp1,hb1,hm1,rfl⟩
  have HK:=Lib.hid (HR.out.keep hm1)
  have HRow1:=Lib.hid (row_keep HRow.out HK.out)
  have HP1:=Lib.hid hp1
  have HB1:=Lib.hid hb1
  have HM1:=Lib.hid hm1
  have HR1:=Lib.hid hR1
  have hqn:q≤n:=by have:=hp1.le; rw [HL.out] at this; exact this
  clear hp1 hb1 hm1 hlt hfr hx0 hx1
  obtain ⟨hlt,hfr,hx0,hx1,_⟩:=hR1
  by_cases h1:q<n
  ·obtain ⟨g,o,rfl,hg,hcell⟩:=HRow1.out.2.2 (by omega)
   have hx:=hcell q h1
   have HBl:=Lib.hid (blank_at (l:=l) (q:=q))
   have HBn:=Lib.hid (blank_not (l:=l) (q:=q))
   have HT:=Lib.hid (pl_next HP1.out (by rw [HL.out]; exact h1))
   have hbd:=byteAt_bd l q
   clear hcell
   generalize byteAt l q=x at hx HBl HBn hbd
   have hk1:(q:Int)<(n:Int):=by omega
   have HNext:Hid (blankB (l.getD q 0)=true→blanks (l.drop (q+1))=blanks (s.drop k)):=fun hb=>by rw [← HB1.out,HT.out,blanks_yes _ hb]
   have HEnd:Hid (blankB (l.getD q 0)=false→t=blanks (s.drop k)):=fun hb=>by rw [← HB1.out,HT.out,blanks_no _ hb]
   have HPn:Hid (Pl l (q+1) (l.drop (q+1))):=⟨by rw [HL.out]; omega,rfl⟩
   by_cases h32:x=32
   ·have HBL:=Lib.hid (HBl.out (.inl h32))
    have hb2:(x == 32)=true:=by simp [h32]
    clear h32 HBl HBn
    go_wp2_with fail
    go_quiet (fail)
    go_wp2
    go_step3
    refine ⟨rfl,⟨q+1,l.drop (q+1),_,_,_,_,_,_,_,_,_,_,_,_,_,_,_,_,_,_,_,_,_,_,_,_,_,_,_,_,_,_,_,_,_,_,_,_,_,_,_,_,_,_,_,_,_,_,_,_,_,_,_,_,_,(HR1.out.drewN _).move (q+1),HPn.out,HNext.out HBL.out,(HM1.out.drewN _).move _,rfl⟩,?_⟩
    exact psM_less ((HR1.out.drewN _).move (q+1)) HR1.out (by omega)
   ·have hb2:(x == 32)=false:=by simp [h32]
    by_cases h9:x=9
    ·have HBL:=Lib.hid (HBl.out (.inr h9))
     have hb3:(x == 9)=true:=by simp [h9]
     clear h32 h9 HBl HBn
     go_wp2_with fail
     go_quiet (fail)
     go_wp2
     go_step3
     refine ⟨rfl,⟨q+1,l.drop (q+1),_,_,_,_,_,_,_,_,_,_,_,_,_,_,_,_,_,_,_,_,_,_,_,_,_,_,_,_,_,_,_,_,_,_,_,_,_,_,_,_,_,_,_,_,_,_,_,_,_,_,_,_,_,(HR1.out.drewN _).move (q+1),HPn.out,HNext.out HBL.out,(HM1.out.drewN _).move _,rfl⟩,?_⟩
     exact psM_less ((HR1.out.drewN _).move (q+1)) HR1.out (by omega)
    ·have HBN:=Lib.hid (HBn.out h32 h9)
     have hb3:(x == 9)=false:=by simp [h9]
     clear h32 h9 HBl HBn
     go_wp2_with fail
     go_quiet (fail)
     go_wp2
     simp only [Exit.jump]
     go_end0
     exact ⟨rfl,q,HEnd.out HBN.out ▸ HP1.out,HR1.out.drewN _,HM1.out.drewN _⟩
  ·have hk1:decide ((q:Int)<(n:Int))=false:=by simp; omega
   have HEnd:Hid (t=blanks (s.drop k)):=by
    have e:t=[]:=by rw [HP1.out.eq]; exact List.drop_eq_nil_of_le (by rw [HL.out]; omega)
    unfold Hid; rw [← HB1.out,e]; rfl
   go_wp2_with fail
   go_quiet (fail)
   go_wp2
   simp only [Exit.jump]
   go_end0
   exact ⟨rfl,q,HEnd.out ▸ HP1.out,HR1.out.drewN _,HM1.out.drewN _⟩
 ·intro HP
  go_wp2
  go_step3
  rename_i hK
  exact hK _ _ (HP.out _ _ ⟨p+k,s.drop k,_,_,_,_,_,_,_,_,_,_,_,_,_,_,_,_,_,_,_,_,_,_,_,_,_,_,_,_,_,_,_,_,_,_,_,_,_,_,_,_,_,_,_,_,_,_,_,_,_,_,_,_,_,HR.out.move (p+k),HS.out.drop (by rw [HL.out]; exact hk),rfl,Moved.at_ _,rfl⟩)
end Go.Proofs.YtgfbflnhjpbceaaGreatDoor.Range
namespace Go.Proofs.YtgfbflnhjpbceaaGreatDoor.Range
open Go.RowKit Num Ident Semver

theorem ofVersion_any (k:Int) (w:World):Calls Tryz.prog 90 #[.int .i64 k] w fun e w'=>e=.returned (.bool (ofVersion k))∧w'=w:=by
 unfold ofVersion
 go_enter Tryz.func90,Tryz.ntmps90
 by_cases h1:1≤k
 ·by_cases h2:k≤8
  ·go_wp2; go_ret
   exact ⟨by simp [h1,h2],rfl⟩
  ·go_wp2; go_ret
   exact ⟨by simp [h2],rfl⟩
 ·go_wp2; go_ret
  exact ⟨by simp; omega,rfl⟩
theorem bracketed_any (o k:Int) (w:World):Calls Tryz.prog 55 #[.int .i64 o,.int .i64 k] w fun e w'=>e=.returned (.bool (bracketed o k))∧w'=w:=by
 unfold bracketed
 go_enter Tryz.func55,Tryz.ntmps55
 by_cases h1:k=10
 ·go_wp2; go_ret
  exact ⟨by simp [h1],rfl⟩
 ·by_cases h2:k=9
  ·by_cases h3:o=10
   ·go_wp2; go_ret
    exact ⟨by simp [h2,h3],rfl⟩
   ·go_wp2; go_ret
    exact ⟨by simp [h2,h3],rfl⟩
  ·go_wp2; go_ret
   exact ⟨by simp [h1,h2],rfl⟩
theorem opens_any (o k:Int) (w:World):Calls Tryz.prog 78 #[.int .i64 o,.int .i64 k] w fun e w'=>e=.returned (.int .i64 (opens o k))∧w'=w:=by
 have HO:Hid (opens o k=(if o=11 then 1 else 0)+(if bracketed o k=true then 1 else 0)):=rfl
 go_enter Tryz.func78,Tryz.ntmps78
 by_cases h1:o=11
 ·subst h1
  go_wp2_with fail
  refine (bracketed_any 11 k _).mono ?_
  rintro e w' ⟨rfl,rfl⟩
  cases hb:bracketed 11 k with
  | true=>go_wp2; go_ret; exact ⟨by rw [HO.out,hb]; rfl,rfl⟩
  | false=>go_wp2; go_ret; exact ⟨by rw [HO.out,hb]; rfl,rfl⟩
 ·go_wp2_with fail
  refine (bracketed_any o k _).mono ?_
  rintro e w' ⟨rfl,rfl⟩
  cases hb:bracketed o k with
  | true=>go_wp2; go_ret; exact ⟨by rw [HO.out,hb,if_neg h1]; rfl,rfl⟩
  | false=>go_wp2; go_ret; exact ⟨by rw [HO.out,hb,if_neg h1]; rfl,rfl⟩
theorem within_any (b o:Nat) (x:RV) (w:World) (hc:CellsAt w b o x) (hn:x.n≤x.e) (hk:(x.kind=9∨x.kind=10)∨x.kind=11∧x.n=1∨(x.kind≠9∧x.kind≠10∧x.kind≠11)∧x.n=0) :
  Calls Tryz.prog 53 #[.pointer (some ⟨b,o,none⟩)] w fun e w'=>(∃ A c,e=.returned (.slice A x.n c)∧x.n≤c∧(0<x.n→A=x.L))∧Below w.heap.size w w':=by
 obtain ⟨x0,x1,x2,x3,x4,x5,x6⟩:=hc.cells
 obtain ⟨kind,v,A,c,B,d,L,n,e⟩:=x
 simp only at x0 x1 x2 x3 x4 x5 x6 hn hk ⊢
 go_enter Tryz.func53,Tryz.ntmps53
 rcases hk with (rfl | rfl) | ⟨rfl,rfl⟩ | ⟨⟨h1,h2,h3⟩,rfl⟩
 ·go_wp2; go_ret
  exact ⟨⟨L,e,rfl,hn,fun _=>rfl⟩,Below.refl _ _⟩
 ·go_wp2; go_ret
  exact ⟨⟨L,e,rfl,hn,fun _=>rfl⟩,Below.refl _ _⟩
 ·go_upto_region 6 with (fail)
  go_region
  go_wp2; go_ret
  exact ⟨⟨L,e,rfl,hn,fun _=>rfl⟩,(Below.refl w.heap.size w).drew⟩
 ·go_wp2; go_ret
  exact ⟨⟨none,0,rfl,Nat.le_refl _,fun h=>absurd h (Nat.lt_irrefl _)⟩,Below.refl _ _⟩
theorem ahead_any (g o:Nat) (b p:Nat) (outer k:Int) (i:Nat) (w:World) (h0:w.cell? ⟨g,o,none⟩=some (.pointer (some ⟨b,p,none⟩))) (h1:w.cell? ⟨g,o+1,none⟩=some (.int .i64 i)) (h2:w.cell? ⟨b,p,none⟩=some (.int .i64 outer)) :
  Calls Tryz.prog 54 #[.pointer (some ⟨g,o,none⟩),.int .i64 k] w fun e w'=>e=.returned (.string (mk (aheadR outer k i)))∧w'=w:=by
 unfold aheadR
 go_enter Tryz.func54,Tryz.ntmps54
 by_cases a1:outer=11∧k=5
 ·obtain ⟨rfl,rfl⟩:=a1
  go_wp2; go_ret
  exact ⟨rfl,rfl⟩
 ·rw [if_neg a1]
  have a2:outer=11→¬ k=5:=fun h h'=>a1 ⟨h,h'⟩
  clear a1
  by_cases a3:i=0
  ·subst a3
   by_cases a4:outer=11
   ·have a5:=a2 a4
    go_wp2; go_ret
    exact ⟨rfl,rfl⟩
   ·go_wp2; go_ret
    exact ⟨rfl,rfl⟩
  ·rw [if_neg a3]
   have a3':¬ (i:Int)=0:=by omega
   by_cases a4:outer=11
   ·have a5:=a2 a4
    subst a4
    go_wp2; go_ret
    exact ⟨rfl,rfl⟩
   ·by_cases a6:outer=10
    ·subst a6
     go_wp2; go_ret
     exact ⟨rfl,rfl⟩
    ·rw [if_neg a6]
     go_wp2; go_ret
     exact ⟨rfl,rfl⟩
end Go.Proofs.YtgfbflnhjpbceaaGreatDoor.Range
namespace Go.Proofs.YtgfbflnhjpbceaaGreatDoor.Prec
open Go.RowKit Num Ident Semver

theorem EndPost.of_none {w:World} {e:Ending} {w':World} (h:NoneZ w e w'):EndPost w none e w':=by
 obtain ⟨rfl,hb⟩:=h
 exact ⟨none,0,rfl,SRow.none_ _ _,rfl,hb⟩
theorem EndPost.of_end {w:World} {x y z:Nat} {p q r:Int} {e:Ending} {w':World} (h:EndZ w p q r e w') (hp:p=(x:Int)) (hq:q=(y:Int)) (hr:r=(z:Int)):EndPost w (some (firstV x y z)) e w':=by
 subst hp hq hr
 obtain ⟨A,rfl,h1,hb⟩:=h
 exact ⟨A,1,rfl,h1,rfl,hb⟩
theorem end_0_no {x y z:Nat} (h:(9223372036854775807:Int)≤(x:Int)):endV x y z 0=none:=by unfold endV; rw [if_pos rfl,if_pos (by omega)]
theorem end_0_yes {x y z:Nat} (h:(x:Int)<9223372036854775807):endV x y z 0=some (firstV (x+1) 0 0):=by unfold endV; rw [if_pos rfl,if_neg (by omega)]
theorem end_1_no {x y z:Nat} (h:(9223372036854775807:Int)≤(y:Int)):endV x y z 1=none:=by unfold endV; rw [if_neg (by omega),if_pos rfl,if_pos (by omega)]
theorem end_1_yes {x y z:Nat} (h:(y:Int)<9223372036854775807):endV x y z 1=some (firstV x (y+1) 0):=by unfold endV; rw [if_neg (by omega),if_pos rfl,if_neg (by omega)]
theorem end_2_no {x y z:Nat} (h:(9223372036854775807:Int)≤(z:Int)):endV x y z 2=none:=by unfold endV; rw [if_neg (by omega),if_neg (by omega),if_pos (by omega)]
theorem end_2_yes {x y z:Nat} (h:(z:Int)<9223372036854775807):endV x y z 2=some (firstV x y (z+1)):=by unfold endV; rw [if_neg (by omega),if_neg (by omega),if_neg (by omega)]
theorem endAt_0 (x y z:Nat) (w:World):Calls Tryz.prog 124 #[.agg #[.int .u64 x,.int .u64 y,.int .u64 z],.int .i64 0] w (EndPost w (endV x y z 0)):=by
 by_cases h:(9223372036854775807:Int)≤(x:Int)
 ·rw [end_0_no h]
  exact (endNo0 x y z w h).mono fun e w' hk=>EndPost.of_none hk
 ·rw [end_0_yes (by omega)]
  exact (endAt0 x y z w (by omega) (by omega)).mono fun e w' hk=>EndPost.of_end hk (by omega) (by omega) (by omega)
theorem endAt_1 (x y z:Nat) (w:World):Calls Tryz.prog 124 #[.agg #[.int .u64 x,.int .u64 y,.int .u64 z],.int .i64 1] w (EndPost w (endV x y z 1)):=by
 by_cases h:(9223372036854775807:Int)≤(y:Int)
 ·rw [end_1_no h]
  exact (endNo1 x y z w h).mono fun e w' hk=>EndPost.of_none hk
 ·rw [end_1_yes (by omega)]
  exact (endAt1 x y z w (by omega) (by omega)).mono fun e w' hk=>EndPost.of_end hk (by omega) (by omega) (by omega)
theorem endAt_2 (x y z:Nat) (w:World):Calls Tryz.prog 124 #[.agg #[.int .u64 x,.int .u64 y,.int .u64 z],.int .i64 2] w (EndPost w (endV x y z 2)):=by
 by_cases h:(9223372036854775807:Int)≤(z:Int)
 ·rw [end_2_no h]
  exact (endNo2 x y z w h).mono fun e w' hk=>EndPost.of_none hk
 ·rw [end_2_yes (by omega)]
  exact (endAt2 x y z w (by omega) (by omega)).mono fun e w' hk=>EndPost.of_end hk (by omega) (by omega) (by omega)
def EndIs (w:World) (x:Ver) (s:Bool) (e:Ending) (w':World):Prop :=
 ∃ A' c',e=.returned (.tuple #[.agg #[x.a,x.b,x.c,.slice A' x.pre.length c',.slice none x.build.length 0],.bool s])∧SRow w' A' x.pre.length x.pre∧x.build=[]∧Below w.heap.size w w'

theorem tilde_any (v:Ver) (A:Option Addr) (c:Nat) (B:Option Addr) (d:Nat) (w:World) :
  Calls Tryz.prog 100 #[.agg #[v.a,v.b,v.c,.slice A v.pre.length c,.slice B v.build.length d]] w (EndPost w (tildeV v)):=by
 have HB0:Hid (Below w.heap.size w ((w.alloc (.cells #[v.a,v.b,v.c,.slice A v.pre.length c,.slice B v.build.length d] 25)).alloc false)):=((Below.refl _ _).alloc (Nat.le_refl _) _).alloc (by simp) _
 have K1:Hid (At5 ((w.alloc (.cells #[v.a,v.b,v.c,.slice A v.pre.length c,.slice B v.build.length d] 25)).alloc false) w.heap.size v.a v.b v.c (.slice A v.pre.length c) (.slice B v.build.length d)):=(At5.new w 25 _ _ _ _ _).kept ((Below.refl _ _).alloc (Nat.le_refl _) _) (by simp)
 have K2:Hid (At5 ((w.alloc (.cells #[v.a,v.b,v.c,.slice A v.pre.length c,.slice B v.build.length d] 25)).alloc false) (w.heap.size+1) (.int .u64 0) (.int .u64 0) (.int .u64 0) (.slice none 0 0) (.slice none 0 0)):=by
  have:=At5.new (w.alloc (.cells #[v.a,v.b,v.c,.slice A v.pre.length c,.slice B v.build.length d] 25)) 25 (.int .u64 0) (.int .u64 0) (.int .u64 0) (.slice none 0 0) (.slice none 0 0)
  rw [size_alloc] at this; exact this
 have HE:Hid (∀ W,Calls Tryz.prog 124 #[.agg #[v.a,v.b,v.c],.int .i64 1] W (EndPost W (tildeV v))):=fun W=>endAt_1 v.a v.b v.c W
 generalize tildeV v=o at HE ⊢
 have HP':Hid (∀ e w',EndIs w (verOf o) o.isSome e w'→EndPost w o e w'):=fun _ _ h=>h
 go_enter Tryz.func100,Tryz.ntmps100
 go_upto_region 1 with (fail)
 generalize ((w.alloc (.cells #[v.a,v.b,v.c,.slice A v.pre.length c,.slice B v.build.length d] 25)).alloc false)=W at HB0 K1 K2 ⊢
 obtain ⟨hz0,_,x0,x1,x2,x3,x4⟩:=K1.out
 obtain ⟨hz1,_,y0,y1,y2,y3,y4⟩:=K2.out
 go_wp2_with fail
 refine (coreOf_any _ _ _ _ _ _).mono ?_
 rintro e w2 ⟨rfl,hb2⟩
 have L2:=Lib.hid (K2.out.kept hb2 hz1)
 have B1:=Lib.hid (HB0.out.trans (hb2.mono (by omega)))
 have hz2:=L2.out.1
 clear hb2 x0 x1 x2 x3 x4 y0 y1 y2 y3 y4
 obtain ⟨_,_,y0,y1,y2,y3,y4⟩:=L2.out
 go_wp2_with fail
 refine (HE.out _).mono ?_
 rintro e w3 ⟨A',c',rfl,hr,hbu,hb3⟩
 have HU:=Lib.hid hbu
 generalize verOf o=x at hr HU HP' ⊢
 generalize o.isSome=s at HP' ⊢
 have N2:=Lib.hid (L2.out.kept hb3 hz2)
 have B3:=Lib.hid (B1.out.trans (hb3.mono (by omega)))
 obtain ⟨hz3,hf,g0,g1,g2,g3,g4⟩:=N2.out
 have R:=Lib.hid (hr.set5 g0 g1 g2 g3 g4 (by simp) (by simp) (by simp) (by simp) (by simp) x.a x.b x.c (.slice A' x.pre.length c') (.slice none x.build.length 0))
 have B4:Hid (Below w.heap.size w (set5 w3 (w.heap.size+1) x.a x.b x.c (.slice A' x.pre.length c') (.slice none x.build.length 0))):=(((((B3.out.setCell (by simp) _).setCell (by simp) _).setCell (by simp) _).setCell (by simp) _).setCell (by simp) _)
 have N3:=Lib.hid (N2.out.set5 x.a x.b x.c (.slice A' x.pre.length c') (.slice none x.build.length 0))
 clear hr hb3
 unfold set5 at B4 N3
 go_wp2
 generalize (((((w3.setCell ⟨w.heap.size+1,0,none⟩ x.a).setCell ⟨w.heap.size+1,1,none⟩ x.b).setCell ⟨w.heap.size+1,2,none⟩ x.c).setCell ⟨w.heap.size+1,3,none⟩ (.slice A' x.pre.length c')).setCell ⟨w.heap.size+1,4,none⟩ (.slice none x.build.length 0))=w4 at R B4 N3 ⊢
 obtain ⟨_,_,z0,z1,z2,z3,z4⟩:=N3.out
 exact bodyPost_ret (v:=.tuple #[.agg #[x.a,x.b,x.c,.slice A' x.pre.length c',.slice none x.build.length 0],.bool s]) (by simp [results,Tryz.results100,go_sem,z0,z1,z2,z3,z4]) rfl (HP'.out _ _ ⟨A',c',rfl,R.out,HU.out,B4.out⟩)

def CaretAt (v:Ver) (i:Nat):Prop:=i=0∨(i=1∧v.a=0)∨(i=2∧v.a=0∧v.b=0)
def CaretJ (w:World) (v:Ver) (A:Option Addr) (c:Nat) (B:Option Addr) (d:Nat) (a':Act) (w':World):Prop :=
 ∃ (i b:Nat) (u6 u7 u8 u9 u10 u11 u12 u13 u14 u15 u16 u17 u18 u19 u20 u21 u22:Value),Below w.heap.size w w'∧At5 w' (w.heap.size+1) (.int .u64 0) (.int .u64 0) (.int .u64 0) (.slice none 0 0) (.slice none 0 0)∧At3 w' b v.a v.b v.c∧CaretAt v i ∧
  a'={ tmps:=#[.agg #[v.a,v.b,v.c,.slice A v.pre.length c,.slice B v.build.length d],.pointer (some ⟨w.heap.size,0,none⟩),.pointer (some ⟨w.heap.size+1,0,none⟩),.bool false,.pointer (some ⟨b,0,none⟩),.int .i64 i,u6,u7,u8,u9,u10,u11,u12,u13,u14,u15,u16,u17,u18,u19,u20,u21,u22],defers:=[] }
def CaretM (a':Act) (_:World):Nat:=3 - (intOf (a'.tmps.getD 5 undef)).toNat
theorem caret_0 {v:Ver} (h:v.a≠0):caretV v=endV v.a v.b v.c 0:=by unfold caretV placeV; rw [if_pos h]
theorem caret_1 {v:Ver} (h:v.a=0) (h2:v.b≠0):caretV v=endV v.a v.b v.c 1:=by unfold caretV placeV; rw [if_neg (by omega),if_pos h2]
theorem caret_2 {v:Ver} (h:v.a=0) (h2:v.b=0):caretV v=endV v.a v.b v.c 2:=by unfold caretV placeV; rw [if_neg (by omega),if_neg (by omega)]
theorem beq0_no {x:Nat} (h:x≠0):((x:Int) == 0)=false:=by simp; omega
theorem beq0_yes {x:Nat} (h:x=0):((x:Int) == 0)=true:=by simp [h]

theorem caret_any (v:Ver) (A:Option Addr) (c:Nat) (B:Option Addr) (d:Nat) (w:World) :
  Calls Tryz.prog 99 #[.agg #[v.a,v.b,v.c,.slice A v.pre.length c,.slice B v.build.length d]] w (EndPost w (caretV v)):=by
 have HB0:Hid (Below w.heap.size w ((w.alloc (.cells #[v.a,v.b,v.c,.slice A v.pre.length c,.slice B v.build.length d] 25)).alloc false)):=((Below.refl _ _).alloc (Nat.le_refl _) _).alloc (by simp) _
 have K1:Hid (At5 ((w.alloc (.cells #[v.a,v.b,v.c,.slice A v.pre.length c,.slice B v.build.length d] 25)).alloc false) w.heap.size v.a v.b v.c (.slice A v.pre.length c) (.slice B v.build.length d)):=(At5.new w 25 _ _ _ _ _).kept ((Below.refl _ _).alloc (Nat.le_refl _) _) (by simp)
 have K2:Hid (At5 ((w.alloc (.cells #[v.a,v.b,v.c,.slice A v.pre.length c,.slice B v.build.length d] 25)).alloc false) (w.heap.size+1) (.int .u64 0) (.int .u64 0) (.int .u64 0) (.slice none 0 0) (.slice none 0 0)):=by
  have:=At5.new (w.alloc (.cells #[v.a,v.b,v.c,.slice A v.pre.length c,.slice B v.build.length d] 25)) 25 (.int .u64 0) (.int .u64 0) (.int .u64 0) (.slice none 0 0) (.slice none 0 0)
  rw [size_alloc] at this; exact this
 obtain ⟨o,ho⟩:∃ o,caretV v=o:=⟨_,rfl⟩
 have HO:=Lib.hid ho
 rw [ho]
 clear ho
 have HP':Hid (∀ e w',EndIs w (verOf o) o.isSome e w'→EndPost w o e w'):=fun _ _ h=>h
 go_enter Tryz.func99,Tryz.ntmps99
 go_wp2_with fail
 refine wp_scope_back 0 (CaretJ w v A c B d) CaretM rfl ?_ ?_
 ·rintro a' w1 ⟨i,b,u6,u7,u8,u9,u10,u11,u12,u13,u14,u15,u16,u17,u18,u19,u20,u21,u22,hb1,k2,k3,hat,rfl⟩
  have B1:=Lib.hid hb1
  have L2:=Lib.hid k2
  have L3:=Lib.hid k3
  have hz2:=k2.1
  have hz3':=k3.1
  clear hb1
  obtain ⟨_,_,x0,x1,x2⟩:=k3
  obtain ⟨_,_,y0,y1,y2,y3,y4⟩:=k2
  clear HB0 K1 K2
  rcases hat with rfl | ⟨rfl,h1⟩ | ⟨rfl,h1,h2⟩
  ·by_cases h:v.a=0
   ·have e1:=beq0_yes h
    have HH:=Lib.hid h
    clear h
    go_wp2
    go_step3
    refine ⟨rfl,⟨1,b,_,_,_,_,_,_,_,_,_,_,_,_,_,_,_,_,_,B1.out,L2.out,L3.out,.inr (.inl ⟨rfl,HH.out⟩),rfl⟩,?_⟩
    simp [CaretM,intOf]
   ·have HE:Hid (∀ W,Calls Tryz.prog 124 #[.agg #[v.a,v.b,v.c],.int .i64 0] W (EndPost W o)):=fun W=>by
     have k:=endAt_0 v.a v.b v.c W
     rw [← caret_0 h,HO.out] at k
     exact k
    have e1:=beq0_no h
    clear h
    go_wp2_with fail
    refine (HE.out _).mono ?_
    rintro e w3 ⟨A',c',rfl,hr,hbu,hb3⟩
    have HU:=Lib.hid hbu
    generalize verOf o=x at hr HU HP' ⊢
    generalize o.isSome=s at HP' ⊢
    have N2:=Lib.hid (L2.out.kept hb3 hz2)
    have B3:=Lib.hid (B1.out.trans (hb3.mono (by omega)))
    obtain ⟨hz3,hf,g0,g1,g2,g3,g4⟩:=N2.out
    have R:=Lib.hid (hr.set5 g0 g1 g2 g3 g4 (by simp) (by simp) (by simp) (by simp) (by simp) x.a x.b x.c (.slice A' x.pre.length c') (.slice none x.build.length 0))
    have B4:Hid (Below w.heap.size w (set5 w3 (w.heap.size+1) x.a x.b x.c (.slice A' x.pre.length c') (.slice none x.build.length 0))):=(((((B3.out.setCell (by simp) _).setCell (by simp) _).setCell (by simp) _).setCell (by simp) _).setCell (by simp) _)
    have N3:=Lib.hid (N2.out.set5 x.a x.b x.c (.slice A' x.pre.length c') (.slice none x.build.length 0))
    clear hr hb3
    unfold set5 at B4 N3
    go_wp2
    simp only [Exit.jump]
    generalize (((((w3.setCell ⟨w.heap.size+1,0,none⟩ x.a).setCell ⟨w.heap.size+1,1,none⟩ x.b).setCell ⟨w.heap.size+1,2,none⟩ x.c).setCell ⟨w.heap.size+1,3,none⟩ (.slice A' x.pre.length c')).setCell ⟨w.heap.size+1,4,none⟩ (.slice none x.build.length 0))=w4 at R B4 N3 ⊢
    obtain ⟨_,_,z0,z1,z2,z3,z4⟩:=N3.out
    exact bodyPost_ret (v:=.tuple #[.agg #[x.a,x.b,x.c,.slice A' x.pre.length c',.slice none x.build.length 0],.bool s]) (by simp [results,Tryz.results99,go_sem,z0,z1,z2,z3,z4]) rfl (HP'.out _ _ ⟨A',c',rfl,R.out,HU.out,B4.out⟩)
  ·have H1:=Lib.hid h1
   clear h1
   by_cases h:v.b=0
   ·have e1:=beq0_yes h
    have HH:=Lib.hid h
    clear h
    go_wp2
    go_step3
    refine ⟨rfl,⟨2,b,_,_,_,_,_,_,_,_,_,_,_,_,_,_,_,_,_,B1.out,L2.out,L3.out,.inr (.inr ⟨rfl,H1.out,HH.out⟩),rfl⟩,?_⟩
    simp [CaretM,intOf]
   ·have HE:Hid (∀ W,Calls Tryz.prog 124 #[.agg #[v.a,v.b,v.c],.int .i64 1] W (EndPost W o)):=fun W=>by
     have k:=endAt_1 v.a v.b v.c W
     rw [← caret_1 H1.out h,HO.out] at k
     exact k
    have e1:=beq0_no h
    clear h
    go_wp2_with fail
    refine (HE.out _).mono ?_
    rintro e w3 ⟨A',c',rfl,hr,hbu,hb3⟩
    have HU:=Lib.hid hbu
    generalize verOf o=x at hr HU HP' ⊢
    generalize o.isSome=s at HP' ⊢
    have N2:=Lib.hid (L2.out.kept hb3 hz2)
    have B3:=Lib.hid (B1.out.trans (hb3.mono (by omega)))
    obtain ⟨hz3,hf,g0,g1,g2,g3,g4⟩:=N2.out
    have R:=Lib.hid (hr.set5 g0 g1 g2 g3 g4 (by simp) (by simp) (by simp) (by simp) (by simp) x.a x.b x.c (.slice A' x.pre.length c') (.slice none x.build.length 0))
    have B4:Hid (Below w.heap.size w (set5 w3 (w.heap.size+1) x.a x.b x.c (.slice A' x.pre.length c') (.slice none x.build.length 0))):=(((((B3.out.setCell (by simp) _).setCell (by simp) _).setCell (by simp) _).setCell (by simp) _).setCell (by simp) _)
    have N3:=Lib.hid (N2.out.set5 x.a x.b x.c (.slice A' x.pre.length c') (.slice none x.build.length 0))
    clear hr hb3
    unfold set5 at B4 N3
    go_wp2
    simp only [Exit.jump]
    generalize (((((w3.setCell ⟨w.heap.size+1,0,none⟩ x.a).setCell ⟨w.heap.size+1,1,none⟩ x.b).setCell ⟨w.heap.size+1,2,none⟩ x.c).setCell ⟨w.heap.size+1,3,none⟩ (.slice A' x.pre.length c')).setCell ⟨w.heap.size+1,4,none⟩ (.slice none x.build.length 0))=w4 at R B4 N3 ⊢
    obtain ⟨_,_,z0,z1,z2,z3,z4⟩:=N3.out
    exact bodyPost_ret (v:=.tuple #[.agg #[x.a,x.b,x.c,.slice A' x.pre.length c',.slice none x.build.length 0],.bool s]) (by simp [results,Tryz.results99,go_sem,z0,z1,z2,z3,z4]) rfl (HP'.out _ _ ⟨A',c',rfl,R.out,HU.out,B4.out⟩)
  ·have H1:=Lib.hid h1
   have H2:=Lib.hid h2
   clear h1 h2
   have HE:Hid (∀ W,Calls Tryz.prog 124 #[.agg #[v.a,v.b,v.c],.int .i64 2] W (EndPost W o)):=fun W=>by
    have k:=endAt_2 v.a v.b v.c W
    rw [← caret_2 H1.out H2.out,HO.out] at k
    exact k
   go_wp2_with fail
   refine (HE.out _).mono ?_
   rintro e w3 ⟨A',c',rfl,hr,hbu,hb3⟩
   have HU:=Lib.hid hbu
   generalize verOf o=x at hr HU HP' ⊢
   generalize o.isSome=s at HP' ⊢
   have N2:=Lib.hid (L2.out.kept hb3 hz2)
   have B3:=Lib.hid (B1.out.trans (hb3.mono (by omega)))
   obtain ⟨hz3,hf,g0,g1,g2,g3,g4⟩:=N2.out
   have R:=Lib.hid (hr.set5 g0 g1 g2 g3 g4 (by simp) (by simp) (by simp) (by simp) (by simp) x.a x.b x.c (.slice A' x.pre.length c') (.slice none x.build.length 0))
   have B4:Hid (Below w.heap.size w (set5 w3 (w.heap.size+1) x.a x.b x.c (.slice A' x.pre.length c') (.slice none x.build.length 0))):=(((((B3.out.setCell (by simp) _).setCell (by simp) _).setCell (by simp) _).setCell (by simp) _).setCell (by simp) _)
   have N3:=Lib.hid (N2.out.set5 x.a x.b x.c (.slice A' x.pre.length c') (.slice none x.build.length 0))
   clear hr hb3
   unfold set5 at B4 N3
   go_wp2
   simp only [Exit.jump]
   generalize (((((w3.setCell ⟨w.heap.size+1,0,none⟩ x.a).setCell ⟨w.heap.size+1,1,none⟩ x.b).setCell ⟨w.heap.size+1,2,none⟩ x.c).setCell ⟨w.heap.size+1,3,none⟩ (.slice A' x.pre.length c')).setCell ⟨w.heap.size+1,4,none⟩ (.slice none x.build.length 0))=w4 at R B4 N3 ⊢
   obtain ⟨_,_,z0,z1,z2,z3,z4⟩:=N3.out
   exact bodyPost_ret (v:=.tuple #[.agg #[x.a,x.b,x.c,.slice A' x.pre.length c',.slice none x.build.length 0],.bool s]) (by simp [results,Tryz.results99,go_sem,z0,z1,z2,z3,z4]) rfl (HP'.out _ _ ⟨A',c',rfl,R.out,HU.out,B4.out⟩)
 ·intro HP
  go_upto_region 1 with (fail)
  generalize ((w.alloc (.cells #[v.a,v.b,v.c,.slice A v.pre.length c,.slice B v.build.length d] 25)).alloc false)=W at HB0 K1 K2 ⊢
  obtain ⟨hz0,_,x0,x1,x2,x3,x4⟩:=K1.out
  obtain ⟨hz1,_,y0,y1,y2,y3,y4⟩:=K2.out
  go_wp2_with fail
  refine (coreOf_any _ _ _ _ _ _).mono ?_
  rintro e w2 ⟨rfl,hb2⟩
  have L2:=Lib.hid (K2.out.kept hb2 hz1)
  have B1:=Lib.hid (HB0.out.trans (hb2.mono (by omega)))
  have hz2:=L2.out.1
  have M2:=Lib.hid (L2.out.kept ((Below.refl w2.heap.size w2).alloc (Nat.le_refl _) (.cells #[v.a,v.b,v.c] 147)) hz2)
  have M3:=Lib.hid (At3.new w2 147 v.a v.b v.c)
  have B2:Hid (Below w.heap.size w (w2.alloc (.cells #[v.a,v.b,v.c] 147))):=B1.out.alloc (by omega) _
  clear hb2 x0 x1 x2 x3 x4 y0 y1 y2 y3 y4
  go_wp2
  go_step3
  rename_i hK
  exact hK _ _ (HP.out _ _ ⟨0,w2.heap.size,_,_,_,_,_,_,_,_,_,_,_,_,_,_,_,_,_,B2.out,M2.out,M3.out,.inl rfl,rfl⟩)
end Go.Proofs.YtgfbflnhjpbceaaGreatDoor.Prec
namespace Go.Proofs.YtgfbflnhjpbceaaGreatDoor.Range
open Num Ident Semver

theorem vparse_read {l:List UInt8} {q:Nat} {v:Ver} (h:vparse l 0=(0,q,v)):goodV v=true∧l=vtext v ++ l.drop q:=by
 unfold vparse at h
 rw [if_neg (by omega),Int.toNat_zero] at h
 unfold inside at h
 by_cases h2:(core l 0).1≠0
 ·rw [if_pos h2] at h; injection h with h; exact absurd h h2
 ·rw [if_neg h2] at h
  have hce:=core_end l 0 (Nat.zero_le _)
  obtain ⟨⟨f,q1,x,y,z⟩,hk⟩:∃ t,core l 0=t:=⟨_,rfl⟩
  rw [hk] at h2 h hce
  simp only at h2 h hce
  have h2':f=0:=by simpa using h2
  subst h2'
  obtain ⟨c1,c2,c3,c4⟩:=core_read (Nat.zero_le _) hk
  unfold tail1 at h
  by_cases h3:(Semver.rowAt l q1 45).1≠0
  ·rw [if_pos h3] at h; injection h with h; exact absurd h h3
  ·rw [if_neg h3] at h
   have hre:=rowAt_end l q1 45 hce
   obtain ⟨⟨f,q2,xs⟩,hr⟩:∃ t,Semver.rowAt l q1 45=t:=⟨_,rfl⟩
   rw [hr] at h3 h hre
   simp only at h3 h hre
   have h3':f=0:=by simpa using h3
   subst h3'
   obtain ⟨r1,r2⟩:=rowAt_read (mb:=45) rfl hce hr
   unfold tail2 at h
   by_cases h4:(Semver.rowAt l q2 43).1≠0
   ·rw [if_pos h4] at h; injection h with h; exact absurd h h4
   ·rw [if_neg h4] at h
    obtain ⟨⟨f,q3,ys⟩,hr3⟩:∃ t,Semver.rowAt l q2 43=t:=⟨_,rfl⟩
    rw [hr3] at h4 h
    simp only at h4 h
    have h4':f=0:=by simpa using h4
    subst h4'
    obtain ⟨s1,s2⟩:=rowAt_read (mb:=43) rfl hre hr3
    injection h with _ h
    injection h with hq hv
    subst hq; subst hv
    refine ⟨?_,?_⟩
    ·unfold goodV
     rw [heldB_yes c2 c3 c4]
     have r2':goodFrom true xs 0=true:=r2
     have s2':goodFrom false ys 0=true:=s2
     simp [r2',s2']
    ·have e:l=Lib.decDigits x ++ 46 :: (Lib.decDigits y ++ 46 :: (Lib.decDigits z ++ (rowText 45 xs ++ (rowText 43 ys ++ l.drop q3)))):=by
      rw [← s1,← r1,← c1]; rfl
     generalize l.drop q3=t at e ⊢
     rw [e]
     unfold vtext
     simp

theorem fits_many {kind:Int} (h:kind=9∨kind=10) {n:Nat} (hn:2≤n):fits kind noVer n=true:=by
 have h1:ofVersion kind=false:=by unfold ofVersion; rcases h with rfl | rfl <;> decide
 have h2:kind≠0:=by omega
 unfold fits
 rw [h1,sameV_self,if_neg (by simp),if_neg (by simp),if_neg h2,if_pos h,decide_eq_true hn]
theorem opFrom_kind (s:List UInt8):(opOf s).1=1∧(opOf s).2=[62,61]∨(opOf s).1=2∧(opOf s).2=[62]∨(opOf s).1=3∧(opOf s).2=[60,61]∨(opOf s).1=4∧(opOf s).2=[60]∨(opOf s).1=5∧(opOf s).2=[61]∨(opOf s).1=6∧(opOf s).2=[33,61]∨(opOf s).1=7∧(opOf s).2=[94]∨(opOf s).1=8∧(opOf s).2=[126]∨(opOf s).1=5∧(opOf s).2=[]:=by
 unfold opOf ops opFrom
 split
 ·simp
 ·unfold opFrom; split
  ·simp
  ·unfold opFrom; split
   ·simp
   ·unfold opFrom; split
    ·simp
    ·unfold opFrom; split
     ·simp
     ·unfold opFrom; split
      ·simp
      ·unfold opFrom; split
       ·simp
       ·unfold opFrom; split
        ·simp
        ·unfold opFrom; simp
theorem zero_good {d:Nat} (hd:d≤64):goodR noRng (d+opens 9 noRng.kind)=true:=by
 show goodR (.mk 0 noVer []) (d+opens 9 0)=true
 rw [goodR_eq,decide_eq_true (show d+opens 9 0≤64 from hd)]; rfl

end Go.Proofs.YtgfbflnhjpbceaaGreatDoor.Range
