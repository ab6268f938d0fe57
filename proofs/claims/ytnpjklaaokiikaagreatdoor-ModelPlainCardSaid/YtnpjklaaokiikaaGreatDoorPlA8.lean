/-
  What the theorem of the last text needs of these: PrCores, PrRefCmp, SvText, SvBack, RgWeight. Conditions: as each theorem states.
-/
import Derived.Test.YtnpjklaaokiikaaGreatDoorPlA1
import Derived.Test.YtnpjklaaokiikaaGreatDoorPlA2
import Derived.Test.YtnpjklaaokiikaaGreatDoorPlA3
import Derived.Test.YtnpjklaaokiikaaGreatDoorPlA4
import Derived.Test.YtnpjklaaokiikaaGreatDoorPlA5
import Derived.Test.YtnpjklaaokiikaaGreatDoorPlA6
import Derived.Test.YtnpjklaaokiikaaGreatDoorPlA7
import Derived.StillTailTactics
import Derived.Deep.CutBlock
import Derived.Deep.DeepCutAuto
import Derived.Test.YtnpjklaaokiikaaGreatDoorShelfBuild
set_option maxRecDepth 100000
set_option maxHeartbeats 25600000
namespace Go.Proofs.YtnpjklaaokiikaaGreatDoor.Prec
open Go.RowKit Num Ident Semver

theorem cmpU_any (x y:Nat) (w:World) :
  Calls Tryz.prog 232 #[.int .u64 x,.int .u64 y] w fun e w'=>e=.returned (.int .i64 (ordN x y))∧w=w':=by
 rcases Nat.lt_trichotomy x y with h | h | h
 ·have HF:=Lib.hid (ordN_lt h)
  go_enter Tryz.func232,Tryz.ntmps232
  go_wp2
  go_ret
  exact ⟨by rw [HF.out]; rfl,rfl⟩
 ·have HF:=Lib.hid (ordN_eq h)
  subst h
  go_enter Tryz.func232,Tryz.ntmps232
  go_wp2
  go_ret
  exact ⟨by rw [HF.out]; rfl,rfl⟩
 ·have HF:=Lib.hid (ordN_gt h)
  go_enter Tryz.func232,Tryz.ntmps232
  go_wp2
  go_ret
  exact ⟨by rw [HF.out]; rfl,rfl⟩

theorem coreOf_anyD (a b c:Int) (x y:Value) (w:World) :
  Calls Tryz.prog 196 #[.agg #[.int .u64 a,.int .u64 b,.int .u64 c,x,y]] w fun e w'=>e=.returned (.agg #[.int .u64 a,.int .u64 b,.int .u64 c])∧BelowD w.heap.size w w':=by
 go_enter Tryz.func196,Tryz.ntmps196
 go_wp2
 exact bodyPost_ret (v:=.agg #[.int .u64 a,.int .u64 b,.int .u64 c]) (by simp [results,Tryz.results196,go_sem]) rfl ⟨rfl,((BelowD.refl _ _).alloc (Nat.le_refl _) _).alloc (by simp) _⟩
theorem coreOf_any (a b c:Int) (x y:Value) (w:World) :
  Calls Tryz.prog 196 #[.agg #[.int .u64 a,.int .u64 b,.int .u64 c,x,y]] w fun e w'=>e=.returned (.agg #[.int .u64 a,.int .u64 b,.int .u64 c])∧Below w.heap.size w w':=dropD (coreOf_anyD a b c x y w)

def CoresAt (u v:Ver) (i:Nat):Prop:=i=0∨(i=1∧u.a=v.a)∨(i=2∧u.a=v.a∧u.b=v.b)
def CoresJ (w:World) (u v:Ver) (a':Act) (w':World):Prop :=
 ∃ (i:Nat) (u6 u7 u8 u9 u10 u11 u12 u13 u14 u15 u16 u17 u18 u19 u20 u21 u22 u23 u24:Value),BelowD w.heap.size w w'∧At3 w' w.heap.size u.a u.b u.c∧At3 w' (w.heap.size+1) v.a v.b v.c∧CoresAt u v i∧¬ (u.a=v.a∧u.b=v.b∧u.c=v.c) ∧
  a'={ tmps:=#[.agg #[u.a,u.b,u.c],.agg #[v.a,v.b,v.c],.pointer (some ⟨w.heap.size,0,none⟩),.pointer (some ⟨w.heap.size+1,0,none⟩),.int .i64 0,.int .i64 i,u6,u7,u8,u9,u10,u11,u12,u13,u14,u15,u16,u17,u18,u19,u20,u21,u22,u23,u24],defers:=[] }
def CoresM (a':Act) (_:World):Nat:=4 - (intOf (a'.tmps.getD 5 undef)).toNat
theorem beq_no {x y:Nat} (h:x≠y):((x:Int) == (y:Int))=false:=by simp; omega
theorem beq_yes {x y:Nat} (h:x=y):((x:Int) == (y:Int))=true:=by simp [h]

theorem cores_anyD (u v:Ver) (w:World) :
  Calls Tryz.prog 195 #[.agg #[u.a,u.b,u.c],.agg #[v.a,v.b,v.c]] w fun e w'=>e=.returned (.int .i64 (cmpCore u v))∧BelowD w.heap.size w w':=by
 have HBa:Hid (BelowD w.heap.size w ((w.alloc (.cells #[u.a,u.b,u.c] 248)).alloc (.cells #[v.a,v.b,v.c] 248))):=((BelowD.refl _ _).alloc (Nat.le_refl _) _).alloc (by simp) _
 have K1:Hid (At3 ((w.alloc (.cells #[u.a,u.b,u.c] 248)).alloc (.cells #[v.a,v.b,v.c] 248)) w.heap.size u.a u.b u.c):=(At3.new w 248 _ _ _).kept ((Below.refl _ _).alloc (Nat.le_refl _) _) (by simp)
 have K2:Hid (At3 ((w.alloc (.cells #[u.a,u.b,u.c] 248)).alloc (.cells #[v.a,v.b,v.c] 248)) (w.heap.size+1) v.a v.b v.c):=by
  have:=At3.new (w.alloc (.cells #[u.a,u.b,u.c] 248)) 248 v.a v.b v.c
  rw [size_alloc] at this; exact this
 go_enter Tryz.func195,Tryz.ntmps195
 go_wp2
 refine wp_scope_back 0 (CoresJ w u v) CoresM rfl ?_ ?_
 ·rintro a' w1 ⟨i,u6,u7,u8,u9,u10,u11,u12,u13,u14,u15,u16,u17,u18,u19,u20,u21,u22,u23,u24,hb1,k1,k2,hat,hne,rfl⟩
  have HB1:=Lib.hid hb1
  have L1:=Lib.hid k1
  have L2:=Lib.hid k2
  have hz1:=k2.1
  obtain ⟨_,_,x0,x1,x2⟩:=k1
  obtain ⟨_,_,y0,y1,y2⟩:=k2
  clear hb1
  rcases hat with rfl | ⟨rfl,h1⟩ | ⟨rfl,h1,h2⟩
  ·by_cases h:u.a=v.a
   ·have e1:=beq_yes h
    have HH:=Lib.hid h
    have HN:=Lib.hid hne
    clear h hne
    go_wp2
    go_still (by kernel_rfl)
    have HB2:=Lib.hid HB1.out.drew
    have M1:=Lib.hid (L1.out.kept (B:=w1.heap.size) (Below.refl _ _).drew (by omega))
    have M2:=Lib.hid (L2.out.kept (B:=w1.heap.size) (Below.refl _ _).drew (by omega))
    go_wp2
    go_step3
    refine ⟨rfl,⟨1,_,_,_,_,_,_,_,_,_,_,_,_,_,_,_,_,_,_,_,HB2.out,M1.out,M2.out,.inr (.inl ⟨rfl,HH.out⟩),HN.out,rfl⟩,?_⟩
    simp [CoresM,intOf]
   ·have e1:=beq_no h
    have HF:Hid (cmpCore u v=ordN u.a v.a):=cmpCore_1 h
    clear h hne
    go_wp2
    go_still (by kernel_rfl)
    have HB2:=Lib.hid HB1.out.drew
    have M1:=Lib.hid (L1.out.kept (B:=w1.heap.size) (Below.refl _ _).drew (by omega))
    have M2:=Lib.hid (L2.out.kept (B:=w1.heap.size) (Below.refl _ _).drew (by omega))
    clear x0 x1 x2 y0 y1 y2
    change Exit.then _ _ _ _ w1.drew
    generalize w1.drew=w2 at HB2 M1 M2 ⊢
    obtain ⟨_,_,x0,x1,x2⟩:=M1.out
    obtain ⟨_,_,y0,y1,y2⟩:=M2.out
    go_wp2
    go_still_tail 6,(by kernel_rfl)
    change wpList _ _ _ _ _ w2.drew
    have HB3:=Lib.hid HB2.out.drew
    generalize w2.drew=w3 at HB3 ⊢
    go_wp2_with fail
    refine (cmpU_any _ _ _).mono ?_
    rintro e w' ⟨rfl,rfl⟩
    go_wp2
    simp only [Exit.jump]
    go_ret
    exact ⟨by rw [HF.out]; rfl,HB3.out⟩
  ·have H1:=Lib.hid h1
   clear h1
   by_cases h:u.b=v.b
   ·have e1:=beq_yes h
    have HH:=Lib.hid h
    have HN:=Lib.hid hne
    clear h hne
    go_wp2
    go_still (by kernel_rfl)
    have HB2:=Lib.hid HB1.out.drew
    have M1:=Lib.hid (L1.out.kept (B:=w1.heap.size) (Below.refl _ _).drew (by omega))
    have M2:=Lib.hid (L2.out.kept (B:=w1.heap.size) (Below.refl _ _).drew (by omega))
    go_wp2
    go_step3
    refine ⟨rfl,⟨2,_,_,_,_,_,_,_,_,_,_,_,_,_,_,_,_,_,_,_,HB2.out,M1.out,M2.out,.inr (.inr ⟨rfl,H1.out,HH.out⟩),HN.out,rfl⟩,?_⟩
    simp [CoresM,intOf]
   ·have e1:=beq_no h
    have HF:Hid (cmpCore u v=ordN u.b v.b):=cmpCore_2 H1.out h
    clear h hne
    go_wp2
    go_still (by kernel_rfl)
    have HB2:=Lib.hid HB1.out.drew
    have M1:=Lib.hid (L1.out.kept (B:=w1.heap.size) (Below.refl _ _).drew (by omega))
    have M2:=Lib.hid (L2.out.kept (B:=w1.heap.size) (Below.refl _ _).drew (by omega))
    clear x0 x1 x2 y0 y1 y2
    change Exit.then _ _ _ _ w1.drew
    generalize w1.drew=w2 at HB2 M1 M2 ⊢
    obtain ⟨_,_,x0,x1,x2⟩:=M1.out
    obtain ⟨_,_,y0,y1,y2⟩:=M2.out
    go_wp2
    go_still_tail 6,(by kernel_rfl)
    change wpList _ _ _ _ _ w2.drew
    have HB3:=Lib.hid HB2.out.drew
    generalize w2.drew=w3 at HB3 ⊢
    go_wp2_with fail
    refine (cmpU_any _ _ _).mono ?_
    rintro e w' ⟨rfl,rfl⟩
    go_wp2
    simp only [Exit.jump]
    go_ret
    exact ⟨by rw [HF.out]; rfl,HB3.out⟩
  ·have H1:=Lib.hid h1
   have H2:=Lib.hid h2
   clear h1 h2
   by_cases h:u.c=v.c
   ·exact absurd ⟨H1.out,H2.out,h⟩ hne
   ·have e1:=beq_no h
    have HF:Hid (cmpCore u v=ordN u.c v.c):=cmpCore_3 H1.out H2.out
    clear h hne
    go_wp2
    go_still (by kernel_rfl)
    have HB2:=Lib.hid HB1.out.drew
    have M1:=Lib.hid (L1.out.kept (B:=w1.heap.size) (Below.refl _ _).drew (by omega))
    have M2:=Lib.hid (L2.out.kept (B:=w1.heap.size) (Below.refl _ _).drew (by omega))
    clear x0 x1 x2 y0 y1 y2
    change Exit.then _ _ _ _ w1.drew
    generalize w1.drew=w2 at HB2 M1 M2 ⊢
    obtain ⟨_,_,x0,x1,x2⟩:=M1.out
    obtain ⟨_,_,y0,y1,y2⟩:=M2.out
    go_wp2
    go_still_tail 6,(by kernel_rfl)
    change wpList _ _ _ _ _ w2.drew
    have HB3:=Lib.hid HB2.out.drew
    generalize w2.drew=w3 at HB3 ⊢
    go_wp2_with fail
    refine (cmpU_any _ _ _).mono ?_
    rintro e w' ⟨rfl,rfl⟩
    go_wp2
    simp only [Exit.jump]
    go_ret
    exact ⟨by rw [HF.out]; rfl,HB3.out⟩
 ·intro HP
  by_cases hn:u.a=v.a∧u.b=v.b∧u.c=v.c
  ·have HF:Hid (cmpCore u v=0):=by
    unfold Hid
    rw [cmpCore_3 hn.1 hn.2.1]; exact ordN_eq hn.2.2
   have kq:=fun W=>run_eq3 u.a u.b u.c v.a v.b v.c W
   rw [beq_yes hn.1,beq_yes hn.2.1,beq_yes hn.2.2] at kq
   clear hn
   go_wp2
   simp only [Exit.jump]
   go_ret
   exact ⟨by rw [HF.out]; rfl,HBa.out⟩
  ·have HN:=Lib.hid hn
   have hq:(((u.a:Int) == (v.a:Int)) && (((u.b:Int) == (v.b:Int)) && ((u.c:Int) == (v.c:Int))))=false:=by
    rw [← Bool.not_eq_true]; simp only [Bool.and_eq_true,beq_iff_eq]; omega
   have kq:=fun W=>run_eq3 u.a u.b u.c v.a v.b v.c W
   rw [hq] at kq
   clear hn hq
   go_wp2
   go_step3
   rename_i hK
   exact hK _ _ (HP.out _ _ ⟨0,_,_,_,_,_,_,_,_,_,_,_,_,_,_,_,_,_,_,_,HBa.out,K1.out,K2.out,.inl rfl,HN.out,rfl⟩)
end Go.Proofs.YtnpjklaaokiikaaGreatDoor.Prec
namespace Go.Proofs.YtnpjklaaokiikaaGreatDoor.Prec
open Go.RowKit Num Ident Semver

theorem refNums_any (x y:Nat) (w:World):Calls Tryz.prog 147 #[.int .u64 x,.int .u64 y] w fun e w'=>e=.returned (.int .i64 (ordN x y))∧w=w':=by
 rcases Nat.lt_trichotomy x y with h | h | h
 ·have HF:=Lib.hid (ordN_lt h)
  go_enter Tryz.func147,Tryz.ntmps147
  go_wp2
  go_ret
  exact ⟨by rw [HF.out]; rfl,rfl⟩
 ·have HF:=Lib.hid (ordN_eq h)
  subst h
  go_enter Tryz.func147,Tryz.ntmps147
  go_wp2
  go_ret
  exact ⟨by rw [HF.out]; rfl,rfl⟩
 ·have HF:=Lib.hid (ordN_gt h)
  go_enter Tryz.func147,Tryz.ntmps147
  go_wp2
  go_ret
  exact ⟨by rw [HF.out]; rfl,rfl⟩
theorem cmpV_core {u v:Ver} (h:cmpCore u v≠0):cmpV u v=cmpCore u v:=lex_no h
theorem cmpV_pre {u v:Ver} (h1:u.a=v.a) (h2:u.b=v.b) (h3:u.c=v.c):cmpV u v=cmpPre u.pre v.pre:=lex_yes (f:=cmpCore) (by
 unfold cmpCore
 refine (lex_yes (f:=fun u v:Ver=>ordN u.a v.a) ((ordN_zero_iff _ _).2 h1)).trans ?_
 refine (lex_yes (f:=fun u v:Ver=>ordN u.b v.b) ((ordN_zero_iff _ _).2 h2)).trans ?_
 exact (ordN_zero_iff _ _).2 h3)
theorem cmpV_1 {u v:Ver} (h:u.a≠v.a):cmpV u v=ordN u.a v.a:=by
 have e:=cmpCore_1 h
 rw [cmpV_core (by rw [e]; exact fun k=>h ((ordN_zero_iff _ _).1 k)),e]
theorem cmpV_2 {u v:Ver} (h1:u.a=v.a) (h:u.b≠v.b):cmpV u v=ordN u.b v.b:=by
 have e:=cmpCore_2 h1 h
 rw [cmpV_core (by rw [e]; exact fun k=>h ((ordN_zero_iff _ _).1 k)),e]
theorem cmpV_3 {u v:Ver} (h1:u.a=v.a) (h2:u.b=v.b) (h:u.c≠v.c):cmpV u v=ordN u.c v.c:=by
 have e:cmpCore u v=ordN u.c v.c:=by
  unfold cmpCore
  refine (lex_yes (f:=fun u v:Ver=>ordN u.a v.a) ((ordN_zero_iff _ _).2 h1)).trans ?_
  exact lex_yes (f:=fun u v:Ver=>ordN u.b v.b) ((ordN_zero_iff _ _).2 h2)
 rw [cmpV_core (by rw [e]; exact fun k=>h ((ordN_zero_iff _ _).1 k)),e]
theorem pre_none {x y:List (List UInt8)} (h1:x.length=0) (h2:y.length=0):cmpPre x y=0:=by
 obtain rfl:=List.eq_nil_of_length_eq_zero h1
 obtain rfl:=List.eq_nil_of_length_eq_zero h2
 exact pre_ordr.self _
theorem pre_rows {x y:List (List UInt8)} (h1:x.length≠0) (h2:y.length≠0):cmpPre x y=cmpRows x y:=by
 unfold cmpPre; exact lex_yes (f:=fun x y=>ordN (noneN x) (noneN y)) (ordN_eq (by unfold noneN; rw [if_neg h1,if_neg h2]))

theorem refCompare_all (u v:Ver) (A1 A2 B1 B2:Option Addr) (c1 c2 d1 d2:Nat) (w:World) (r1:SRow w A1 u.pre.length u.pre) (q1:SRow w B1 v.pre.length v.pre) (n1:u.pre.length≤maxLen) (n2:v.pre.length≤maxLen) (f1:∀ x ∈ u.pre,x.length≤maxLen) (g1:∀ x ∈ v.pre,x.length≤maxLen) :
  Calls Tryz.prog 90 #[.agg #[u.a,u.b,u.c,.slice A1 u.pre.length c1,.slice A2 u.build.length c2],.agg #[v.a,v.b,v.c,.slice B1 v.pre.length d1,.slice B2 v.build.length d2]] w fun e w'=>e=.returned (.int .i64 (cmpV u v))∧Below w.heap.size w w':=by
 have HBa:Hid (Below w.heap.size w ((w.alloc (.cells #[u.a,u.b,u.c,.slice A1 u.pre.length c1,.slice A2 u.build.length c2] 34)).alloc (.cells #[v.a,v.b,v.c,.slice B1 v.pre.length d1,.slice B2 v.build.length d2] 34))):=((Below.refl _ _).alloc (Nat.le_refl _) _).alloc (by simp) _
 have R1:=Lib.hid (r1.kept HBa.out)
 have Q1:=Lib.hid (q1.kept HBa.out)
 have K1:Hid (At5 ((w.alloc (.cells #[u.a,u.b,u.c,.slice A1 u.pre.length c1,.slice A2 u.build.length c2] 34)).alloc (.cells #[v.a,v.b,v.c,.slice B1 v.pre.length d1,.slice B2 v.build.length d2] 34)) w.heap.size u.a u.b u.c (.slice A1 u.pre.length c1) (.slice A2 u.build.length c2)):=(At5.new w 34 _ _ _ _ _).kept ((Below.refl _ _).alloc (Nat.le_refl _) _) (by simp)
 have K2:Hid (At5 ((w.alloc (.cells #[u.a,u.b,u.c,.slice A1 u.pre.length c1,.slice A2 u.build.length c2] 34)).alloc (.cells #[v.a,v.b,v.c,.slice B1 v.pre.length d1,.slice B2 v.build.length d2] 34)) (w.heap.size+1) v.a v.b v.c (.slice B1 v.pre.length d1) (.slice B2 v.build.length d2)):=by
  have:=At5.new (w.alloc (.cells #[u.a,u.b,u.c,.slice A1 u.pre.length c1,.slice A2 u.build.length c2] 34)) 34 v.a v.b v.c (.slice B1 v.pre.length d1) (.slice B2 v.build.length d2)
  rw [size_alloc] at this; exact this
 have N1:=Lib.hid n1
 have N2:=Lib.hid n2
 have F1:=Lib.hid f1
 have G1:=Lib.hid g1
 unfold maxLen at n1 n2
 clear r1 q1 f1 g1
 by_cases h1:u.a=v.a
 ·have e1:((u.a:Int) == (v.a:Int))=true:=by simp [h1]
  have e1':((u.a:Int) != (v.a:Int))=false:=by simp [h1]
  by_cases h2:u.b=v.b
  ·have e2:((u.b:Int) == (v.b:Int))=true:=by simp [h2]
   have e2':((u.b:Int) != (v.b:Int))=false:=by simp [h2]
   by_cases h3:u.c=v.c
   ·have e3:((u.c:Int) == (v.c:Int))=true:=by simp [h3]
    have e3':((u.c:Int) != (v.c:Int))=false:=by simp [h3]
    have HP:=Lib.hid (cmpV_pre h1 h2 h3)
    clear h1 h2 h3
    by_cases hu:u.pre.length=0
    ·have eu:((u.pre.length:Int) == 0)=true:=by rw [beq_iff_eq]; omega
     by_cases hv:v.pre.length=0
     ·have ev:((v.pre.length:Int) == 0)=true:=by rw [beq_iff_eq]; omega
      have HF:=Lib.hid (HP.out.trans (pre_none hu hv))
      clear hu hv
      go_enter Tryz.func90,Tryz.ntmps90
      go_upto_region 1 with (fail)
      generalize ((w.alloc (.cells #[u.a,u.b,u.c,.slice A1 u.pre.length c1,.slice A2 u.build.length c2] 34)).alloc (.cells #[v.a,v.b,v.c,.slice B1 v.pre.length d1,.slice B2 v.build.length d2] 34))=W at HBa R1 Q1 K1 K2 ⊢
      obtain ⟨_,_,x0,x1,x2,x3,x4⟩:=K1.out
      obtain ⟨_,_,y0,y1,y2,y3,y4⟩:=K2.out
      go_wp2
      go_ret
      exact ⟨by rw [HF.out]; rfl,HBa.out⟩
     ·have ev:((v.pre.length:Int) == 0)=false:=by rw [beq_eq_false_iff_ne]; omega
      have HF:=Lib.hid (HP.out.trans (cmpPre_one hu hv))
      clear hu hv
      go_enter Tryz.func90,Tryz.ntmps90
      go_upto_region 1 with (fail)
      generalize ((w.alloc (.cells #[u.a,u.b,u.c,.slice A1 u.pre.length c1,.slice A2 u.build.length c2] 34)).alloc (.cells #[v.a,v.b,v.c,.slice B1 v.pre.length d1,.slice B2 v.build.length d2] 34))=W at HBa R1 Q1 K1 K2 ⊢
      obtain ⟨_,_,x0,x1,x2,x3,x4⟩:=K1.out
      obtain ⟨_,_,y0,y1,y2,y3,y4⟩:=K2.out
      go_wp2
      go_ret
      exact ⟨by rw [HF.out]; rfl,HBa.out⟩
    ·have eu:((u.pre.length:Int) == 0)=false:=by rw [beq_eq_false_iff_ne]; omega
     by_cases hv:v.pre.length=0
     ·have ev:((v.pre.length:Int) == 0)=true:=by rw [beq_iff_eq]; omega
      have HF:=Lib.hid (HP.out.trans (cmpPre_two hu hv))
      clear hu hv
      go_enter Tryz.func90,Tryz.ntmps90
      go_upto_region 1 with (fail)
      generalize ((w.alloc (.cells #[u.a,u.b,u.c,.slice A1 u.pre.length c1,.slice A2 u.build.length c2] 34)).alloc (.cells #[v.a,v.b,v.c,.slice B1 v.pre.length d1,.slice B2 v.build.length d2] 34))=W at HBa R1 Q1 K1 K2 ⊢
      obtain ⟨_,_,x0,x1,x2,x3,x4⟩:=K1.out
      obtain ⟨_,_,y0,y1,y2,y3,y4⟩:=K2.out
      go_wp2
      go_ret
      exact ⟨by rw [HF.out]; rfl,HBa.out⟩
     ·have ev:((v.pre.length:Int) == 0)=false:=by rw [beq_eq_false_iff_ne]; omega
      have HF:=Lib.hid (HP.out.trans (pre_rows hu hv))
      clear hu hv
      go_enter Tryz.func90,Tryz.ntmps90
      go_upto_region 1 with (fail)
      generalize ((w.alloc (.cells #[u.a,u.b,u.c,.slice A1 u.pre.length c1,.slice A2 u.build.length c2] 34)).alloc (.cells #[v.a,v.b,v.c,.slice B1 v.pre.length d1,.slice B2 v.build.length d2] 34))=W at HBa R1 Q1 K1 K2 ⊢
      obtain ⟨_,_,x0,x1,x2,x3,x4⟩:=K1.out
      obtain ⟨_,_,y0,y1,y2,y3,y4⟩:=K2.out
      go_wp2_with fail
      refine (refRows_all _ _ _ u.pre _ _ _ v.pre _ R1.out Q1.out N1.out N2.out F1.out G1.out).mono ?_
      rintro e w3 ⟨rfl,hb3⟩
      have B3:=Lib.hid (HBa.out.trans (hb3.mono HBa.out.size))
      clear hb3 x0 x1 x2 x3 x4 y0 y1 y2 y3 y4
      go_wp2
      go_ret
      exact ⟨by rw [HF.out]; rfl,B3.out⟩
   ·have e3:((u.c:Int) == (v.c:Int))=false:=by simp; omega
    have e3':((u.c:Int) != (v.c:Int))=true:=by simp; omega
    have HF:=Lib.hid (cmpV_3 h1 h2 h3)
    clear h1 h2 h3
    go_enter Tryz.func90,Tryz.ntmps90
    go_upto_region 1 with (fail)
    generalize ((w.alloc (.cells #[u.a,u.b,u.c,.slice A1 u.pre.length c1,.slice A2 u.build.length c2] 34)).alloc (.cells #[v.a,v.b,v.c,.slice B1 v.pre.length d1,.slice B2 v.build.length d2] 34))=W at HBa R1 Q1 K1 K2 ⊢
    obtain ⟨_,_,x0,x1,x2,x3,x4⟩:=K1.out
    obtain ⟨_,_,y0,y1,y2,y3,y4⟩:=K2.out
    go_wp2_with fail
    refine (refNums_any _ _ _).mono ?_
    rintro e w' ⟨rfl,rfl⟩
    go_wp2
    go_ret
    exact ⟨by rw [HF.out]; rfl,HBa.out⟩
  ·have e2:((u.b:Int) == (v.b:Int))=false:=by simp; omega
   have e2':((u.b:Int) != (v.b:Int))=true:=by simp; omega
   have HF:=Lib.hid (cmpV_2 h1 h2)
   clear h1 h2
   go_enter Tryz.func90,Tryz.ntmps90
   go_upto_region 1 with (fail)
   generalize ((w.alloc (.cells #[u.a,u.b,u.c,.slice A1 u.pre.length c1,.slice A2 u.build.length c2] 34)).alloc (.cells #[v.a,v.b,v.c,.slice B1 v.pre.length d1,.slice B2 v.build.length d2] 34))=W at HBa R1 Q1 K1 K2 ⊢
   obtain ⟨_,_,x0,x1,x2,x3,x4⟩:=K1.out
   obtain ⟨_,_,y0,y1,y2,y3,y4⟩:=K2.out
   go_wp2_with fail
   refine (refNums_any _ _ _).mono ?_
   rintro e w' ⟨rfl,rfl⟩
   go_wp2
   go_ret
   exact ⟨by rw [HF.out]; rfl,HBa.out⟩
 ·have e1:((u.a:Int) == (v.a:Int))=false:=by simp; omega
  have e1':((u.a:Int) != (v.a:Int))=true:=by simp; omega
  have HF:=Lib.hid (cmpV_1 h1)
  clear h1
  go_enter Tryz.func90,Tryz.ntmps90
  go_upto_region 1 with (fail)
  generalize ((w.alloc (.cells #[u.a,u.b,u.c,.slice A1 u.pre.length c1,.slice A2 u.build.length c2] 34)).alloc (.cells #[v.a,v.b,v.c,.slice B1 v.pre.length d1,.slice B2 v.build.length d2] 34))=W at HBa R1 Q1 K1 K2 ⊢
  obtain ⟨_,_,x0,x1,x2,x3,x4⟩:=K1.out
  obtain ⟨_,_,y0,y1,y2,y3,y4⟩:=K2.out
  go_wp2_with fail
  refine (refNums_any _ _ _).mono ?_
  rintro e w' ⟨rfl,rfl⟩
  go_wp2
  go_ret
  exact ⟨by rw [HF.out]; rfl,HBa.out⟩
end Go.Proofs.YtnpjklaaokiikaaGreatDoor.Prec
namespace Go.Proofs.YtnpjklaaokiikaaGreatDoor.Semver
open Go.RowKit Num Ident

def Bld (w:World) (B b:Nat) (l:List UInt8):Prop:=Lib.IsBuilderF 108 5 B b (Lib.byteCells l) w
theorem Bld.new (w:World) (B:Nat) (h:B≤w.heap.size):Bld (w.alloc (.cells #[.pointer none,.slice none 0 0] 108)) B w.heap.size []:=by
 refine .inl ⟨h,.slice none 0 0,?_,World.ownsRowF_nil _ _ _ _,by simp [Value.ownBlock]⟩
 show (w.heap.push _)[w.heap.size]?=_
 simp
theorem atF_kept {w w':World} {B b:Nat} {p:Value} {bs:List Value} (h:Lib.BuilderAtF 108 5 B b p bs w) (hb:Below w.heap.size w w'):Lib.BuilderAtF 108 5 B b p bs w':=by
 obtain ⟨h1,v,h2,h3,h4⟩:=h
 have lt:∀ k o,w.heap[k]?=some o→k<w.heap.size:=fun k o hk=>(Array.getElem?_eq_some_iff.1 hk).1
 refine ⟨h1,v,(hb.block b (lt b _ h2)).trans h2,⟨h3.1,?_⟩,h4⟩
 rcases h3.2 with h5 | ⟨g,cap,cur,fz,e1,e2,e3,e4⟩
 ·exact .inl h5
 ·exact .inr ⟨g,cap,cur,fz,e1,e2,(hb.block g (lt g _ e3)).trans e3,e4⟩
theorem Bld.kept {w w':World} {B b:Nat} {l:List UInt8} (h:Bld w B b l) (hb:Below w.heap.size w w'):Bld w' B b l :=
 h.elim (fun x=>.inl (atF_kept x hb)) (fun x=>.inr (atF_kept x hb))
theorem others_below {w w':World} {b:Option Nat} (hb:Below w.heap.size w w'):Lib.OthersKept 5 b w w' :=
 fun k _ hk _ _=>(hb.block k (Array.getElem?_eq_some_iff.1 hk).1).trans hk
theorem byteCells_length (l:List UInt8):(Lib.byteCells l).length=l.length:=by simp [Lib.byteCells]
theorem byteCells_append (l r:List UInt8):Lib.byteCells (l ++ r)=Lib.byteCells l ++ Lib.byteCells r:=by simp [Lib.byteCells]
def Wrote (w:World) (B b:Nat) (l:List UInt8) (w':World):Prop:=Bld w' B b l∧Below B w w'∧Lib.OthersKept 5 (some b) w w'
theorem writeByte_any (B b:Nat) (l:List UInt8) (c:UInt8) (m:Int) (hm:m=(c.toNat:Int)) (w:World) (h:Bld w B b l) (hl:l.length≤100000000) (hBw:B≤w.heap.size) :
  Calls Tryz.prog 114 #[.pointer (some ⟨b,0,none⟩),.int .u8 m] w fun e w'=>e=.returned .nilIface∧Wrote w B b (l ++ [c]) w':=by
 subst hm
 refine (Tryz.writeByte B b (Lib.byteCells l) (c.toNat:Int) w h (by rw [byteCells_length]; omega) hBw).mono ?_
 rintro e w' ⟨rfl,h1,h2,h3⟩
 exact ⟨rfl,.inr (by rw [byteCells_append]; exact h1),h2,h3⟩
theorem writeString_any (B b:Nat) (l t:List UInt8) (w:World) (h:Bld w B b l) (hl:l.length≤100000000) (ht:t.length≤100000000) (hBw:B≤w.heap.size) :
  Calls Tryz.prog 113 #[.pointer (some ⟨b,0,none⟩),.string (mk t)] w fun e w'=>e=.returned (.tuple #[.int .i64 (mk t).size,.nilIface])∧Wrote w B b (l ++ t) w':=by
 refine (Tryz.writeString B b (Lib.byteCells l) (mk t) w h (by rw [byteCells_length,mk_size]; omega) hBw).mono ?_
 rintro e w' ⟨rfl,h1,h2,h3⟩
 exact ⟨rfl,.inr (by rw [byteCells_append]; exact h1),h2,h3⟩
theorem writeRow_any (B b:Nat) (l:List UInt8) (A:Option Addr) (n c:Nat) (xs:List (List UInt8)) (mb:UInt8) (m:Int) (hm:m=(mb.toNat:Int)) (w0 w:World) (h:Bld w B b l) (hl:l.length≤100000) (hBw:B≤w.heap.size)
  (hr:SRow w0 A n xs) (hb0:Below w0.heap.size w0 w) (hB0:w0.heap.size≤B) (hc:n≤c) (hs:shortB xs=true) :
  Calls Tryz.prog 117 #[.pointer (some ⟨b,0,none⟩),.slice A n c,.int .u8 m] w fun e w'=>e=.returned (.tuple #[])∧Wrote w B b (l ++ rowText mb xs) w':=by
 have hn:=hr.1
 have hn40:n≤40:=by have:=((shortB_iff xs).1 hs).1; omega
 have HN:=Lib.hid hn; clear hn
 by_cases h0:n=0
 ·have HF:=Lib.hid (rowText_none (m:=mb) (xs:=xs) (by rw [HN.out]; exact h0))
  subst h0
  have H:=Lib.hid h
  clear h hr hm
  go_enter Tryz.func117,Tryz.ntmps117
  go_wp2
  go_end0
  exact ⟨rfl,by rw [HF.out,List.append_nil]; exact ⟨H.out,Below.refl _ _,Lib.OthersKept.refl _ _ _⟩⟩
 ·have HF:=Lib.hid (rowText_some (m:=mb) (xs:=xs) (by rw [HN.out]; exact h0))
  have HJ:=Lib.hid (short_joined hs)
  have H:=Lib.hid h
  have HR:=Lib.hid hr
  have HB0:=Lib.hid hb0
  have HS:=Lib.hid hs
  have HM:=Lib.hid hm
  have hpos:0<n:=by omega
  clear h hr hb0 hs h0 hm
  go_enter Tryz.func117,Tryz.ntmps117
  go_wp2_with fail
  refine (writeByte_any B b l mb m HM.out _ H.out (by omega) hBw).mono ?_
  rintro e w1 ⟨rfl,h1,hb1,hk1⟩
  have H1:=Lib.hid h1
  have HB1:=Lib.hid hb1
  have HK1:=Lib.hid hk1
  have HW1:=Lib.hid (HB0.out.trans (hb1.mono hB0))
  have hz1:=hb1.size
  clear h1 hb1 hk1
  go_wp2_with fail
  refine (Ident.text_any _ _ _ xs _ (HR.out.kept HW1.out) hc HS.out).mono ?_
  rintro e w2 ⟨rfl,hb2⟩
  have H2:=Lib.hid (H1.out.kept hb2)
  have HB2:=Lib.hid (HB1.out.trans (hb2.mono (by omega)))
  have HK2:=Lib.hid (HK1.out.trans (others_below (b:=some b) hb2))
  have hz2:=hb2.size
  clear hb2
  go_wp2_with fail
  refine (writeString_any B b (l ++ [mb]) (joined xs) _ H2.out (by rw [List.length_append]; simp; omega) (by have:=HJ.out; omega) (by omega)).mono ?_
  rintro e w3 ⟨rfl,h3,hb3,hk3⟩
  have H3:=Lib.hid h3
  have HB3:=Lib.hid (HB2.out.trans hb3)
  have HK3:=Lib.hid (HK2.out.trans hk3)
  clear h3 hb3 hk3
  go_wp2
  go_end0
  exact ⟨rfl,by rw [HF.out,← List.append_assoc]; exact ⟨H3.out,HB3.out,HK3.out⟩⟩
def TextAt (w:World) (v:Ver) (i:Nat) (w':World):Prop :=
 (i=0∧Bld w' (w.heap.size+1) (w.heap.size+1) [])∨(i=1∧Bld w' (w.heap.size+1) (w.heap.size+1) ([] ++ Lib.decDigits v.a ++ [46]))∨(i=2∧Bld w' (w.heap.size+1) (w.heap.size+1) ([] ++ Lib.decDigits v.a ++ [46] ++ Lib.decDigits v.b ++ [46]))
def TextJ (w:World) (v:Ver) (A:Option Addr) (c:Nat) (B:Option Addr) (d:Nat) (a':Act) (w':World):Prop :=
 ∃ (i bc:Nat) (u6 u7 u8 u9 u10 u11 u12 u13 u14 u15 u16 u17 u18 u19 u20 u21 u22 u23 u24:Value),Below w.heap.size w w'∧At5 w' w.heap.size v.a v.b v.c (.slice A v.pre.length c) (.slice B v.build.length d)∧w'.heap[bc]?=some (.cells #[v.a,v.b,v.c] 174)∧w.heap.size+1<bc∧TextAt w v i w' ∧
  a'={ tmps:=#[.agg #[v.a,v.b,v.c,.slice A v.pre.length c,.slice B v.build.length d],.pointer (some ⟨w.heap.size,0,none⟩),.string ⟨#[]⟩,.pointer (some ⟨w.heap.size+1,0,none⟩),.pointer (some ⟨bc,0,none⟩),.int .i64 i,u6,u7,u8,u9,u10,u11,u12,u13,u14,u15,u16,u17,u18,u19,u20,u21,u22,u23,u24],defers:=[] }
def TextM (a':Act) (_:World):Nat:=3 - (intOf (a'.tmps.getD 5 undef)).toNat
theorem vtext_any (v:Ver) (A:Option Addr) (c:Nat) (B:Option Addr) (d:Nat) (w:World) (ha:v.a<18446744073709551616) (hb:v.b<18446744073709551616) (hc:v.c<18446744073709551616)
  (hr1:SRow w A v.pre.length v.pre) (hr2:SRow w B v.build.length v.build) (hc1:v.pre.length≤c) (hc2:v.build.length≤d) (hs1:shortB v.pre=true) (hs2:shortB v.build=true) (htab:Tab w) :
  Calls Tryz.prog 58 #[.agg #[v.a,v.b,v.c,.slice A v.pre.length c,.slice B v.build.length d]] w fun e w'=>e=.returned (.string (mk (vtext v)))∧Below w.heap.size w w':=by
 have Ha:=Lib.hid ha
 have Hb:=Lib.hid hb
 have Hc:=Lib.hid hc
 have HDa:=Lib.hid (dec_le v.a ha)
 have HDb:=Lib.hid (dec_le v.b hb)
 have HDc:=Lib.hid (dec_le v.c hc)
 have HR1:=Lib.hid hr1
 have HR2:=Lib.hid hr2
 have HS1:=Lib.hid hs1
 have HS2:=Lib.hid hs2
 have HP1:=Lib.hid (rowText_le (m:=45) hs1)
 have HTab:=Lib.hid htab
 clear ha hb hc hr1 hr2 hs1 hs2 htab
 go_enter Tryz.func58,Tryz.ntmps58
 go_wp2
 refine wp_scope_back 0 (TextJ w v A c B d) TextM rfl ?_ ?_
 ·rintro a' w0 ⟨i,bc,u6,u7,u8,u9,u10,u11,u12,u13,u14,u15,u16,u17,u18,u19,u20,u21,u22,u23,u24,hbel,h5,hheap,hbc,hat,rfl⟩
  have HB:=Lib.hid hbel
  have H5:=Lib.hid h5
  have HC:=Lib.hid hheap
  have hz0:=h5.1
  have hzc:bc<w0.heap.size:=(Array.getElem?_eq_some_iff.1 hheap).1
  have hx0:w0.cell? ⟨bc,0,none⟩=some (.int .u64 v.a):=by rw [Lib.cell_of_heap hheap]; rfl
  have hx1:w0.cell? ⟨bc,1,none⟩=some (.int .u64 v.b):=by rw [Lib.cell_of_heap hheap]; rfl
  have hx2:w0.cell? ⟨bc,2,none⟩=some (.int .u64 v.c):=by rw [Lib.cell_of_heap hheap]; rfl
  clear hbel h5 hheap
  rcases hat with ⟨rfl,hl⟩ | ⟨rfl,hl⟩ | ⟨rfl,hl⟩
  ·have HL:=Lib.hid hl; clear hl
   have hlen:([]:List UInt8).length≤1000:=by simp only [List.length_nil]; omega
   have ht:=HTab.out.kept HB.out
   have HT:=Lib.hid ht; clear ht
   go_wp2_with fail
   refine (Num.text_any v.a Ha.out _ HT.out).mono ?_
   rintro e w1 ⟨rfl,hb1⟩
   have hz1:=hb1.size
   have L1:=Lib.hid (HL.out.kept hb1)
   have K1:=Lib.hid ((hb1.block bc (Array.getElem?_eq_some_iff.1 HC.out).1).trans HC.out)
   have Q1:=Lib.hid (H5.out.kept hb1 (by omega))
   have B1:=Lib.hid (HB.out.trans (hb1.mono (by omega)))
   clear hb1 HT HL HC H5 hx0 hx1 hx2
   go_wp2_with fail
   refine (writeString_any _ _ _ (Lib.decDigits v.a) _ L1.out (by have:=hlen; omega) (by have:=HDa.out; omega) (by omega)).mono ?_
   rintro e w2 ⟨rfl,l2,hb2,hk2⟩
   have hz2:=hb2.size
   have L2:=Lib.hid l2
   have K2:=Lib.hid (hk2 _ _ K1.out (by simp; omega) (by intro c fz e; injection e with _ e; exact absurd e (by decide)))
   have Q2:=Lib.hid (Q1.out.kept hb2 (by omega))
   have B2:=Lib.hid (B1.out.trans (hb2.mono (by omega)))
   clear l2 hb2 hk2 L1 K1 Q1 B1
   go_wp2_with fail
   refine (writeByte_any _ _ _ 46 46 rfl _ L2.out (by rw [List.length_append]; have:=hlen; have:=HDa.out; omega) (by omega)).mono ?_
   rintro e w3 ⟨rfl,l3,hb3,hk3⟩
   have hz3:=hb3.size
   have L3:=Lib.hid l3
   have K3:=Lib.hid (hk3 _ _ K2.out (by simp; omega) (by intro c fz e; injection e with _ e; exact absurd e (by decide)))
   have Q3:=Lib.hid (Q2.out.kept hb3 (by omega))
   have B3:=Lib.hid (B2.out.trans (hb3.mono (by omega)))
   clear l3 hb3 hk3 L2 K2 Q2 B2
   go_wp2
   go_step3
   refine ⟨rfl,⟨1,bc,_,_,_,_,_,_,_,_,_,_,_,_,_,_,_,_,_,_,_,B3.out,Q3.out,K3.out,hbc,.inr (.inl ⟨rfl,L3.out⟩),rfl⟩,?_⟩
   simp [TextM,intOf]
  ·have HL:=Lib.hid hl; clear hl
   have hlen:([] ++ Lib.decDigits v.a ++ [46]:List UInt8).length≤1000:=by simp only [List.length_append,List.length_singleton,List.length_nil]; have:=HDa.out; have:=HDb.out; omega
   have ht:=HTab.out.kept HB.out
   have HT:=Lib.hid ht; clear ht
   go_wp2_with fail
   refine (Num.text_any v.b Hb.out _ HT.out).mono ?_
   rintro e w1 ⟨rfl,hb1⟩
   have hz1:=hb1.size
   have L1:=Lib.hid (HL.out.kept hb1)
   have K1:=Lib.hid ((hb1.block bc (Array.getElem?_eq_some_iff.1 HC.out).1).trans HC.out)
   have Q1:=Lib.hid (H5.out.kept hb1 (by omega))
   have B1:=Lib.hid (HB.out.trans (hb1.mono (by omega)))
   clear hb1 HT HL HC H5 hx0 hx1 hx2
   go_wp2_with fail
   refine (writeString_any _ _ _ (Lib.decDigits v.b) _ L1.out (by have:=hlen; omega) (by have:=HDb.out; omega) (by omega)).mono ?_
   rintro e w2 ⟨rfl,l2,hb2,hk2⟩
   have hz2:=hb2.size
   have L2:=Lib.hid l2
   have K2:=Lib.hid (hk2 _ _ K1.out (by simp; omega) (by intro c fz e; injection e with _ e; exact absurd e (by decide)))
   have Q2:=Lib.hid (Q1.out.kept hb2 (by omega))
   have B2:=Lib.hid (B1.out.trans (hb2.mono (by omega)))
   clear l2 hb2 hk2 L1 K1 Q1 B1
   go_wp2_with fail
   refine (writeByte_any _ _ _ 46 46 rfl _ L2.out (by rw [List.length_append]; have:=hlen; have:=HDb.out; omega) (by omega)).mono ?_
   rintro e w3 ⟨rfl,l3,hb3,hk3⟩
   have hz3:=hb3.size
   have L3:=Lib.hid l3
   have K3:=Lib.hid (hk3 _ _ K2.out (by simp; omega) (by intro c fz e; injection e with _ e; exact absurd e (by decide)))
   have Q3:=Lib.hid (Q2.out.kept hb3 (by omega))
   have B3:=Lib.hid (B2.out.trans (hb3.mono (by omega)))
   clear l3 hb3 hk3 L2 K2 Q2 B2
   go_wp2
   go_step3
   refine ⟨rfl,⟨2,bc,_,_,_,_,_,_,_,_,_,_,_,_,_,_,_,_,_,_,_,B3.out,Q3.out,K3.out,hbc,.inr (.inr ⟨rfl,L3.out⟩),rfl⟩,?_⟩
   simp [TextM,intOf]
  ·have HL:=Lib.hid hl; clear hl
   have hlen:([] ++ Lib.decDigits v.a ++ [46] ++ Lib.decDigits v.b ++ [46]:List UInt8).length≤1000:=by simp only [List.length_append,List.length_singleton,List.length_nil]; have:=HDa.out; have:=HDb.out; omega
   have ht:=HTab.out.kept HB.out
   have HT:=Lib.hid ht; clear ht
   go_wp2_with fail
   refine (Num.text_any v.c Hc.out _ HT.out).mono ?_
   rintro e w1 ⟨rfl,hb1⟩
   have hz1:=hb1.size
   have L1:=Lib.hid (HL.out.kept hb1)
   have K1:=Lib.hid ((hb1.block bc (Array.getElem?_eq_some_iff.1 HC.out).1).trans HC.out)
   have Q1:=Lib.hid (H5.out.kept hb1 (by omega))
   have B1:=Lib.hid (HB.out.trans (hb1.mono (by omega)))
   clear hb1 HT HL HC H5 hx0 hx1 hx2
   go_wp2_with fail
   refine (writeString_any _ _ _ (Lib.decDigits v.c) _ L1.out (by have:=hlen; omega) (by have:=HDc.out; omega) (by omega)).mono ?_
   rintro e w2 ⟨rfl,l2,hb2,hk2⟩
   have hz2:=hb2.size
   have L2:=Lib.hid l2
   have K2:=Lib.hid (hk2 _ _ K1.out (by simp; omega) (by intro c fz e; injection e with _ e; exact absurd e (by decide)))
   have Q2:=Lib.hid (Q1.out.kept hb2 (by omega))
   have B2:=Lib.hid (B1.out.trans (hb2.mono (by omega)))
   clear l2 hb2 hk2 L1 K1 Q1 B1
   obtain ⟨_,_,g0,g1,g2,g3,g4⟩:=Q2.out
   have hlen2:([] ++ Lib.decDigits v.a ++ [46] ++ Lib.decDigits v.b ++ [46] ++ Lib.decDigits v.c).length≤1000:=by simp only [List.length_append,List.length_singleton,List.length_nil]; have:=HDa.out; have:=HDb.out; have:=HDc.out; omega
   go_wp2_with fail
   refine (writeRow_any _ _ _ A v.pre.length c v.pre 45 45 rfl w _ L2.out (by omega) (by omega) HR1.out B2.out (by omega) hc1 HS1.out).mono ?_
   rintro e w3 ⟨rfl,l3,hb3,hk3⟩
   have hz3:=hb3.size
   have L3:=Lib.hid l3
   have Q3:=Lib.hid (Q2.out.kept hb3 (by omega))
   have B3:=Lib.hid (B2.out.trans (hb3.mono (by omega)))
   clear l3 hb3 hk3 L2 K2 Q2 B2 g0 g1 g2 g3 g4
   obtain ⟨_,_,g0,g1,g2,g3,g4⟩:=Q3.out
   have hlen3:([] ++ Lib.decDigits v.a ++ [46] ++ Lib.decDigits v.b ++ [46] ++ Lib.decDigits v.c ++ rowText 45 v.pre).length≤20000:=by rw [List.length_append]; have:=HP1.out; omega
   go_wp2_with fail
   refine (writeRow_any _ _ _ B v.build.length d v.build 43 43 rfl w _ L3.out (by omega) (by omega) HR2.out B3.out (by omega) hc2 HS2.out).mono ?_
   rintro e w4 ⟨rfl,l4,hb4,hk4⟩
   have hz4:=hb4.size
   have L4:=Lib.hid l4
   have B4:=Lib.hid (B3.out.trans (hb4.mono (by omega)))
   clear l4 hb4 hk4 L3 Q3 B3 g0 g1 g2 g3 g4 hlen hlen2 hlen3
   have HTX:Hid ([] ++ Lib.decDigits v.a ++ [46] ++ Lib.decDigits v.b ++ [46] ++ Lib.decDigits v.c ++ rowText 45 v.pre ++ rowText 43 v.build=vtext v):=by unfold Hid vtext; rw [List.nil_append]
   generalize [] ++ Lib.decDigits v.a ++ [46] ++ Lib.decDigits v.b ++ [46] ++ Lib.decDigits v.c ++ rowText 45 v.pre ++ rowText 43 v.build=tx at L4 HTX
   go_wp2_with fail
   refine (Tryz.builderString _ _ _ _ L4.out (by omega)).mono ?_
   rintro e w5 ⟨rfl,_,hb5,_⟩
   have B5:=Lib.hid (B4.out.trans (hb5.mono (by omega)))
   clear hb5
   go_wp2
   simp only [Exit.jump]
   go_ret
   exact ⟨by rw [← HTX.out]; rfl,B5.out⟩
 ·intro HP
  have H5:=Lib.hid (At5.new w 34 v.a v.b v.c (.slice A v.pre.length c) (.slice B v.build.length d))
  have HN:=Bld.new (w.alloc (.cells #[v.a,v.b,v.c,.slice A v.pre.length c,.slice B v.build.length d] 34)) (w.heap.size+1) (by simp)
  rw [size_alloc] at HN
  have HBN:=Lib.hid HN; clear HN
  go_wp2_with fail
  refine (coreOf_any _ _ _ _ _ _).mono ?_
  rintro e w1 ⟨rfl,hb1⟩
  have hz1:w.heap.size+2≤w1.heap.size:=by have:=hb1.size; simpa using this
  have HBa:Hid (Below w.heap.size w ((w.alloc (.cells #[v.a,v.b,v.c,.slice A v.pre.length c,.slice B v.build.length d] 34)).alloc (.cells #[.pointer none,.slice none 0 0] 108))):=((Below.refl _ _).alloc (Nat.le_refl _) _).alloc (by simp) _
  have HBb:=Lib.hid (HBa.out.trans (hb1.mono (by simp; omega)))
  have H5b:=Lib.hid ((H5.out.kept ((Below.refl _ _).alloc (Nat.le_refl _) (.cells #[.pointer none,.slice none 0 0] 108)) (by simp)).kept hb1 (by simp; omega))
  have HLb:=Lib.hid (HBN.out.kept hb1)
  have HBc:=Lib.hid ((Below.refl w1.heap.size w1).alloc (Nat.le_refl _) (.cells #[v.a,v.b,v.c] 174))
  have HBd:=Lib.hid (HBb.out.trans (HBc.out.mono (by omega)))
  have H5d:=Lib.hid (H5b.out.kept HBc.out (by omega))
  have HLd:=Lib.hid (HLb.out.kept HBc.out)
  have HCd:Hid ((w1.alloc (.cells #[v.a,v.b,v.c] 174)).heap[w1.heap.size]?=some (.cells #[v.a,v.b,v.c] 174)):=by
   show (w1.heap.push _)[w1.heap.size]?=_
   simp
  clear hb1 H5 HBN HBa HBb H5b HLb HBc
  go_wp2
  go_step3
  rename_i hK
  exact hK _ _ (HP.out _ _ ⟨0,w1.heap.size,_,_,_,_,_,_,_,_,_,_,_,_,_,_,_,_,_,_,_,HBd.out,H5d.out,HCd.out,by omega,.inl ⟨rfl,HLd.out⟩,rfl⟩)
end Go.Proofs.YtnpjklaaokiikaaGreatDoor.Semver
namespace Go.Proofs.YtnpjklaaokiikaaGreatDoor.Semver
open Num Ident


/-! What is read. -/

theorem goodFrom_bound {pre:Bool}:∀ (xs:List (List UInt8)) (i:Nat),goodFrom pre xs i=true→(xs≠[]→xs.length+i≤16)∧∀ x ∈ xs,x.length≤255
 | [],_,_=>⟨fun h=>absurd rfl h,by simp⟩
 | x :: r,i,h=>by
  rw [goodFrom,Bool.and_eq_true,Bool.and_eq_true,beq_iff_eq,beq_iff_eq] at h
  have hf:=fault_pos h.1.1
  have ih:=goodFrom_bound r (i+1) h.2
  refine ⟨fun _=>?_,fun y hy=>?_⟩
  ·by_cases hr:r=[]
   ·subst hr; simp; omega
   ·have:=ih.1 hr
    rw [List.length_cons]; omega
  ·rcases List.mem_cons.1 hy with rfl | hy
   ·exact hf.2.1
   ·exact ih.2 y hy

end Go.Proofs.YtnpjklaaokiikaaGreatDoor.Semver
namespace Go.Proofs.YtnpjklaaokiikaaGreatDoor.Range
open Go.RowKit Num Ident Semver
mutual
def wt:Rng→Nat
 | .mk _ _ l=>1+wtL l
def wtL:List Rng→Nat
 | []=>0
 | r :: rs=>wt r+wtL rs
end
theorem wt_eq (r:Rng):wt r=1+wtL r.subs:=by cases r; rfl
theorem wtL_cons (r:Rng) (rs:List Rng):wtL (r :: rs)=wt r+wtL rs:=rfl
theorem least {p:Nat→Prop} (h:∃ n,p n):∃ m,p m∧∀ k,p k→m≤k:=by
 obtain ⟨n,hn⟩:=h
 induction n using Nat.strongRecOn with
 | _ n ih =>
  by_cases hk:∃ k,k<n∧p k
  ·obtain ⟨k,hlt,hp⟩:=hk; exact ih k hlt hp
  ·exact ⟨n,hn,fun k hp=>Nat.le_of_not_lt fun hlt=>hk ⟨k,hlt,hp⟩⟩
open Classical in
noncomputable def leastOf (p:Nat→Prop):Nat:=if h:∃ n,p n then Classical.choose (least h) else 0
theorem leastOf_at {p:Nat→Prop} (h:∃ n,p n):p (leastOf p):=by unfold leastOf; rw [dif_pos h]; exact (Classical.choose_spec (least h)).1
theorem leastOf_le {p:Nat→Prop} {k:Nat} (h:p k):leastOf p≤k:=by unfold leastOf; rw [dif_pos ⟨k,h⟩]; exact (Classical.choose_spec (least ⟨k,h⟩)).2 k h
theorem wp_scope_back_of {P:Program} {a:Act} {w:World} {Q:Exit→Act→World→Prop} {c rest:Code} (l:Nat) (J:Nat→Act→World→Prop) (hf:findLabel c l=some (Code.skip.seq rest))
  (pass:∀ m a w,J m a w→rest.wp P (Exit.jump l (fun a' w'=>∃ k,J k a' w'∧k<m) Q) a w)
  (first:Hid (∀ m a w,J m a w→rest.wp P (Exit.jump l (fun a' w'=>∃ k,J k a' w') Q) a w)→c.wp P (Exit.jump l (fun a' w'=>∃ k,J k a' w') Q) a w):(Code.scope c).wp P Q a w:=by
 refine wp_scope_back l (fun a w=>∃ k,J k a w) (fun a w=>leastOf fun k=>J k a w) hf (fun a w h=>?_) (fun H=>first fun m a w h=>H.out a w ⟨m,h⟩)
 refine wp_mono (pass _ a w (leastOf_at h)) fun e _ _ hq=>?_
 cases e <;> first
  | exact hq
  | (obtain ⟨he,k,hk,hlt⟩:=hq; exact ⟨he,⟨k,hk⟩,Nat.lt_of_le_of_lt (leastOf_le hk) hlt⟩)
end Go.Proofs.YtnpjklaaokiikaaGreatDoor.Range
