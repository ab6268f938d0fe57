/-
  What the theorem of the last text needs of these: SvRefSmall, RgProg, IdTexts, SvGood, PrCores. Conditions: as each theorem states.
-/
import Derived.Test.YtgfbflnhjpbceaaGreatDoorSetB1
import Derived.Test.YtgfbflnhjpbceaaGreatDoorSetB2
import Derived.Test.YtgfbflnhjpbceaaGreatDoorSetB3
import Derived.Test.YtgfbflnhjpbceaaGreatDoorSetB4
import Derived.Test.YtgfbflnhjpbceaaGreatDoorSetB5
import Derived.Test.YtgfbflnhjpbceaaGreatDoorSetB6
import Derived.Deep.CutBlock
import Derived.Deep.DeepCutAuto
import Derived.Test.YtgfbflnhjpbceaaGreatDoorShelfJoin
import Derived.StillTailTactics
set_option maxRecDepth 100000
set_option maxHeartbeats 25600000
namespace Go.Proofs.YtgfbflnhjpbceaaGreatDoor.Semver
open Go.RowKit Num Ident

theorem refGood_all (v:Ver) (A:Option Addr) (c:Nat) (B:Option Addr) (d:Nat) (w:World) (hr1:SRow w A v.pre.length v.pre) (hr2:SRow w B v.build.length v.build) (hn1:v.pre.length≤maxLen) (hn2:v.build.length≤maxLen) (hs1:∀ x ∈ v.pre,x.length≤maxLen) (hs2:∀ x ∈ v.build,x.length≤maxLen) :
  Calls Tryz.prog 27 #[.agg #[v.a,v.b,v.c,.slice A v.pre.length c,.slice B v.build.length d]] w fun e w'=>e=.returned (.bool (goodV v))∧Below w.heap.size w w':=by
 have HBa:Hid (Below w.heap.size w (w.alloc (.cells #[v.a,v.b,v.c,.slice A v.pre.length c,.slice B v.build.length d] 25))):=(Below.refl _ _).alloc (Nat.le_refl _) _
 have R1:=Lib.hid (hr1.kept HBa.out)
 have R2:=Lib.hid (hr2.kept HBa.out)
 have S1:=Lib.hid hs1
 have S2:=Lib.hid hs2
 have N1:=Lib.hid hn1
 have N2:=Lib.hid hn2
 have HG:Hid (goodV v=(heldB v.a v.b v.c && (goodFrom true v.pre 0 && goodFrom false v.build 0))):=rfl
 clear hr1 hr2 hs1 hs2 hn1 hn2
 by_cases h1:(v.a:Int)<9223372036854775808
 ·by_cases h2:(v.b:Int)<9223372036854775808
  ·by_cases h3:(v.c:Int)<9223372036854775808
   ·have HH:=Lib.hid (held_all h1 h2 h3)
    go_enter Tryz.func27,Tryz.ntmps27
    go_wp2_with fail
    refine (ref_good_all _ _ _ v.pre true _ R1.out N1.out S1.out).mono ?_
    rintro e w' ⟨rfl,rfl⟩
    generalize goodFrom true v.pre 0=g2 at HG ⊢
    cases g2
    ·go_wp2
     go_ret
     exact ⟨by rw [HG.out,HH.out]; rfl,HBa.out⟩
    go_wp2_with fail
    refine (ref_good_all _ _ _ v.build false _ R2.out N2.out S2.out).mono ?_
    rintro e w' ⟨rfl,rfl⟩
    go_wp2
    go_ret
    exact ⟨by rw [HG.out,HH.out]; simp,HBa.out⟩
   ·have HH:=Lib.hid (held_not3 (x:=v.a) (y:=v.b) h3)
    go_enter Tryz.func27,Tryz.ntmps27
    go_wp2
    go_ret
    exact ⟨by rw [HG.out,HH.out]; rfl,HBa.out⟩
  ·have HH:=Lib.hid (held_not2 (x:=v.a) (z:=v.c) h2)
   go_enter Tryz.func27,Tryz.ntmps27
   go_wp2
   go_ret
   exact ⟨by rw [HG.out,HH.out]; rfl,HBa.out⟩
 ·have HH:=Lib.hid (held_not1 (y:=v.b) (z:=v.c) h1)
  go_enter Tryz.func27,Tryz.ntmps27
  go_wp2
  go_ret
  exact ⟨by rw [HG.out,HH.out]; rfl,HBa.out⟩
theorem refSame_any (u v:Ver) (A1 A2 B1 B2:Option Addr) (c1 c2 d1 d2:Nat) (w:World) (r1:SRow w A1 u.pre.length u.pre) (r2:SRow w A2 u.build.length u.build) (q1:SRow w B1 v.pre.length v.pre) (q2:SRow w B2 v.build.length v.build)
  (hn1:u.pre.length≤maxLen) (hn2:u.build.length≤maxLen) (hn3:v.pre.length≤maxLen) (hn4:v.build.length≤maxLen) :
  Calls Tryz.prog 30 #[.agg #[u.a,u.b,u.c,.slice A1 u.pre.length c1,.slice A2 u.build.length c2],.agg #[v.a,v.b,v.c,.slice B1 v.pre.length d1,.slice B2 v.build.length d2]] w fun e w'=>e=.returned (.bool (sameV u v))∧Below w.heap.size w w':=by
 have HBa:Hid (Below w.heap.size w ((w.alloc (.cells #[u.a,u.b,u.c,.slice A1 u.pre.length c1,.slice A2 u.build.length c2] 25)).alloc (.cells #[v.a,v.b,v.c,.slice B1 v.pre.length d1,.slice B2 v.build.length d2] 25))):=((Below.refl _ _).alloc (Nat.le_refl _) _).alloc (by simp) _
 have R1:=Lib.hid (r1.kept HBa.out)
 have R2:=Lib.hid (r2.kept HBa.out)
 have Q1:=Lib.hid (q1.kept HBa.out)
 have Q2:=Lib.hid (q2.kept HBa.out)
 have N1:=Lib.hid hn1
 have N2:=Lib.hid hn2
 have N3:=Lib.hid hn3
 have N4:=Lib.hid hn4
 have K1:Hid (At5 ((w.alloc (.cells #[u.a,u.b,u.c,.slice A1 u.pre.length c1,.slice A2 u.build.length c2] 25)).alloc (.cells #[v.a,v.b,v.c,.slice B1 v.pre.length d1,.slice B2 v.build.length d2] 25)) w.heap.size u.a u.b u.c (.slice A1 u.pre.length c1) (.slice A2 u.build.length c2)):=(At5.new w 25 _ _ _ _ _).kept ((Below.refl _ _).alloc (Nat.le_refl _) _) (by simp)
 have K2:Hid (At5 ((w.alloc (.cells #[u.a,u.b,u.c,.slice A1 u.pre.length c1,.slice A2 u.build.length c2] 25)).alloc (.cells #[v.a,v.b,v.c,.slice B1 v.pre.length d1,.slice B2 v.build.length d2] 25)) (w.heap.size+1) v.a v.b v.c (.slice B1 v.pre.length d1) (.slice B2 v.build.length d2)):=by
  have:=At5.new (w.alloc (.cells #[u.a,u.b,u.c,.slice A1 u.pre.length c1,.slice A2 u.build.length c2] 25)) 25 v.a v.b v.c (.slice B1 v.pre.length d1) (.slice B2 v.build.length d2)
  rw [size_alloc] at this; exact this
 clear r1 r2 q1 q2 hn1 hn2 hn3 hn4
 by_cases h1:u.a=v.a
 ·have e1:((u.a:Int) == (v.a:Int))=true:=by simp [h1]
  by_cases h2:u.b=v.b
  ·have e2:((u.b:Int) == (v.b:Int))=true:=by simp [h2]
   by_cases h3:u.c=v.c
   ·have e3:((u.c:Int) == (v.c:Int))=true:=by simp [h3]
    have HF:Hid (sameV u v=(sameB u.pre v.pre && sameB u.build v.build)):=by unfold Hid sameV; rw [decide_eq_true ⟨h1,h2,h3⟩]; rfl
    clear h1 h2 h3
    go_enter Tryz.func30,Tryz.ntmps30
    go_upto_region 1 with (fail)
    generalize ((w.alloc (.cells #[u.a,u.b,u.c,.slice A1 u.pre.length c1,.slice A2 u.build.length c2] 25)).alloc (.cells #[v.a,v.b,v.c,.slice B1 v.pre.length d1,.slice B2 v.build.length d2] 25))=W at HBa R1 R2 Q1 Q2 K1 K2 ⊢
    have hz:=K2.out.1
    have hzw:=HBa.out.size
    obtain ⟨_,_,x0,x1,x2,x3,x4⟩:=K1.out
    obtain ⟨_,_,y0,y1,y2,y3,y4⟩:=K2.out
    go_wp2_with fail
    refine (same_any _ _ _ u.pre _ _ _ v.pre _ R1.out Q1.out N1.out N3.out).mono ?_
    rintro e w1 ⟨rfl,hb1⟩
    have L1:=Lib.hid (K1.out.kept hb1 (by omega))
    have L2:=Lib.hid (K2.out.kept hb1 (by omega))
    have R2':=Lib.hid (R2.out.kept hb1)
    have Q2':=Lib.hid (Q2.out.kept hb1)
    have HB1:=Lib.hid (HBa.out.trans (hb1.mono hzw))
    have hz1:=HB1.out.size
    clear hb1 x0 x1 x2 x3 x4 y0 y1 y2 y3 y4
    obtain ⟨_,_,x0,x1,x2,x3,x4⟩:=L1.out
    obtain ⟨_,_,y0,y1,y2,y3,y4⟩:=L2.out
    generalize sameB u.pre v.pre=g1 at HF ⊢
    cases g1
    ·go_wp2
     go_ret
     exact ⟨by rw [HF.out]; rfl,HB1.out⟩
    go_wp2_with fail
    refine (same_any _ _ _ u.build _ _ _ v.build _ R2'.out Q2'.out N2.out N4.out).mono ?_
    rintro e w2 ⟨rfl,hb2⟩
    have HB2:=Lib.hid (HB1.out.trans (hb2.mono hz1))
    clear hb2 x0 x1 x2 x3 x4 y0 y1 y2 y3 y4
    go_wp2
    go_ret
    exact ⟨by rw [HF.out]; simp,HB2.out⟩
   ·have e3:((u.c:Int) == (v.c:Int))=false:=by simp; omega
    have HF:=Lib.hid (sameV_no (u:=u) (v:=v) fun h=>h3 h.2.2)
    clear h1 h2 h3
    go_enter Tryz.func30,Tryz.ntmps30
    go_wp2
    go_ret
    exact ⟨by rw [HF.out]; rfl,HBa.out⟩
  ·have e2:((u.b:Int) == (v.b:Int))=false:=by simp; omega
   have HF:=Lib.hid (sameV_no (u:=u) (v:=v) fun h=>h2 h.2.1)
   clear h1 h2
   go_enter Tryz.func30,Tryz.ntmps30
   go_wp2
   go_ret
   exact ⟨by rw [HF.out]; rfl,HBa.out⟩
 ·have e1:((u.a:Int) == (v.a:Int))=false:=by simp; omega
  have HF:=Lib.hid (sameV_no (u:=u) (v:=v) fun h=>h1 h.1)
  clear h1
  go_enter Tryz.func30,Tryz.ntmps30
  go_wp2
  go_ret
  exact ⟨by rw [HF.out]; rfl,HBa.out⟩
end Go.Proofs.YtgfbflnhjpbceaaGreatDoor.Semver
namespace Go.Proofs.YtgfbflnhjpbceaaGreatDoor.Range
open Num Ident Semver

theorem stands_nil (s:List UInt8):stands [] s=true:=by cases s <;> rfl
theorem stands_split {t s:List UInt8} (h:stands t s=true):s=t ++ s.drop t.length:=by
 unfold stands at h
 obtain ⟨u,rfl⟩:=List.isPrefixOf_iff_prefix.1 h
 simp
theorem stands_len {t s:List UInt8} (h:stands t s=true):t.length≤s.length:=by
 rw [stands_split h]; simp
theorem blanks_drop (s:List UInt8):∃ k,k≤s.length∧blanks s=s.drop k:=by
 induction s with
 | nil=>exact ⟨0,by simp,rfl⟩
 | cons b s ih =>
  rw [blanks]
  split
  ·obtain ⟨k,h1,h2⟩:=ih
   exact ⟨k+1,by simpa using h1,by rw [h2]; rfl⟩
  ·exact ⟨0,by simp,rfl⟩
theorem blanks_len (s:List UInt8):(blanks s).length≤s.length:=by
 obtain ⟨k,_,h⟩:=blanks_drop s
 rw [h,List.length_drop]; omega
theorem blanks_yes {b:UInt8} (s:List UInt8) (h:blankB b=true):blanks (b :: s)=blanks s:=by rw [blanks,if_pos h]
theorem blanks_no {b:UInt8} (s:List UInt8) (h:blankB b=false):blanks (b :: s)=b :: s:=by rw [blanks,h]; simp
theorem lackN_ne (s:List UInt8):lackN s≠0:=by unfold lackN; split <;> decide
def Piece (s' s:List UInt8):Prop:=∃ k,s'=s.drop k
theorem Piece.refl (s:List UInt8):Piece s s:=⟨0,rfl⟩
theorem Piece.trans {a b c:List UInt8} (h:Piece a b) (k:Piece b c):Piece a c:=by
 obtain ⟨i,rfl⟩:=h
 obtain ⟨j,rfl⟩:=k
 exact ⟨j+i,by rw [List.drop_drop]⟩
theorem Piece.drop (s:List UInt8) (k:Nat):Piece (s.drop k) s:=⟨k,rfl⟩
theorem Piece.blanks (s:List UInt8):Piece (blanks s) s:=by
 obtain ⟨k,_,h⟩:=blanks_drop s
 exact ⟨k,h⟩
theorem Piece.len {a b:List UInt8} (h:Piece a b):a.length≤b.length:=by
 obtain ⟨k,rfl⟩:=h; rw [List.length_drop]; omega
def Prog (pf:List UInt8→Out):Prop:=∀ s,(pf s).1=0→(pf s).2.1.length<s.length
def Falls (ff:List UInt8→Option (List UInt8)):Prop:=∀ s s',ff s=some s'→s'.length≤s.length
def Pieces (pf:List UInt8→Out):Prop:=∀ s,Piece (pf s).2.1 s
def PiecesF (ff:List UInt8→Option (List UInt8)):Prop:=∀ s s',ff s=some s'→Piece s' s
theorem furE_piece:PiecesF furE:=by
 intro s s' h
 unfold furE at h
 split at h
 ·injection h with h; rw [← h]; exact (Piece.blanks _).trans (Piece.drop _ _)
 ·cases h
theorem furO_piece:PiecesF furO:=by
 intro s s' h
 unfold furO at h
 split at h
 ·injection h with h; rw [← h]; exact (Piece.blanks _).trans (Piece.drop _ _)
 ·split at h
  ·injection h with h; rw [← h]; exact Piece.refl _
  ·cases h
theorem PiecesF.falls {ff:List UInt8→Option (List UInt8)} (h:PiecesF ff):Falls ff:=fun s s' e=>(h s s' e).len
theorem sev_bad {pf:List UInt8→Out} {ff:List UInt8→Option (List UInt8)} {kind:Int} {n:Nat} {acc:List Rng} {s:List UInt8} (h:(pf s).1≠0):sev pf ff kind (n+1) acc s=((pf s).1,(pf s).2.1,noRng):=by rw [sev,if_pos h]
theorem sev_on {pf:List UInt8→Out} {ff:List UInt8→Option (List UInt8)} {kind:Int} {n:Nat} {acc:List Rng} {s s':List UInt8} (h:(pf s).1=0) (hf:ff (pf s).2.1=some s'):sev pf ff kind (n+1) acc s=sev pf ff kind n (acc ++ [(pf s).2.2]) s':=by
 rw [sev,if_neg (by simp [h]),hf]
theorem sev_end {pf:List UInt8→Out} {ff:List UInt8→Option (List UInt8)} {kind:Int} {n:Nat} {acc:List Rng} {s:List UInt8} (h:(pf s).1=0) (hf:ff (pf s).2.1=none):sev pf ff kind (n+1) acc s=(0,(pf s).2.1,whole kind acc (pf s).2.2):=by
 rw [sev,if_neg (by simp [h]),hf]
theorem sev_prog {pf:List UInt8→Out} {ff:List UInt8→Option (List UInt8)} {kind:Int} (hp:Prog pf) (hf:Falls ff):∀ (n:Nat) (acc:List Rng) (s:List UInt8),(sev pf ff kind n acc s).1=0→(sev pf ff kind n acc s).2.1.length<s.length
 | 0,_,_,h=>by rw [sev] at h; exact absurd h (by simp)
 | n+1,acc,s,h=>by
  by_cases h0:(pf s).1=0
  ·have h1:=hp s h0
   cases h2:ff (pf s).2.1 with
   | some s' =>
    rw [sev_on h0 h2] at h ⊢
    have:=sev_prog hp hf n _ s' h
    have:=hf _ _ h2
    omega
   | none=>rw [sev_end h0 h2]; exact h1
  ·rw [sev_bad h0] at h; exact absurd h h0
theorem sev_piece {pf:List UInt8→Out} {ff:List UInt8→Option (List UInt8)} {kind:Int} (hp:Pieces pf) (hf:PiecesF ff):∀ (n:Nat) (acc:List Rng) (s:List UInt8),Piece (sev pf ff kind n acc s).2.1 s
 | 0,_,_=>Piece.refl _
 | n+1,acc,s=>by
  by_cases h0:(pf s).1=0
  ·cases h2:ff (pf s).2.1 with
   | some s'=>rw [sev_on h0 h2]; exact ((sev_piece hp hf n _ s').trans (hf _ _ h2)).trans (hp s)
   | none=>rw [sev_end h0 h2]; exact hp s
  ·rw [sev_bad h0]; exact hp s
theorem everyF_prog {pf:List UInt8→Out} (h:Prog pf):Prog (everyF pf):=fun s=>sev_prog h furO_piece.falls _ _ s
theorem exprF_prog {pf:List UInt8→Out} (h:Prog pf):Prog (exprF pf):=fun s=>sev_prog (everyF_prog h) furE_piece.falls _ _ s
theorem everyF_piece {pf:List UInt8→Out} (h:Pieces pf):Pieces (everyF pf):=fun s=>sev_piece h furO_piece _ _ s
theorem exprF_piece {pf:List UInt8→Out} (h:Pieces pf):Pieces (exprF pf):=fun s=>sev_piece (everyF_piece h) furE_piece _ _ s
theorem ver_piece (kind:Int):Pieces (verAt kind):=by
 intro s
 unfold verAt
 split
 ·split
  ·exact Piece.drop _ _
  ·exact (Piece.blanks _).trans (Piece.drop _ _)
 ·exact Piece.refl _
theorem shutF_piece {t:Out} {s:List UInt8} (h:Piece t.2.1 s):Piece (shutF t).2.1 s:=by
 unfold shutF
 split
 ·exact h
 ·split
  ·exact ((Piece.blanks _).trans (Piece.drop _ _)).trans h
  ·exact h
theorem notF_piece {t:Out} {s:List UInt8} (h:Piece t.2.1 s):Piece (notF t).2.1 s:=by
 unfold notF; split <;> exact h
theorem oneF_piece {sub:Option (List UInt8→Out)} (h:∀ f,sub=some f→Pieces f):Pieces (oneF sub):=by
 intro s
 have hd:∀ k,Piece (blanks (s.drop k)) s:=fun k=>(Piece.blanks _).trans (Piece.drop _ _)
 unfold oneF
 split
 ·exact hd 1
 ·split
  ·cases sub with
   | none=>exact Piece.refl _
   | some f=>exact shutF_piece ((exprF_piece (h f rfl) _).trans (hd 1))
  ·split
   ·cases sub with
    | none=>exact Piece.refl _
    | some f=>exact notF_piece ((h f rfl _).trans (hd 1))
   ·exact (ver_piece _ _).trans (hd _)
theorem pone_piece:∀ k,Pieces (pone k)
 | 0=>oneF_piece fun f h=>by cases h
 | k+1=>oneF_piece fun f h=>by injection h with h; rw [← h]; exact pone_piece k
theorem oneOf_cons {some s:List UInt8} (h:oneOf some s=true):∃ b r,s=b :: r∧b ∈ some:=by
 cases s with
 | nil=>cases h
 | cons b r=>exact ⟨b,r,rfl,of_decide_eq_true h⟩
theorem core2_ge {l:List UInt8} {x y p:Nat} (h:(core2 l x y p).1=0):p≤(core2 l x y p).2.1:=by
 unfold core2 at h ⊢
 by_cases h0:(parse l p).2.2≠0
 ·rw [if_pos h0] at h; exact absurd h h0
 ·rw [if_neg h0]; exact Nat.le_add_right _ _
theorem after2_gt {l:List UInt8} {x y q:Nat} (h:(after2 l x y q).1=0):q<(after2 l x y q).2.1:=by
 unfold after2 at h ⊢
 by_cases h0:point l q≠0
 ·rw [if_pos h0] at h; exact absurd h h0
 ·rw [if_neg h0] at h ⊢; exact core2_ge h
theorem core1_ge {l:List UInt8} {x p:Nat} (h:(core1 l x p).1=0):p≤(core1 l x p).2.1:=by
 unfold core1 at h ⊢
 by_cases h0:(parse l p).2.2≠0
 ·rw [if_pos h0] at h; exact absurd h h0
 ·rw [if_neg h0] at h ⊢; have:=after2_gt h; omega
theorem after1_gt {l:List UInt8} {x q:Nat} (h:(after1 l x q).1=0):q<(after1 l x q).2.1:=by
 unfold after1 at h ⊢
 by_cases h0:point l q≠0
 ·rw [if_pos h0] at h; exact absurd h h0
 ·rw [if_neg h0] at h ⊢; exact core1_ge h
theorem core_gt {l:List UInt8} {p:Nat} (h:(core l p).1=0):p<(core l p).2.1:=by
 unfold core at h ⊢
 by_cases h0:(parse l p).2.2≠0
 ·rw [if_pos h0] at h; exact absurd h h0
 ·rw [if_neg h0] at h ⊢; have:=after1_gt h; omega
theorem rowAt_ge (l:List UInt8) (p m:Nat):p≤(Semver.rowAt l p m).2.1:=by
 unfold Semver.rowAt; split
 ·exact Nat.le_refl _
 ·show p≤p+1+_; omega
theorem inside_gt {l:List UInt8} {p:Nat} (h:(inside l p).1=0):p<(inside l p).2.1:=by
 unfold inside at h ⊢
 by_cases h0:(core l p).1≠0
 ·rw [if_pos h0] at h; exact absurd h h0
 ·rw [if_neg h0] at h ⊢
  have h1:=core_gt (l:=l) (p:=p) (by simpa using h0)
  unfold tail1 at h ⊢
  have h2:=rowAt_ge l (core l p).2.1 45
  by_cases h3:(Semver.rowAt l (core l p).2.1 45).1≠0
  ·rw [if_pos h3] at h; exact absurd h h3
  ·rw [if_neg h3] at h ⊢
   unfold tail2 at h ⊢
   have h4:=rowAt_ge l (Semver.rowAt l (core l p).2.1 45).2.1 43
   split
   ·rename_i h5; rw [if_pos h5] at h; exact absurd h h5
   ·show p<(Semver.rowAt l (Semver.rowAt l (core l p).2.1 45).2.1 43).2.1; omega
theorem vparse_gt {l:List UInt8} (h:(vparse l 0).1=0):0<(vparse l 0).2.1:=by
 unfold vparse at h ⊢
 rw [if_neg (by omega),Int.toNat_zero] at h ⊢
 exact inside_gt h
theorem ver_prog (kind:Int):Prog (verAt kind):=by
 intro s h
 unfold verAt at h ⊢
 by_cases h0:oneOf digits s=true
 ·obtain ⟨b,r,rfl,_⟩:=oneOf_cons h0
  rw [if_pos h0] at h ⊢
  by_cases h1:(vparse (b :: r) 0).1≠0
  ·rw [if_pos h1] at h; exact absurd h h1
  ·rw [if_neg h1]
   have h2:=vparse_gt (l:=b :: r) (by simpa using h1)
   have h3:=blanks_len ((b :: r).drop (vparse (b :: r) 0).2.1)
   simp only [List.length_drop,List.length_cons] at h3 ⊢
   omega
 ·rw [if_neg h0] at h; exact absurd h (lackN_ne s)
theorem shutF_prog {t:Out} (h:(shutF t).1=0):t.1=0∧stands [41] t.2.1=true∧shutF t=(0,blanks (t.2.1.drop 1),t.2.2):=by
 unfold shutF at h ⊢
 by_cases h0:t.1≠0
 ·rw [if_pos h0] at h; exact absurd h h0
 ·rw [if_neg h0] at h ⊢
  by_cases h1:stands [41] t.2.1=true
  ·exact ⟨by simpa using h0,h1,by rw [if_pos h1]⟩
  ·rw [if_neg h1] at h; exact absurd h (lackN_ne _)
theorem notF_prog {t:Out} (h:(notF t).1=0):t.1=0∧notF t=(0,t.2.1,.mk 11 noVer [t.2.2]):=by
 unfold notF at h ⊢
 by_cases h0:t.1≠0
 ·rw [if_pos h0] at h; exact absurd h h0
 ·rw [if_neg h0]; exact ⟨by simpa using h0,rfl⟩
theorem oneF_prog {sub:Option (List UInt8→Out)} (hs:∀ f,sub=some f→Prog f):Prog (oneF sub):=by
 intro s h
 have hd:∀ k,0<k→k≤s.length→(blanks (s.drop k)).length<s.length:=fun k h0 hk=>by
  have:=blanks_len (s.drop k); rw [List.length_drop] at this; omega
 unfold oneF at h ⊢
 by_cases h1:stands [42] s=true
 ·rw [if_pos h1]; exact hd 1 (by decide) (stands_len h1)
 ·rw [if_neg h1] at h ⊢
  by_cases h2:stands [40] s=true
  ·rw [if_pos h2] at h ⊢
   have h3:=hd 1 (by decide) (stands_len h2)
   cases sub with
   | none=>exact absurd h (show (8:Nat)≠0 by decide)
   | some f =>
    simp only at h ⊢
    obtain ⟨a1,a2,a3⟩:=shutF_prog h
    rw [a3]
    have h4:=exprF_prog (hs f rfl) _ a1
    have h5:=blanks_len ((exprF f (blanks (s.drop 1))).2.1.drop 1)
    rw [List.length_drop] at h5
    show (blanks _).length<_
    omega
  ·rw [if_neg h2] at h ⊢
   by_cases h3:(opOf s).2=[]∧stands [33] s=true
   ·rw [if_pos h3] at h ⊢
    have h4:=hd 1 (by decide) (stands_len h3.2)
    cases sub with
    | none=>exact absurd h (show (8:Nat)≠0 by decide)
    | some f =>
     simp only at h ⊢
     obtain ⟨a1,a2⟩:=notF_prog h
     rw [a2]
     have h5:=hs f rfl _ a1
     show (f (blanks (s.drop 1))).2.1.length<_
     omega
   ·rw [if_neg h3] at h ⊢
    have h4:=ver_prog _ _ h
    have h5:=blanks_len (s.drop (opOf s).2.length)
    rw [List.length_drop] at h5
    omega
theorem pone_prog:∀ k,Prog (pone k)
 | 0=>oneF_prog fun f h=>by cases h
 | k+1=>oneF_prog fun f h=>by injection h with h; rw [← h]; exact pone_prog k
end Go.Proofs.YtgfbflnhjpbceaaGreatDoor.Range
namespace Go.Proofs.YtgfbflnhjpbceaaGreatDoor.Ident
open Go.RowKit Num

theorem text_any (A:Option Addr) (n c:Nat) (xs:List (List UInt8)) (w:World) (hr:SRow w A n xs) (hc:n≤c) (hs:shortB xs=true) :
  Calls Tryz.prog 146 #[.slice A n c] w fun e w'=>e=.returned (.string (mk (joined xs)))∧Below w.heap.size w w':=by
 have HJ:Hid (∀ W,W=w→Calls Tryz.prog 164 #[.slice A n c,.string ⟨#[46]⟩] W fun e w'=>e=.returned (.string (mk (joined xs)))∧Below w.heap.size w w'):=by
  rintro W rfl
  have hn:=hr.1
  rw [shortB_iff] at hs
  have hle:=joined_le xs hs.2
  rcases Nat.eq_zero_or_pos n with h0 | h0
  ·subst h0
   have e:xs=[]:=List.eq_nil_of_length_eq_zero hn
   subst e
   refine (Tryz.strings_Join_none A c ⟨#[46]⟩ W).mono ?_
   rintro e w' ⟨rfl,rfl⟩
   exact ⟨rfl,Below.refl _ _⟩
  ·obtain ⟨b,o,rfl,hb,hcell⟩:=hr.2 h0
   have e1:(xs.map mk).map (fun x:ByteArray=>x.data.toList)=xs:=by
    rw [List.map_map]; exact List.map_id xs
   have:=Tryz.strings_Join b o c (xs.map mk) ⟨#[46]⟩ W (fun j x hx=>by
    have hj:j<xs.length:=by have:=(List.getElem?_eq_some_iff.1 hx).1; rwa [List.length_map] at this
    have hx2:x=mk (xs.getD j []):=by
     rw [List.getElem?_map,List.getElem?_eq_getElem hj] at hx
     simp at hx
     rw [← hx]; simp [List.getD,List.getElem?_eq_getElem hj]
    rw [hx2]; exact hcell j (by omega)) hb (by rw [List.length_map]; omega) (by rw [List.length_map]; omega) (by
     rw [e1]
     show (joined xs).length≤_
     omega)
   rw [e1,List.length_map,hn] at this
   exact this
 clear hr hs
 go_enter Tryz.func146,Tryz.ntmps146
 go_wp2_with fail
 refine (HJ.out _ rfl).mono ?_
 rintro e w1 ⟨rfl,hb1⟩
 go_wp2
 go_ret
 exact ⟨rfl,hb1⟩
end Go.Proofs.YtgfbflnhjpbceaaGreatDoor.Ident
namespace Go.Proofs.YtgfbflnhjpbceaaGreatDoor.Semver
open Go.RowKit Num Ident

def HeldAt (x y z i:Nat):Prop:=i=0∨(i=1∧x≤maxField)∨(i=2∧x≤maxField∧y≤maxField)∨(i=3∧x≤maxField∧y≤maxField∧z≤maxField)
def HeldJ (w:World) (x y z:Nat) (a':Act) (w':World):Prop :=
 ∃ (i:Nat) (u4 u5 u6 u7 u8 u9 u10 u11:Value),w'=w.alloc (.cells #[.int .u64 x,.int .u64 y,.int .u64 z] 99)∧HeldAt x y z i ∧
  a'={ tmps:=#[.agg #[.int .u64 x,.int .u64 y,.int .u64 z],.pointer (some ⟨w.heap.size,0,none⟩),.bool false,.int .i64 i,u4,u5,u6,u7,u8,u9,u10,u11],defers:=[] }
def HeldM (a':Act) (_:World):Nat:=4 - (intOf (a'.tmps.getD 3 undef)).toNat
theorem held_any (x y z:Nat) (w:World) :
  Calls Tryz.prog 70 #[.agg #[.int .u64 x,.int .u64 y,.int .u64 z]] w fun e w'=>e=.returned (.bool (heldB x y z))∧Below w.heap.size w w':=by
 have HB:Hid (Below w.heap.size w (w.alloc (.cells #[.int .u64 x,.int .u64 y,.int .u64 z] 99))):=(Below.refl _ _).alloc (Nat.le_refl _) _
 go_enter Tryz.func70,Tryz.ntmps70
 go_wp2
 refine wp_scope_back 0 (HeldJ w x y z) HeldM rfl ?_ ?_
 ·rintro a' w1 ⟨i,u4,u5,u6,u7,u8,u9,u10,u11,rfl,hat,rfl⟩
  rcases hat with rfl | ⟨rfl,h1⟩ | ⟨rfl,h1,h2⟩ | ⟨rfl,h1,h2,h3⟩
  ·by_cases hx:(x:Int)≤9223372036854775807
   ·have HX:=Lib.hid (field_le hx)
    go_wp2
    go_step3
    refine ⟨rfl,⟨1,_,_,_,_,_,_,_,_,rfl,.inr (.inl ⟨rfl,HX.out⟩),rfl⟩,?_⟩
    simp [HeldM,intOf]
   ·have HF:Hid (heldB x y z=false):=heldB_no fun hh=>field_no hx hh.1
    have hx2:(9223372036854775807:Int)<(x:Int):=by omega
    clear hx
    go_wp2
    simp only [Exit.jump]
    go_ret
    exact ⟨by rw [HF.out]; rfl,HB.out⟩
  ·have H1:=Lib.hid h1; clear h1
   by_cases hx:(y:Int)≤9223372036854775807
   ·have HX:=Lib.hid (field_le hx)
    go_wp2
    go_step3
    refine ⟨rfl,⟨2,_,_,_,_,_,_,_,_,rfl,.inr (.inr (.inl ⟨rfl,H1.out,HX.out⟩)),rfl⟩,?_⟩
    simp [HeldM,intOf]
   ·have HF:Hid (heldB x y z=false):=heldB_no fun hh=>field_no hx hh.2.1
    have hx2:(9223372036854775807:Int)<(y:Int):=by omega
    clear hx
    go_wp2
    simp only [Exit.jump]
    go_ret
    exact ⟨by rw [HF.out]; rfl,HB.out⟩
  ·have H1:=Lib.hid h1; clear h1; have H2:=Lib.hid h2; clear h2
   by_cases hx:(z:Int)≤9223372036854775807
   ·have HX:=Lib.hid (field_le hx)
    go_wp2
    go_step3
    refine ⟨rfl,⟨3,_,_,_,_,_,_,_,_,rfl,.inr (.inr (.inr ⟨rfl,H1.out,H2.out,HX.out⟩)),rfl⟩,?_⟩
    simp [HeldM,intOf]
   ·have HF:Hid (heldB x y z=false):=heldB_no fun hh=>field_no hx hh.2.2
    have hx2:(9223372036854775807:Int)<(z:Int):=by omega
    clear hx
    go_wp2
    simp only [Exit.jump]
    go_ret
    exact ⟨by rw [HF.out]; rfl,HB.out⟩
  ·have HF:=Lib.hid (heldB_yes h1 h2 h3)
   clear h1 h2 h3
   go_wp2
   simp only [Exit.jump]
   go_ret
   exact ⟨by rw [HF.out]; rfl,HB.out⟩
 ·intro HP
  go_wp2
  go_step3
  rename_i hK
  exact hK _ _ (HP.out _ _ ⟨0,_,_,_,_,_,_,_,_,rfl,.inl rfl,rfl⟩)
theorem vgood_any (v:Ver) (A:Option Addr) (c:Nat) (B:Option Addr) (d:Nat) (w:World) (hr1:SRow w A v.pre.length v.pre) (hr2:SRow w B v.build.length v.build)
  (hn1:v.pre.length≤maxLen) (hn2:v.build.length≤maxLen) (hx1:∀ x ∈ v.pre,x.length≤maxLen) (hx2:∀ x ∈ v.build,x.length≤maxLen) :
  Calls Tryz.prog 37 #[.agg #[v.a,v.b,v.c,.slice A v.pre.length c,.slice B v.build.length d]] w fun e w'=>e=.returned (.bool (goodV v))∧Below w.heap.size w w':=by
 have R1:=Lib.hid hr1
 have R2:=Lib.hid hr2
 have N1:=Lib.hid hn1
 have N2:=Lib.hid hn2
 have X1:=Lib.hid hx1
 have X2:=Lib.hid hx2
 clear hr1 hr2 hn1 hn2 hx1 hx2
 have HBa:=Lib.hid ((Below.refl w.heap.size w).alloc (Nat.le_refl _) (.cells #[v.a,v.b,v.c,.slice A v.pre.length c,.slice B v.build.length d] 25))
 have K0:=Lib.hid (At5.new w 25 v.a v.b v.c (.slice A v.pre.length c) (.slice B v.build.length d))
 have HG:Hid (goodV v=(heldB v.a v.b v.c && (goodFrom true v.pre 0 && goodFrom false v.build 0))):=rfl
 go_enter Tryz.func37,Tryz.ntmps37
 go_wp2_with fail
 refine (coreOf_any _ _ _ _ _ _).mono ?_
 rintro e w1 ⟨rfl,hb1⟩
 have K1:=Lib.hid (K0.out.kept hb1 (by simp))
 have B1:=Lib.hid (HBa.out.trans (hb1.mono (by simp)))
 have hz1:=K1.out.1
 clear hb1 K0 HBa
 go_wp2_with fail
 refine (held_any _ _ _ _).mono ?_
 rintro e w2 ⟨rfl,hb2⟩
 have K2:=Lib.hid (K1.out.kept hb2 (by omega))
 have B2:=Lib.hid (B1.out.trans (hb2.mono (by omega)))
 have hz2:=K2.out.1
 clear hb2 K1 B1
 generalize heldB v.a v.b v.c=g1 at HG ⊢
 obtain ⟨_,_,x0,x1,x2,x3,x4⟩:=K2.out
 cases g1
 ·go_wp2
  go_ret
  exact ⟨by rw [HG.out]; rfl,B2.out⟩
 go_wp2_with fail
 refine (good_any _ _ _ v.pre true _ (R1.out.kept B2.out) N1.out X1.out).mono ?_
 rintro e w3 ⟨rfl,hb3⟩
 have K3:=Lib.hid (K2.out.kept hb3 (by omega))
 have B3:=Lib.hid (B2.out.trans (hb3.mono (by omega)))
 clear hb3 x0 x1 x2 x3 x4
 generalize goodFrom true v.pre 0=g2 at HG ⊢
 obtain ⟨hz3,_,x0,x1,x2,x3,x4⟩:=K3.out
 cases g2
 ·go_wp2
  go_ret
  exact ⟨by rw [HG.out]; rfl,B3.out⟩
 go_wp2_with fail
 refine (good_any _ _ _ v.build false _ (R2.out.kept B3.out) N2.out X2.out).mono ?_
 rintro e w4 ⟨rfl,hb4⟩
 have B4:=Lib.hid (B3.out.trans (hb4.mono (by omega)))
 clear hb4 x0 x1 x2 x3 x4
 go_wp2
 go_ret
 exact ⟨by rw [HG.out]; simp,B4.out⟩
end Go.Proofs.YtgfbflnhjpbceaaGreatDoor.Semver
namespace Go.Proofs.YtgfbflnhjpbceaaGreatDoor.Prec
open Go.RowKit Num Ident Semver

theorem cmpU_any (x y:Nat) (w:World) :
  Calls Tryz.prog 150 #[.int .u64 x,.int .u64 y] w fun e w'=>e=.returned (.int .i64 (ordN x y))∧w=w':=by
 rcases Nat.lt_trichotomy x y with h | h | h
 ·have HF:=Lib.hid (ordN_lt h)
  go_enter Tryz.func150,Tryz.ntmps150
  go_wp2
  go_ret
  exact ⟨by rw [HF.out]; rfl,rfl⟩
 ·have HF:=Lib.hid (ordN_eq h)
  subst h
  go_enter Tryz.func150,Tryz.ntmps150
  go_wp2
  go_ret
  exact ⟨by rw [HF.out]; rfl,rfl⟩
 ·have HF:=Lib.hid (ordN_gt h)
  go_enter Tryz.func150,Tryz.ntmps150
  go_wp2
  go_ret
  exact ⟨by rw [HF.out]; rfl,rfl⟩

theorem coreOf_anyD (a b c:Int) (x y:Value) (w:World) :
  Calls Tryz.prog 123 #[.agg #[.int .u64 a,.int .u64 b,.int .u64 c,x,y]] w fun e w'=>e=.returned (.agg #[.int .u64 a,.int .u64 b,.int .u64 c])∧BelowD w.heap.size w w':=by
 go_enter Tryz.func123,Tryz.ntmps123
 go_wp2
 exact bodyPost_ret (v:=.agg #[.int .u64 a,.int .u64 b,.int .u64 c]) (by simp [results,Tryz.results123,go_sem]) rfl ⟨rfl,((BelowD.refl _ _).alloc (Nat.le_refl _) _).alloc (by simp) _⟩
theorem coreOf_any (a b c:Int) (x y:Value) (w:World) :
  Calls Tryz.prog 123 #[.agg #[.int .u64 a,.int .u64 b,.int .u64 c,x,y]] w fun e w'=>e=.returned (.agg #[.int .u64 a,.int .u64 b,.int .u64 c])∧Below w.heap.size w w':=dropD (coreOf_anyD a b c x y w)

def CoresAt (u v:Ver) (i:Nat):Prop:=i=0∨(i=1∧u.a=v.a)∨(i=2∧u.a=v.a∧u.b=v.b)
def CoresJ (w:World) (u v:Ver) (a':Act) (w':World):Prop :=
 ∃ (i:Nat) (u6 u7 u8 u9 u10 u11 u12 u13 u14 u15 u16 u17 u18 u19 u20 u21 u22 u23 u24:Value),BelowD w.heap.size w w'∧At3 w' w.heap.size u.a u.b u.c∧At3 w' (w.heap.size+1) v.a v.b v.c∧CoresAt u v i∧¬ (u.a=v.a∧u.b=v.b∧u.c=v.c) ∧
  a'={ tmps:=#[.agg #[u.a,u.b,u.c],.agg #[v.a,v.b,v.c],.pointer (some ⟨w.heap.size,0,none⟩),.pointer (some ⟨w.heap.size+1,0,none⟩),.int .i64 0,.int .i64 i,u6,u7,u8,u9,u10,u11,u12,u13,u14,u15,u16,u17,u18,u19,u20,u21,u22,u23,u24],defers:=[] }
def CoresM (a':Act) (_:World):Nat:=4 - (intOf (a'.tmps.getD 5 undef)).toNat
theorem beq_no {x y:Nat} (h:x≠y):((x:Int) == (y:Int))=false:=by simp; omega
theorem beq_yes {x y:Nat} (h:x=y):((x:Int) == (y:Int))=true:=by simp [h]

theorem cores_anyD (u v:Ver) (w:World) :
  Calls Tryz.prog 130 #[.agg #[u.a,u.b,u.c],.agg #[v.a,v.b,v.c]] w fun e w'=>e=.returned (.int .i64 (cmpCore u v))∧BelowD w.heap.size w w':=by
 have HBa:Hid (BelowD w.heap.size w ((w.alloc (.cells #[u.a,u.b,u.c] 147)).alloc (.cells #[v.a,v.b,v.c] 147))):=((BelowD.refl _ _).alloc (Nat.le_refl _) _).alloc (by simp) _
 have K1:Hid (At3 ((w.alloc (.cells #[u.a,u.b,u.c] 147)).alloc (.cells #[v.a,v.b,v.c] 147)) w.heap.size u.a u.b u.c):=(At3.new w 147 _ _ _).kept ((Below.refl _ _).alloc (Nat.le_refl _) _) (by simp)
 have K2:Hid (At3 ((w.alloc (.cells #[u.a,u.b,u.c] 147)).alloc (.cells #[v.a,v.b,v.c] 147)) (w.heap.size+1) v.a v.b v.c):=by
  have:=At3.new (w.alloc (.cells #[u.a,u.b,u.c] 147)) 147 v.a v.b v.c
  rw [size_alloc] at this; exact this
 go_enter Tryz.func130,Tryz.ntmps130
 go_wp2
 refine wp_scope_back 0 (CoresJ w u v) CoresM rfl ?_ ?_
 ·rintro a' w1 ⟨i,u6,u7,u8,u9,u10,u11,u12,u13,u14,u15,u16,u17,u18,u19,u20,u21,u22,u23,u24,hb1,k1,k2,hat,hne,rfl⟩
  have HB1:=Lib.hid hb1
  have L1:=Lib.hid k1
  have L2:=Lib.hid k2
  have hz1:=k2.1
  obtain ⟨_,_,x0,x1,x2⟩:=k1
  obtain ⟨_,_,y0,y1,y2⟩:=k2
  clear hb1
  rcases hat with rfl | ⟨rfl,h1⟩ | ⟨rfl,h1,h2⟩
  ·by_cases h:u.a=v.a
   ·have e1:=beq_yes h
    have HH:=Lib.hid h
    have HN:=Lib.hid hne
    clear h hne
    go_wp2
    go_still (by kernel_rfl)
    have HB2:=Lib.hid HB1.out.drew
    have M1:=Lib.hid (L1.out.kept (B:=w1.heap.size) (Below.refl _ _).drew (by omega))
    have M2:=Lib.hid (L2.out.kept (B:=w1.heap.size) (Below.refl _ _).drew (by omega))
    go_wp2
    go_step3
    refine ⟨rfl,⟨1,_,_,_,_,_,_,_,_,_,_,_,_,_,_,_,_,_,_,_,HB2.out,M1.out,M2.out,.inr (.inl ⟨rfl,HH.out⟩),HN.out,rfl⟩,?_⟩
    simp [CoresM,intOf]
   ·have e1:=beq_no h
    have HF:Hid (cmpCore u v=ordN u.a v.a):=cmpCore_1 h
    clear h hne
    go_wp2
    go_still (by kernel_rfl)
    have HB2:=Lib.hid HB1.out.drew
    have M1:=Lib.hid (L1.out.kept (B:=w1.heap.size) (Below.refl _ _).drew (by omega))
    have M2:=Lib.hid (L2.out.kept (B:=w1.heap.size) (Below.refl _ _).drew (by omega))
    clear x0 x1 x2 y0 y1 y2
    change Exit.then _ _ _ _ w1.drew
    generalize w1.drew=w2 at HB2 M1 M2 ⊢
    obtain ⟨_,_,x0,x1,x2⟩:=M1.out
    obtain ⟨_,_,y0,y1,y2⟩:=M2.out
    go_wp2
    go_still_tail 6,(by kernel_rfl)
    change wpList _ _ _ _ _ w2.drew
    have HB3:=Lib.hid HB2.out.drew
    generalize w2.drew=w3 at HB3 ⊢
    go_wp2_with fail
    refine (cmpU_any _ _ _).mono ?_
    rintro e w' ⟨rfl,rfl⟩
    go_wp2
    simp only [Exit.jump]
    go_ret
    exact ⟨by rw [HF.out]; rfl,HB3.out⟩
  ·have H1:=Lib.hid h1
   clear h1
   by_cases h:u.b=v.b
   ·have e1:=beq_yes h
    have HH:=Lib.hid h
    have HN:=Lib.hid hne
    clear h hne
    go_wp2
    go_still (by kernel_rfl)
    have HB2:=Lib.hid HB1.out.drew
    have M1:=Lib.hid (L1.out.kept (B:=w1.heap.size) (Below.refl _ _).drew (by omega))
    have M2:=Lib.hid (L2.out.kept (B:=w1.heap.size) (Below.refl _ _).drew (by omega))
    go_wp2
    go_step3
    refine ⟨rfl,⟨2,_,_,_,_,_,_,_,_,_,_,_,_,_,_,_,_,_,_,_,HB2.out,M1.out,M2.out,.inr (.inr ⟨rfl,H1.out,HH.out⟩),HN.out,rfl⟩,?_⟩
    simp [CoresM,intOf]
   ·have e1:=beq_no h
    have HF:Hid (cmpCore u v=ordN u.b v.b):=cmpCore_2 H1.out h
    clear h hne
    go_wp2
    go_still (by kernel_rfl)
    have HB2:=Lib.hid HB1.out.drew
    have M1:=Lib.hid (L1.out.kept (B:=w1.heap.size) (Below.refl _ _).drew (by omega))
    have M2:=Lib.hid (L2.out.kept (B:=w1.heap.size) (Below.refl _ _).drew (by omega))
    clear x0 x1 x2 y0 y1 y2
    change Exit.then _ _ _ _ w1.drew
    generalize w1.drew=w2 at HB2 M1 M2 ⊢
    obtain ⟨_,_,x0,x1,x2⟩:=M1.out
    obtain ⟨_,_,y0,y1,y2⟩:=M2.out
    go_wp2
    go_still_tail 6,(by kernel_rfl)
    change wpList _ _ _ _ _ w2.drew
    have HB3:=Lib.hid HB2.out.drew
    generalize w2.drew=w3 at HB3 ⊢
    go_wp2_with fail
    refine (cmpU_any _ _ _).mono ?_
    rintro e w' ⟨rfl,rfl⟩
    go_wp2
    simp only [Exit.jump]
    go_ret
    exact ⟨by rw [HF.out]; rfl,HB3.out⟩
  ·have H1:=Lib.hid h1
   have H2:=Lib.hid h2
   clear h1 h2
   by_cases h:u.c=v.c
   ·exact absurd ⟨H1.out,H2.out,h⟩ hne
   ·have e1:=beq_no h
    have HF:Hid (cmpCore u v=ordN u.c v.c):=cmpCore_3 H1.out H2.out
    clear h hne
    go_wp2
    go_still (by kernel_rfl)
    have HB2:=Lib.hid HB1.out.drew
    have M1:=Lib.hid (L1.out.kept (B:=w1.heap.size) (Below.refl _ _).drew (by omega))
    have M2:=Lib.hid (L2.out.kept (B:=w1.heap.size) (Below.refl _ _).drew (by omega))
    clear x0 x1 x2 y0 y1 y2
    change Exit.then _ _ _ _ w1.drew
    generalize w1.drew=w2 at HB2 M1 M2 ⊢
    obtain ⟨_,_,x0,x1,x2⟩:=M1.out
    obtain ⟨_,_,y0,y1,y2⟩:=M2.out
    go_wp2
    go_still_tail 6,(by kernel_rfl)
    change wpList _ _ _ _ _ w2.drew
    have HB3:=Lib.hid HB2.out.drew
    generalize w2.drew=w3 at HB3 ⊢
    go_wp2_with fail
    refine (cmpU_any _ _ _).mono ?_
    rintro e w' ⟨rfl,rfl⟩
    go_wp2
    simp only [Exit.jump]
    go_ret
    exact ⟨by rw [HF.out]; rfl,HB3.out⟩
 ·intro HP
  by_cases hn:u.a=v.a∧u.b=v.b∧u.c=v.c
  ·have HF:Hid (cmpCore u v=0):=by
    unfold Hid
    rw [cmpCore_3 hn.1 hn.2.1]; exact ordN_eq hn.2.2
   have kq:=fun W=>run_eq3 u.a u.b u.c v.a v.b v.c W
   rw [beq_yes hn.1,beq_yes hn.2.1,beq_yes hn.2.2] at kq
   clear hn
   go_wp2
   simp only [Exit.jump]
   go_ret
   exact ⟨by rw [HF.out]; rfl,HBa.out⟩
  ·have HN:=Lib.hid hn
   have hq:(((u.a:Int) == (v.a:Int)) && (((u.b:Int) == (v.b:Int)) && ((u.c:Int) == (v.c:Int))))=false:=by
    rw [← Bool.not_eq_true]; simp only [Bool.and_eq_true,beq_iff_eq]; omega
   have kq:=fun W=>run_eq3 u.a u.b u.c v.a v.b v.c W
   rw [hq] at kq
   clear hn hq
   go_wp2
   go_step3
   rename_i hK
   exact hK _ _ (HP.out _ _ ⟨0,_,_,_,_,_,_,_,_,_,_,_,_,_,_,_,_,_,_,_,HBa.out,K1.out,K2.out,.inl rfl,HN.out,rfl⟩)
end Go.Proofs.YtgfbflnhjpbceaaGreatDoor.Prec
