/-
  What the theorem of the last text needs of these: MoFew, MoFirst, MoRefRel, MoRoots. Conditions: as each theorem states.
-/
import Derived.Test.YtnpjklaaokiikaaGreatDoorSvA1
import Derived.Test.YtnpjklaaokiikaaGreatDoorSvA2
import Derived.Test.YtnpjklaaokiikaaGreatDoorSvA4
import Derived.Test.YtnpjklaaokiikaaGreatDoorSvA16
import Derived.Test.YtnpjklaaokiikaaGreatDoorSvA24
import Derived.Test.YtnpjklaaokiikaaGreatDoorSvA25
import Derived.Shelf.GgClosure.Gives
set_option maxRecDepth 100000
set_option maxHeartbeats 25600000
namespace Go.Proofs.YtnpjklaaokiikaaGreatDoor.Model
open Go.RowKit Num Ident Semver
open Range (Rng noRng RV KeepS LtB LenOk goodR wt)
open Nrm (tot Tells Slim)
open KR (KRow AtV)

def FewD (l:List MDep):Prop:=l.length≤6∧∀ d ∈ l,d.name.length≤300∧(Slim d.r→tot d.r≤12)
structure FewX (x:List MPack):Prop where
 len:x.length≤6
 pack:∀ p ∈ x,p.name.length≤300∧p.rels.length≤6
 rel:∀ p ∈ x,∀ r ∈ p.rels,r.ver.v.pre.length≤20∧r.ver.v.build.length≤20∧FewD r.needs∧FewD r.bans
def FewS (s:List MPin):Prop:=s.length≤8∧∀ p ∈ s,p.name.length≤300∧p.ver.v.pre.length≤20∧p.ver.v.build.length≤20
theorem mem_of_at {α:Type} [Inhabited α] {l:List α} {n:Nat} {P:α→Prop} (hl:l.length=n) (h:∀ j,j<n→P (l.getD j default)):∀ d ∈ l,P d:=by
 intro d hd
 obtain ⟨j,hj,rfl⟩:=List.getElem_of_mem hd
 have:=h j (by omega)
 rwa [List.getD_eq_getElem?_getD,List.getElem?_eq_getElem hj] at this
theorem at_step {α:Type} [Inhabited α] {l:List α} {k:Nat} {P:α→Prop} (hD:∀ j,j<k→P (l.getD j default)) (h:P (l.getD k default)):∀ j,j<k+1→P (l.getD j default):=fun j hj=>by
 rcases Nat.lt_or_ge j k with h1 | h1
 ·exact hD j h1
 ·obtain rfl:j=k:=by omega
  exact h
def DepsPost (l:List MDep) (w:World) (e:Ending) (w':World):Prop:=∃ b:Bool,e=.returned (.bool b)∧(b=true→FewD l)∧Below w.heap.size w w'
def FewP (d:MDep):Prop:=d.name.length≤300∧(Slim d.r→tot d.r≤12)
theorem lawDeps_any (A:Option Addr) (n c:Nat) (l:List MDep) (B:Nat) (w:World) (h:DRow w (LtB B) A n l) (hB:B≤w.heap.size) (hn:n≤maxLen) :
  Calls Tryz.prog 21 #[.slice A n c] w (DepsPost l w):=by
 have HO:=Lib.hid h
 have HL:=Lib.hid h.row.1
 unfold maxLen at hn
 clear h
 by_cases h6:6<n
 ·go_enter Tryz.func21,Tryz.ntmps21
  go_wp2
  go_ret
  exact ⟨false,rfl,(fun h=>by cases h),Below.refl _ _⟩
 ·have HL6:Hid (l.length≤6):=by unfold Hid; rw [HL.out]; omega
  go_enter Tryz.func21,Tryz.ntmps21
  go_wp2
  go_loopw [3] (fun i W=>∃ k:Nat,k≤n∧i=.int .i64 k∧Hid (∀ j,j<k→FewP (l.getD j default))∧Hid (Below w.heap.size w W)) (fun i _=>n - (intOf i).toNat)
  case atStart=>exact ⟨0,Nat.zero_le _,rfl,(fun j hj=>by omega),Below.refl _ _⟩
  case round =>
   rename World=>wk
   obtain ⟨k,hk,rfl,HD,HW⟩:=hrel
   by_cases hlt:k<n
   ·have hrow:=HO.out.keep (KeepS.of_below (S:=LtB B) HW.out)
    have HDO:Hid (DepOk wk (LtB B) (l.getD k default)):=hrow.ok _ (getD_mem (by rw [HL.out]; exact hlt))
    obtain ⟨b,o,rfl,_,hb,c0,c1,c2,c3,c4,c5,c6,c7⟩:=hrow.cells hlt
    have HMO:Hid (FewP (l.getD k default)→∀ j,j<k+1→FewP (l.getD j default)):=at_step HD.out
    clear hrow
    generalize l.getD k default=d at c0 c1 c2 c3 c4 c5 c6 c7 HDO HMO
    have hz:(Ident.mk d.name).size=d.name.length:=mk_size _
    have hsh:d.name.length≤9223372036854775807:=HDO.out.short
    by_cases h3:300<d.name.length
    ·go_wp2
     go_ret
     exact ⟨false,rfl,(fun h=>by cases h),HW.out⟩
    ·have HN3:=Lib.hid h3
     go_wp2_with fail
     refine (Nrm.great_full (wt d.r) d.r d.x B 12 _ (Nat.le_refl _) HDO.out.len HDO.out.lies (Nat.le_trans hB HW.out.size)).mono ?_
     rintro e W1 ⟨z,rfl,ht,hb1⟩
     have HW1:=Lib.hid (HW.out.trans (hb1.mono HW.out.size))
     have HT:=Lib.hid ht
     clear hb1 ht c0 c1 c2 c3 c4 c5 c6 c7
     by_cases hz12:12<z
     ·go_wp2
      go_ret
      exact ⟨false,rfl,(fun h=>by cases h),HW1.out⟩
     ·have HP:Hid (∀ j,j<k+1→FewP (l.getD j default)):=HMO.out ⟨by have:=HN3.out; omega,fun hg=>by
       have:=(HT.out hg (by omega) (by omega)).2.2 (by omega)
       omega⟩
      go_wp2
      exact ⟨⟨k+1,by omega,by go_num,HP.out,HW1.out⟩,by simp [intOf]; omega⟩
   ·obtain rfl:k=n:=by omega
    have HF:Hid (FewD l):=⟨HL6.out,mem_of_at HL.out HD.out⟩
    go_wp2
    go_ret
    exact ⟨true,rfl,(fun _=>HF.out),HW.out⟩
end Go.Proofs.YtnpjklaaokiikaaGreatDoor.Model
namespace Go.Proofs.YtnpjklaaokiikaaGreatDoor.Model
open Go.RowKit Num Ident Semver
open Range (Rng noRng RV KeepS LtB LenOk goodR wt)
open KR (KRow AtV)

def FirstPost (n:Nat) (f:Nat→Int) (I J:Nat→World→Prop) (e:Ending) (w':World):Prop :=
 (∃ k,k<n∧(∀ j,j<k→f j=0)∧f k≠0∧e=.returned (.tuple #[.int .i64 k,.int .i64 (f k)])∧J k w')∨((∀ j,j<n→f j=0)∧e=.returned (.tuple #[.int .i64 (-1),.int .i64 0])∧I n w')
def FirstJ0 (A:Option Addr) (n c g:Nat) (cb:Array Value) (f:Nat→Int) (I:Nat→World→Prop) (a':Act) (W:World):Prop :=
 ∃ (k:Nat) (u2 u3:Value) (u6 u7 u8 u9 u10 u11 u12 u13 u14 u15 u16 u17 u18 u19 u20 u21:Value),k≤n∧Hid (∀ j,j<k→f j=0)∧Hid (I k W)∧a'={ tmps:=#[.slice A n c,.func (.func g) #[] cb,u2,u3,.int .i64 k,.int .i64 0,u6,u7,u8,u9,u10,u11,u12,u13,u14,u15,u16,u17,u18,u19,u20,u21],defers:=[] }
def FirstJ1 (A:Option Addr) (n c g:Nat) (cb:Array Value) (f:Nat→Int) (I J:Nat→World→Prop) (a':Act) (W:World):Prop :=
 ∃ (p q:Int) (u2 u3:Value) (u6 u7 u8 u9 u10 u11 u12 u13 u14 u15 u16 u17 u18 u19 u20 u21:Value),Hid (FirstPost n f I J (.returned (.tuple #[.int .i64 p,.int .i64 q])) W)∧a'={ tmps:=#[.slice A n c,.func (.func g) #[] cb,u2,u3,.int .i64 p,.int .i64 q,u6,u7,u8,u9,u10,u11,u12,u13,u14,u15,u16,u17,u18,u19,u20,u21],defers:=[] }
def FirstM (n:Nat) (a':Act) (_:World):Nat:=n - (intOf (a'.tmps.getD 4 undef)).toNat
theorem firstDep_any (g:Nat) (cb:Array Value) (eg:∀ args w,(callFunc g args).run Tryz.prog w=.ok (.enter g args) w) (A:Option Addr) (n c:Nat) (l:List MDep) (f:Nat→Int) (I J:Nat→World→Prop) (S:Nat→Prop) (w:World) (hn:n≤maxLen)
  (hrow:∀ k W,k≤n→I k W→DRow W S A n l)
  (hcall:∀ k W,k<n→I k W→Calls Tryz.prog g (#[(l.getD k default).agg] ++ cb) W fun e w'=>e=.returned (.int .i64 (f k))∧(f k=0→I (k+1) w')∧(f k≠0→J k w')) (h0:I 0 w) :
  Calls Tryz.prog 119 #[.slice A n c,.func (.func g) #[] cb] w (FirstPost n f I J):=by
 unfold maxLen at hn
 have HR:=Lib.hid hrow
 have HC:=Lib.hid hcall
 have H0:=Lib.hid h0
 clear hrow hcall h0
 go_enter Tryz.func119,Tryz.ntmps119
 go_wp2
 refine wp_two 1 0 (FirstJ0 A n c g cb f I) (FirstJ1 A n c g cb f I J) (FirstM n) (fun _ _=>0) rfl rfl ?_ ?_ ?_
 ·rintro mm a' W ⟨p,q,u2,u3,u6,u7,u8,u9,u10,u11,u12,u13,u14,u15,u16,u17,u18,u19,u20,u21,HP,rfl⟩ hmm
  clear hmm
  go_wp2
  simp only [jumps]
  go_ret2
  exact HP.out
 ·rintro HP mm a' W ⟨k,u2,u3,u6,u7,u8,u9,u10,u11,u12,u13,u14,u15,u16,u17,u18,u19,u20,u21,hk,HA,HI,rfl⟩ hmm
  have hmm2:mm=n - k:=by rw [← hmm]; simp [FirstM,intOf]
  clear hmm
  by_cases hlt:k<n
  ·have hrw:=HR.out k W hk HI.out
   have hcl:=HC.out k W hlt HI.out
   obtain ⟨b,o,rfl,_,hb,c0,c1,c2,c3,c4,c5,c6,c7⟩:=hrw.cells hlt
   clear hrw
   generalize l.getD k default=d at c0 c1 c2 c3 c4 c5 c6 c7 hcl
   unfold MDep.agg at hcl
   obtain ⟨q,hq⟩:∃ q,f k=q:=⟨_,rfl⟩
   rw [hq] at hcl
   have HQ:=Lib.hid hq
   clear hq
   by_cases h0:q=0
   ·have HZ:=Lib.hid (HQ.out.trans h0)
    subst h0
    clear HQ
    go_wp2_with (go_at_fn g; refine hcl.mono ?_; rintro e w' ⟨rfl,hq1,hq2⟩)
    have HI2:Hid (I (k+1) w'):=hq1 (by trivial)
    clear hq1 hq2 c0 c1 c2 c3 c4 c5 c6 c7
    go_step3
    exact .inl ⟨rfl,⟨k+1,u2,u3,_,_,_,_,_,_,_,_,_,_,_,_,_,_,_,_,by omega,(fun j hj=>by
     rcases Nat.lt_or_ge j k with h | h
     ·exact HA.out j h
     ·obtain rfl:j=k:=by omega
      exact HZ.out),HI2,rfl⟩,by (try rw [hmm2]); simp [FirstM,intOf]; omega⟩
   ·have hne:(q == 0)=false:=by simpa using h0
    go_wp2_with (go_at_fn g; refine hcl.mono ?_; rintro e w' ⟨rfl,hq1,hq2⟩)
    have HJ:Hid (J k w'):=hq2 h0
    clear hq1 hq2 c0 c1 c2 c3 c4 c5 c6 c7
    go_step3
    exact .inr ⟨rfl,⟨k,q,u2,u3,_,_,_,_,_,_,_,_,_,_,_,_,_,_,_,_,.inl ⟨k,hlt,HA.out,(by rw [HQ.out]; exact h0),by rw [HQ.out],HJ.out⟩,rfl⟩,by (show 0<mm); omega⟩
  ·obtain rfl:k=n:=by omega
   go_wp2
   go_step3
   rename_i hK
   exact hK _ _ (HP.out _ _ _ ⟨-1,0,u2,u3,_,_,_,_,_,_,_,_,_,_,_,_,_,_,_,_,.inr ⟨HA.out,rfl,HI.out⟩,rfl⟩ (Nat.zero_le _))
 ·intro HP
  go_wp2
  go_step3
  rename_i hK
  exact hK _ _ (HP.out _ _ ⟨0,_,_,_,_,_,_,_,_,_,_,_,_,_,_,_,_,_,_,Nat.zero_le _,(fun j hj=>absurd hj (Nat.not_lt_zero _)),H0.out,rfl⟩)
theorem firstPin_any (g:Nat) (cb:Array Value) (eg:∀ args w,(callFunc g args).run Tryz.prog w=.ok (.enter g args) w) (A:Option Addr) (n c:Nat) (l:List MPin) (f:Nat→Int) (I J:Nat→World→Prop) (S:Nat→Prop) (w:World) (hn:n≤maxLen)
  (hrow:∀ k W,k≤n→I k W→SPRow W S A n l)
  (hcall:∀ k W,k<n→I k W→Calls Tryz.prog g (#[(l.getD k default).agg] ++ cb) W fun e w'=>e=.returned (.int .i64 (f k))∧(f k=0→I (k+1) w')∧(f k≠0→J k w')) (h0:I 0 w) :
  Calls Tryz.prog 121 #[.slice A n c,.func (.func g) #[] cb] w (FirstPost n f I J):=by
 unfold maxLen at hn
 have HR:=Lib.hid hrow
 have HC:=Lib.hid hcall
 have H0:=Lib.hid h0
 clear hrow hcall h0
 go_enter Tryz.func121,Tryz.ntmps121
 go_wp2
 refine wp_two 1 0 (FirstJ0 A n c g cb f I) (FirstJ1 A n c g cb f I J) (FirstM n) (fun _ _=>0) rfl rfl ?_ ?_ ?_
 ·rintro mm a' W ⟨p,q,u2,u3,u6,u7,u8,u9,u10,u11,u12,u13,u14,u15,u16,u17,u18,u19,u20,u21,HP,rfl⟩ hmm
  clear hmm
  go_wp2
  simp only [jumps]
  go_ret2
  exact HP.out
 ·rintro HP mm a' W ⟨k,u2,u3,u6,u7,u8,u9,u10,u11,u12,u13,u14,u15,u16,u17,u18,u19,u20,u21,hk,HA,HI,rfl⟩ hmm
  have hmm2:mm=n - k:=by rw [← hmm]; simp [FirstM,intOf]
  clear hmm
  by_cases hlt:k<n
  ·have hrw:=HR.out k W hk HI.out
   have hcl:=HC.out k W hlt HI.out
   obtain ⟨b,o,rfl,_,hb,c0,c1,c2,c3,c4,c5⟩:=hrw.cells hlt
   clear hrw
   generalize l.getD k default=d at c0 c1 c2 c3 c4 c5 hcl
   unfold MPin.agg at hcl
   obtain ⟨q,hq⟩:∃ q,f k=q:=⟨_,rfl⟩
   rw [hq] at hcl
   have HQ:=Lib.hid hq
   clear hq
   by_cases h0:q=0
   ·have HZ:=Lib.hid (HQ.out.trans h0)
    subst h0
    clear HQ
    go_wp2_with (go_at_fn g; refine hcl.mono ?_; rintro e w' ⟨rfl,hq1,hq2⟩)
    have HI2:Hid (I (k+1) w'):=hq1 (by trivial)
    clear hq1 hq2 c0 c1 c2 c3 c4 c5
    go_step3
    exact .inl ⟨rfl,⟨k+1,u2,u3,_,_,_,_,_,_,_,_,_,_,_,_,_,_,_,_,by omega,(fun j hj=>by
     rcases Nat.lt_or_ge j k with h | h
     ·exact HA.out j h
     ·obtain rfl:j=k:=by omega
      exact HZ.out),HI2,rfl⟩,by (try rw [hmm2]); simp [FirstM,intOf]; omega⟩
   ·have hne:(q == 0)=false:=by simpa using h0
    go_wp2_with (go_at_fn g; refine hcl.mono ?_; rintro e w' ⟨rfl,hq1,hq2⟩)
    have HJ:Hid (J k w'):=hq2 h0
    clear hq1 hq2 c0 c1 c2 c3 c4 c5
    go_step3
    exact .inr ⟨rfl,⟨k,q,u2,u3,_,_,_,_,_,_,_,_,_,_,_,_,_,_,_,_,.inl ⟨k,hlt,HA.out,(by rw [HQ.out]; exact h0),by rw [HQ.out],HJ.out⟩,rfl⟩,by (show 0<mm); omega⟩
  ·obtain rfl:k=n:=by omega
   go_wp2
   go_step3
   rename_i hK
   exact hK _ _ (HP.out _ _ _ ⟨-1,0,u2,u3,_,_,_,_,_,_,_,_,_,_,_,_,_,_,_,_,.inr ⟨HA.out,rfl,HI.out⟩,rfl⟩ (Nat.zero_le _))
 ·intro HP
  go_wp2
  go_step3
  rename_i hK
  exact hK _ _ (HP.out _ _ ⟨0,_,_,_,_,_,_,_,_,_,_,_,_,_,_,_,_,_,_,Nat.zero_le _,(fun j hj=>absurd hj (Nat.not_lt_zero _)),H0.out,rfl⟩)
theorem firstPack_any (g:Nat) (cb:Array Value) (eg:∀ args w,(callFunc g args).run Tryz.prog w=.ok (.enter g args) w) (A:Option Addr) (n c:Nat) (l:List MPack) (f:Nat→Int) (I J:Nat→World→Prop) (S:Nat→Prop) (w:World) (hn:n≤maxLen)
  (hrow:∀ k W,k≤n→I k W→PRow W S A n l)
  (hcall:∀ k W,k<n→I k W→Calls Tryz.prog g (#[(l.getD k default).agg] ++ cb) W fun e w'=>e=.returned (.int .i64 (f k))∧(f k=0→I (k+1) w')∧(f k≠0→J k w')) (h0:I 0 w) :
  Calls Tryz.prog 49 #[.slice A n c,.func (.func g) #[] cb] w (FirstPost n f I J):=by
 unfold maxLen at hn
 have HR:=Lib.hid hrow
 have HC:=Lib.hid hcall
 have H0:=Lib.hid h0
 clear hrow hcall h0
 go_enter Tryz.func49,Tryz.ntmps49
 go_wp2
 refine wp_two 1 0 (FirstJ0 A n c g cb f I) (FirstJ1 A n c g cb f I J) (FirstM n) (fun _ _=>0) rfl rfl ?_ ?_ ?_
 ·rintro mm a' W ⟨p,q,u2,u3,u6,u7,u8,u9,u10,u11,u12,u13,u14,u15,u16,u17,u18,u19,u20,u21,HP,rfl⟩ hmm
  clear hmm
  go_wp2
  simp only [jumps]
  go_ret2
  exact HP.out
 ·rintro HP mm a' W ⟨k,u2,u3,u6,u7,u8,u9,u10,u11,u12,u13,u14,u15,u16,u17,u18,u19,u20,u21,hk,HA,HI,rfl⟩ hmm
  have hmm2:mm=n - k:=by rw [← hmm]; simp [FirstM,intOf]
  clear hmm
  by_cases hlt:k<n
  ·have hrw:=HR.out k W hk HI.out
   have hcl:=HC.out k W hlt HI.out
   obtain ⟨b,o,rfl,_,hb,c0,c1⟩:=hrw.cells hlt
   clear hrw
   generalize l.getD k default=d at c0 c1 hcl
   unfold MPack.agg at hcl
   obtain ⟨q,hq⟩:∃ q,f k=q:=⟨_,rfl⟩
   rw [hq] at hcl
   have HQ:=Lib.hid hq
   clear hq
   by_cases h0:q=0
   ·have HZ:=Lib.hid (HQ.out.trans h0)
    subst h0
    clear HQ
    go_wp2_with (go_at_fn g; refine hcl.mono ?_; rintro e w' ⟨rfl,hq1,hq2⟩)
    have HI2:Hid (I (k+1) w'):=hq1 (by trivial)
    clear hq1 hq2 c0 c1
    go_step3
    exact .inl ⟨rfl,⟨k+1,u2,u3,_,_,_,_,_,_,_,_,_,_,_,_,_,_,_,_,by omega,(fun j hj=>by
     rcases Nat.lt_or_ge j k with h | h
     ·exact HA.out j h
     ·obtain rfl:j=k:=by omega
      exact HZ.out),HI2,rfl⟩,by (try rw [hmm2]); simp [FirstM,intOf]; omega⟩
   ·have hne:(q == 0)=false:=by simpa using h0
    go_wp2_with (go_at_fn g; refine hcl.mono ?_; rintro e w' ⟨rfl,hq1,hq2⟩)
    have HJ:Hid (J k w'):=hq2 h0
    clear hq1 hq2 c0 c1
    go_step3
    exact .inr ⟨rfl,⟨k,q,u2,u3,_,_,_,_,_,_,_,_,_,_,_,_,_,_,_,_,.inl ⟨k,hlt,HA.out,(by rw [HQ.out]; exact h0),by rw [HQ.out],HJ.out⟩,rfl⟩,by (show 0<mm); omega⟩
  ·obtain rfl:k=n:=by omega
   go_wp2
   go_step3
   rename_i hK
   exact hK _ _ (HP.out _ _ _ ⟨-1,0,u2,u3,_,_,_,_,_,_,_,_,_,_,_,_,_,_,_,_,.inr ⟨HA.out,rfl,HI.out⟩,rfl⟩ (Nat.zero_le _))
 ·intro HP
  go_wp2
  go_step3
  rename_i hK
  exact hK _ _ (HP.out _ _ ⟨0,_,_,_,_,_,_,_,_,_,_,_,_,_,_,_,_,_,_,Nat.zero_le _,(fun j hj=>absurd hj (Nat.not_lt_zero _)),H0.out,rfl⟩)
theorem firstRelease_any (g:Nat) (cb:Array Value) (eg:∀ args w,(callFunc g args).run Tryz.prog w=.ok (.enter g args) w) (A:Option Addr) (n c:Nat) (l:List MRel) (f:Nat→Int) (I J:Nat→World→Prop) (S:Nat→Prop) (w:World) (hn:n≤maxLen)
  (hrow:∀ k W,k≤n→I k W→RRow W S A n l)
  (hcall:∀ k W,k<n→I k W→Calls Tryz.prog g (#[(l.getD k default).agg] ++ cb) W fun e w'=>e=.returned (.int .i64 (f k))∧(f k=0→I (k+1) w')∧(f k≠0→J k w')) (h0:I 0 w) :
  Calls Tryz.prog 94 #[.slice A n c,.func (.func g) #[] cb] w (FirstPost n f I J):=by
 unfold maxLen at hn
 have HR:=Lib.hid hrow
 have HC:=Lib.hid hcall
 have H0:=Lib.hid h0
 clear hrow hcall h0
 go_enter Tryz.func94,Tryz.ntmps94
 go_wp2
 refine wp_two 1 0 (FirstJ0 A n c g cb f I) (FirstJ1 A n c g cb f I J) (FirstM n) (fun _ _=>0) rfl rfl ?_ ?_ ?_
 ·rintro mm a' W ⟨p,q,u2,u3,u6,u7,u8,u9,u10,u11,u12,u13,u14,u15,u16,u17,u18,u19,u20,u21,HP,rfl⟩ hmm
  clear hmm
  go_wp2
  simp only [jumps]
  go_ret2
  exact HP.out
 ·rintro HP mm a' W ⟨k,u2,u3,u6,u7,u8,u9,u10,u11,u12,u13,u14,u15,u16,u17,u18,u19,u20,u21,hk,HA,HI,rfl⟩ hmm
  have hmm2:mm=n - k:=by rw [← hmm]; simp [FirstM,intOf]
  clear hmm
  by_cases hlt:k<n
  ·have hrw:=HR.out k W hk HI.out
   have hcl:=HC.out k W hlt HI.out
   obtain ⟨b,o,rfl,_,hb,c0,c1,c2,c3,c4,c5,c6,c7⟩:=hrw.cells hlt
   clear hrw
   generalize l.getD k default=d at c0 c1 c2 c3 c4 c5 c6 c7 hcl
   unfold MRel.agg at hcl
   obtain ⟨q,hq⟩:∃ q,f k=q:=⟨_,rfl⟩
   rw [hq] at hcl
   have HQ:=Lib.hid hq
   clear hq
   by_cases h0:q=0
   ·have HZ:=Lib.hid (HQ.out.trans h0)
    subst h0
    clear HQ
    go_wp2_with (go_at_fn g; refine hcl.mono ?_; rintro e w' ⟨rfl,hq1,hq2⟩)
    have HI2:Hid (I (k+1) w'):=hq1 (by trivial)
    clear hq1 hq2 c0 c1 c2 c3 c4 c5 c6 c7
    go_step3
    exact .inl ⟨rfl,⟨k+1,u2,u3,_,_,_,_,_,_,_,_,_,_,_,_,_,_,_,_,by omega,(fun j hj=>by
     rcases Nat.lt_or_ge j k with h | h
     ·exact HA.out j h
     ·obtain rfl:j=k:=by omega
      exact HZ.out),HI2,rfl⟩,by (try rw [hmm2]); simp [FirstM,intOf]; omega⟩
   ·have hne:(q == 0)=false:=by simpa using h0
    go_wp2_with (go_at_fn g; refine hcl.mono ?_; rintro e w' ⟨rfl,hq1,hq2⟩)
    have HJ:Hid (J k w'):=hq2 h0
    clear hq1 hq2 c0 c1 c2 c3 c4 c5 c6 c7
    go_step3
    exact .inr ⟨rfl,⟨k,q,u2,u3,_,_,_,_,_,_,_,_,_,_,_,_,_,_,_,_,.inl ⟨k,hlt,HA.out,(by rw [HQ.out]; exact h0),by rw [HQ.out],HJ.out⟩,rfl⟩,by (show 0<mm); omega⟩
  ·obtain rfl:k=n:=by omega
   go_wp2
   go_step3
   rename_i hK
   exact hK _ _ (HP.out _ _ _ ⟨-1,0,u2,u3,_,_,_,_,_,_,_,_,_,_,_,_,_,_,_,_,.inr ⟨HA.out,rfl,HI.out⟩,rfl⟩ (Nat.zero_le _))
 ·intro HP
  go_wp2
  go_step3
  rename_i hK
  exact hK _ _ (HP.out _ _ ⟨0,_,_,_,_,_,_,_,_,_,_,_,_,_,_,_,_,_,_,Nat.zero_le _,(fun j hj=>absurd hj (Nat.not_lt_zero _)),H0.out,rfl⟩)
end Go.Proofs.YtnpjklaaokiikaaGreatDoor.Model
namespace Go.Proofs.YtnpjklaaokiikaaGreatDoor.Model
open Go.RowKit Num Ident Semver
open Range (Rng noRng RV KeepS LtB LenOk goodR wt)
open KR (KRow AtV)

def findRel (x:List MPack) (name:List UInt8) (v:Ver):Option MRel:=(x.find? fun p=>p.name == name).bind fun p=>p.rels.find? fun r=>sameV r.ver.v v
theorem findRel_p (x:List MPack) (name:List UInt8) (v:Ver):releaseO (x.map MPack.p) name v=(findRel x name v).map MRel.p:=by
 unfold releaseO findRel
 rw [List.find?_map]
 show (Option.map MPack.p (x.find? fun p=>p.name == name)).bind _=_
 cases x.find? fun p=>p.name == name with
 | none=>rfl
 | some p =>
  show (p.rels.map MRel.p).find? _=Option.map MRel.p (p.rels.find? _)
  rw [List.find?_map]; rfl
def relV:Option MRel→Value
 | none=>.tuple #[.agg #[.int .u64 0,.int .u64 0,.int .u64 0,.slice none 0 0,.slice none 0 0,.bool false,.slice none 0 0,.slice none 0 0],.bool false]
 | some r=>.tuple #[r.agg,.bool true]
theorem find_first {α:Type} [Inhabited α] (f:α→Bool):∀ (l:List α) (k:Nat),k<l.length→(∀ j,j<k→f (l.getD j default)=false)→f (l.getD k default)=true→l.find? f=some (l.getD k default)
 | [],_,h,_,_=>by simp at h
 | a :: l,0,_,_,h=>by
  have h:f a=true:=h
  rw [List.find?_cons,h]; rfl
 | a :: l,k+1,h,ha,hb=>by
  have h0:f a=false:=ha 0 (Nat.succ_pos _)
  rw [List.find?_cons,h0]
  exact find_first f l k (by simpa using h) (fun j hj=>ha (j+1) (Nat.succ_lt_succ hj)) hb
theorem find_none {α:Type} [Inhabited α] (f:α→Bool) {l:List α} (h:∀ j,j<l.length→f (l.getD j default)=false):l.find? f=none:=by
 rw [List.find?_eq_none]
 intro x hx
 obtain ⟨j,hj,rfl⟩:=List.getElem_of_mem hx
 have:=h j hj
 rw [List.getD_eq_getElem?_getD,List.getElem?_eq_getElem hj] at this
 rw [Bool.not_eq_true]; exact this
structure RelAt (w:World) (ib vb rb:Nat) (A:Option Addr) (n c:Nat) (v:MVer) (W:World):Prop where
 ix:AtV W ib [.slice A n c]
 ver:AtV W vb [.int .u64 v.v.a,.int .u64 v.v.b,.int .u64 v.v.c,.slice v.A v.v.pre.length v.c,.slice v.B v.v.build.length v.d]
 res:AtV W rb [.int .u64 0,.int .u64 0,.int .u64 0,.slice none 0 0,.slice none 0 0,.bool false,.slice none 0 0,.slice none 0 0]
 hi:w.heap.size≤rb
 bel:Below w.heap.size w W
theorem RelAt.kept {w:World} {ib vb rb:Nat} {A:Option Addr} {n c:Nat} {v:MVer} {W W':World} (h:RelAt w ib vb rb A n c v W) (hb:Below W.heap.size W W'):RelAt w ib vb rb A n c v W' :=
 ⟨h.ix.kept hb h.ix.lt,h.ver.kept hb h.ver.lt,h.res.kept hb h.res.lt,h.hi,h.bel.trans (hb.mono h.bel.size)⟩
theorem rel_start (w:World) (A:Option Addr) (n c:Nat) (v:MVer):∃ W,W=(((w.alloc (.cells #[.slice A n c] 24)).alloc (v.v,v.A,v.c,v.B,v.d)).alloc (.cells #[.int .u64 0,.int .u64 0,.int .u64 0,.slice none 0 0,.slice none 0 0,.bool false,.slice none 0 0,.slice none 0 0] 36))∧RelAt w w.heap.size (w.heap.size+1) (w.heap.size+1+1) A n c v W:=by
 have b1:Below w.heap.size w (w.alloc (.cells #[.slice A n c] 24)):=(Below.refl _ _).alloc (Nat.le_refl _) _
 refine ⟨_,rfl,?_,?_,?_,by omega,(b1.alloc b1.size _).alloc (by simp; omega) _⟩
 ·exact ((AtV.new w 24 [.slice A n c]).kept ((Below.refl _ _).alloc (Nat.le_refl _) _) (by simp)).kept ((Below.refl _ _).alloc (Nat.le_refl _) _) (by simp; omega)
 ·have:=(AtV.new (w.alloc (.cells #[.slice A n c] 24)) 34 [.int .u64 v.v.a,.int .u64 v.v.b,.int .u64 v.v.c,.slice v.A v.v.pre.length v.c,.slice v.B v.v.build.length v.d]).kept ((Below.refl _ _).alloc (Nat.le_refl _) (.cells #[.int .u64 0,.int .u64 0,.int .u64 0,.slice none 0 0,.slice none 0 0,.bool false,.slice none 0 0,.slice none 0 0] 36)) (by simp)
  rw [size_alloc] at this; exact this
 ·have:=AtV.new ((w.alloc (.cells #[.slice A n c] 24)).alloc (v.v,v.A,v.c,v.B,v.d)) 36 [.int .u64 0,.int .u64 0,.int .u64 0,.slice none 0 0,.slice none 0 0,.bool false,.slice none 0 0,.slice none 0 0]
  rw [size_alloc,size_alloc] at this; exact this
theorem refRelease_any (A:Option Addr) (n c:Nat) (x:List MPack) (name:List UInt8) (v:MVer) (B:Nat) (w:World) (h:PRow w (LtB B) A n x) (_hB:B≤w.heap.size) (hn:n≤maxLen) (s1:SRow w v.A v.v.pre.length v.v.pre) (s2:SRow w v.B v.v.build.length v.v.build) (f1:v.v.pre.length≤maxLen) (f2:v.v.build.length≤maxLen) :
  Calls Tryz.prog 12 #[.agg #[.slice A n c],.string (Ident.mk name),v.agg] w fun e w'=>e=.returned (relV (findRel x name v.v))∧Below w.heap.size w w':=by
 have HO:=Lib.hid h
 have HL:=Lib.hid h.row.1
 have HS1:=Lib.hid s1
 have HS2:=Lib.hid s2
 have HF1:=Lib.hid f1
 have HF2:=Lib.hid f2
 unfold maxLen at hn
 clear h s1 s2 f1 f2
 unfold MVer.agg
 go_enter Tryz.func12,Tryz.ntmps12
 go_upto_region 1 with (fail)
 obtain ⟨W0,hW,hc0⟩:=rel_start w A n c v
 rw [← hW]
 clear hW
 have HC0:=Lib.hid hc0
 clear hc0
 obtain ⟨ib,hib⟩:∃ ib,w.heap.size=ib:=⟨_,rfl⟩
 obtain ⟨vb,hvb⟩:∃ vb,w.heap.size+1=vb:=⟨_,rfl⟩
 obtain ⟨rb,hrb⟩:∃ rb,w.heap.size+1+1=rb:=⟨_,rfl⟩
 rw [hrb,hvb,hib] at HC0
 rw [hrb,hvb,hib]
 clear hrb hvb hib
 go_wp2
 go_loopw [8] (fun y W=>∃ i:Nat,i≤n∧y=.int .i64 i∧Hid (∀ j,j<i→(x.getD j default).name≠name)∧Hid (RelAt w ib vb rb A n c v W)) (fun y _=>n - (intOf y).toNat)
 case atStart=>exact ⟨0,Nat.zero_le _,rfl,(fun j hj=>by omega),HC0.out⟩
 case round =>
  rename World=>wi
  obtain ⟨i,hi,rfl,HD,HC⟩:=hrel
  have i0:=HC.out.ix.at_ 0 _ rfl
  by_cases hlt:i<n
  ·have hrow:=HO.out.keep (KeepS.of_below (S:=LtB B) HC.out.bel)
   have HPK:Hid (PackOk wi (LtB B) (x.getD i default)):=hrow.ok _ (getD_mem (by rw [HL.out]; exact hlt))
   obtain ⟨b,o,rfl,_,hb,c0,c1⟩:=hrow.cells hlt
   have HXF:Hid ((x.getD i default).name=name→x.find? (fun p=>p.name == name)=some (x.getD i default)):=fun e=>find_first _ x i (by rw [HL.out]; exact hlt) (fun j hj=>beq_eq_false_iff_ne.2 (HD.out j hj)) (by rw [beq_iff_eq]; exact e)
   have HMO:Hid ((x.getD i default).name≠name→∀ j,j<i+1→(x.getD j default).name≠name):=fun h j hj=>by
    rcases Nat.lt_or_ge j i with h1 | h1
    ·exact HD.out j h1
    ·obtain rfl:j=i:=by omega
     exact h
   obtain ⟨p,hp⟩:∃ p,x.getD i default=p:=⟨_,rfl⟩
   rw [hp] at c0 c1 HPK HXF HMO
   clear hp hrow
   have hin:¬ n≤i:=by omega
   by_cases hnq:p.name=name
   ·have hbe0:((Ident.mk p.name).toList == (Ident.mk name).toList)=true:=by rw [hnq]; simp
    have hbe:((Ident.mk p.name).toList != (Ident.mk name).toList)=false:=by rw [hnq]; simp
    have HF:=Lib.hid (HXF.out hnq)
    clear hnq
    go_wp2
    have HRCL:Hid (p.rels.length≤maxLen):=Nat.le_trans HPK.out.rc.1 HPK.out.rc.2
    have hrlen:p.rels.length≤9223372036854775807:=HRCL.out
    have HPX:Hid (wi.cell? ⟨b,o+i * 2+1,none⟩=some (.slice p.R p.rels.length p.rc)∧b<wi.heap.size):=⟨c1,hb⟩
    clear c0 c1 i0 hbe hbe0 hb
    go_loopw [9] (fun y W=>∃ k:Nat,k≤p.rels.length∧y=.int .i64 k∧Hid (∀ j,j<k→sameV (p.rels.getD j default).ver.v v.v=false)∧Hid (Below wi.heap.size wi W)) (fun y _=>p.rels.length - (intOf y).toNat)
    case atStart=>exact ⟨0,Nat.zero_le _,rfl,(fun j hj=>by omega),Below.refl _ _⟩
    case round =>
     rename World=>wr
     obtain ⟨k,hk,rfl,HDR,HWR⟩:=hrel
     have HCR:=Lib.hid (HC.out.kept HWR.out)
     have i0:=HCR.out.ix.at_ 0 _ rfl
     have hib:ib<wr.heap.size:=HCR.out.ix.lt
     have hvb:vb<wr.heap.size:=HCR.out.ver.lt
     have hb:b<wr.heap.size:=Nat.lt_of_lt_of_le HPX.out.2 HWR.out.size
     have c1:wr.cell? ⟨b,o+i * 2+1,none⟩=some (.slice p.R p.rels.length p.rc):=(HWR.out.cell (p:=⟨b,o+i * 2+1,none⟩) HPX.out.2).trans HPX.out.1
     by_cases hkl:k<p.rels.length
     ·have hrr:=HPK.out.rels.keep (KeepS.of_below (S:=LtB B) HWR.out)
      have HRO:Hid (RelOk wr (LtB B) (p.rels.getD k default)):=hrr.ok _ (getD_mem hkl)
      obtain ⟨g,og,eg,_,hg,d0,d1,d2,d3,d4,d5,d6,d7⟩:=hrr.cells hkl
      rw [eg] at c1
      clear eg
      have HYES:Hid (sameV (p.rels.getD k default).ver.v v.v=true→findRel x name v.v=some (p.rels.getD k default)):=fun h=>by
       unfold findRel; rw [HF.out]
       exact find_first _ p.rels k hkl HDR.out h
      have HNO:Hid (sameV (p.rels.getD k default).ver.v v.v=false→∀ j,j<k+1→sameV (p.rels.getD j default).ver.v v.v=false):=fun h j hj=>by
       rcases Nat.lt_or_ge j k with h1 | h1
       ·exact HDR.out j h1
       ·obtain rfl:j=k:=by omega
        exact h
      obtain ⟨r,hr⟩:∃ r,p.rels.getD k default=r:=⟨_,rfl⟩
      rw [hr] at d0 d1 d2 d3 d4 d5 d6 d7 HRO HYES HNO
      clear hr hrr
      have v0:=HCR.out.ver.at_ 0 _ rfl
      have v1:=HCR.out.ver.at_ 1 _ rfl
      have v2:=HCR.out.ver.at_ 2 _ rfl
      have v3:=HCR.out.ver.at_ 3 _ rfl
      have v4:=HCR.out.ver.at_ 4 _ rfl
      have hkn:¬ p.rels.length≤k:=by omega
      have H0:Hid (Below wr.heap.size wr wr.drew):=(Below.refl _ _).drew
      go_wp2
      refine wp_region_held_drew (S:=fun w'=>Below wr.heap.size wr w') (by kernel_rfl) H0.out (fun hHeld=>?_)
      generalize wr.drew=wd at H0 hHeld ⊢
      refine tk 0 rfl (.pointer (some ⟨ib,0,none⟩)) ?_
      refine tk 1 rfl (.slice (some ⟨b,o,none⟩) n c) ?_ (hv:=fun w' hS'=>by (have z0:=(hS'.cell (p:=⟨ib,0,none⟩) hib).trans i0); go_simp)
      refine tk 2 rfl (.int .i64 i) ?_
      refine tk 3 rfl (.pointer (some ⟨b,o+i * 2,none⟩)) ?_
      refine tk 4 rfl (.pointer (some ⟨b,o+i * 2+1,none⟩)) ?_
      refine tk 5 rfl (.slice (some ⟨g,og,none⟩) p.rels.length p.rc) ?_ (hv:=fun w' hS'=>by (have z0:=(hS'.cell (p:=⟨b,o+i * 2+1,none⟩) hb).trans c1); go_simp)
      refine tk 6 rfl (.int .i64 k) ?_
      refine tk 7 rfl (.pointer (some ⟨g,og+k * 8,none⟩)) ?_
      refine tk 8 rfl (.pointer (some ⟨g,og+k * 8,none⟩)) ?_
      refine tk 9 rfl (.agg #[r.ver.v.a,r.ver.v.b,r.ver.v.c,.slice r.ver.A r.ver.v.pre.length r.ver.c,.slice r.ver.B r.ver.v.build.length r.ver.d]) ?_ (hv:=fun w' hS'=>by (have z0:=(hS'.cell (p:=⟨g,og+k * 8,none⟩) hg).trans d0); (have z1:=(hS'.cell (p:=⟨g,og+k * 8+1,none⟩) hg).trans d1); (have z2:=(hS'.cell (p:=⟨g,og+k * 8+2,none⟩) hg).trans d2); (have z3:=(hS'.cell (p:=⟨g,og+k * 8+3,none⟩) hg).trans d3); (have z4:=(hS'.cell (p:=⟨g,og+k * 8+4,none⟩) hg).trans d4); go_simp)
      refine tk 10 rfl (.agg #[v.v.a,v.v.b,v.v.c,.slice v.A v.v.pre.length v.c,.slice v.B v.v.build.length v.d]) ?_ (hv:=fun w' hS'=>by (have z0:=(hS'.cell (p:=⟨vb,0,none⟩) hvb).trans v0); (have z1:=(hS'.cell (p:=⟨vb,1,none⟩) hvb).trans v1); (have z2:=(hS'.cell (p:=⟨vb,2,none⟩) hvb).trans v2); (have z3:=(hS'.cell (p:=⟨vb,3,none⟩) hvb).trans v3); (have z4:=(hS'.cell (p:=⟨vb,4,none⟩) hvb).trans v4); go_simp)
      obtain ⟨sm,hsm⟩:∃ sm,sameV r.ver.v v.v=sm:=⟨_,rfl⟩
      have HSM:=Lib.hid hsm
      refine cl 11 rfl fun K hK=>?_
      go_simp
      refine (refSame_any r.ver.v v.v r.ver.A r.ver.B v.A v.B r.ver.c r.ver.d v.c v.d _ (HRO.out.ver.pre.kept H0.out) (HRO.out.ver.build.kept H0.out) (HS1.out.kept (HCR.out.bel.trans (H0.out.mono HCR.out.bel.size))) (HS2.out.kept (HCR.out.bel.trans (H0.out.mono HCR.out.bel.size))) HRO.out.ver.fit.pre HRO.out.ver.fit.build HF1.out HF2.out).mono ?_
      rw [hsm]
      rintro e W5 ⟨rfl,hb5⟩
      have HH5:Hid (Below wr.heap.size wr W5):=H0.out.trans (hb5.mono H0.out.size)
      refine hK.out _ _ HH5.out (fun hHeld2=>?_)
      clear hK K hb5 hsm hHeld hHeld2
      try simp only [Act.put,p1,p2,p3]
      refine wpAnyH_done (by kernel_rfl) ?_ _
      have HC5:=Lib.hid (HCR.out.kept HH5.out)
      cases sm
      ·have HN2:=Lib.hid (HNO.out HSM.out)
       have HW5:=Lib.hid (HWR.out.trans (HH5.out.mono HWR.out.size))
       clear d0 d1 d2 d3 d4 d5 d6 d7 v0 v1 v2 v3 v4 c1 i0
       go_wp2
       exact ⟨⟨k+1,by omega,by go_num,HN2.out,HW5.out⟩,by simp [intOf]; omega⟩
      ·have HFF:=Lib.hid (HYES.out HSM.out)
       have i1:=(HH5.out.cell (p:=⟨ib,0,none⟩) hib).trans i0
       have c2:=(HH5.out.cell (p:=⟨b,o+i * 2+1,none⟩) hb).trans c1
       have e0:=(HH5.out.cell (p:=⟨g,og+k * 8,none⟩) hg).trans d0
       have e1:=(HH5.out.cell (p:=⟨g,og+k * 8+1,none⟩) hg).trans d1
       have e2:=(HH5.out.cell (p:=⟨g,og+k * 8+2,none⟩) hg).trans d2
       have e3:=(HH5.out.cell (p:=⟨g,og+k * 8+3,none⟩) hg).trans d3
       have e4:=(HH5.out.cell (p:=⟨g,og+k * 8+4,none⟩) hg).trans d4
       have e5:=(HH5.out.cell (p:=⟨g,og+k * 8+5,none⟩) hg).trans d5
       have e6:=(HH5.out.cell (p:=⟨g,og+k * 8+6,none⟩) hg).trans d6
       have e7:=(HH5.out.cell (p:=⟨g,og+k * 8+7,none⟩) hg).trans d7
       clear d0 d1 d2 d3 d4 d5 d6 d7 v0 v1 v2 v3 v4 c1 i0
       have r0:=HC5.out.res.at_ 0 _ rfl
       have r1:=HC5.out.res.at_ 1 _ rfl
       have r2:=HC5.out.res.at_ 2 _ rfl
       have r3:=HC5.out.res.at_ 3 _ rfl
       have r4:=HC5.out.res.at_ 4 _ rfl
       have r5:=HC5.out.res.at_ 5 _ rfl
       have r6:=HC5.out.res.at_ 6 _ rfl
       have r7:=HC5.out.res.at_ 7 _ rfl
       have rf:=HC5.out.res.fr
       go_wp2
       exact bodyPost_ret (v:=.tuple #[.agg #[r.ver.v.a,r.ver.v.b,r.ver.v.c,.slice r.ver.A r.ver.v.pre.length r.ver.c,.slice r.ver.B r.ver.v.build.length r.ver.d,.bool r.yanked,.slice r.N r.needs.length r.nc,.slice r.B r.bans.length r.bc],.bool true]) (by simp [results,Tryz.results12,go_sem,r0,r1,r2,r3,r4,r5,r6,r7]) rfl ⟨by rw [HFF.out]; rfl,((((((((HC5.out.bel.setCell (p:=⟨rb,0,none⟩) HC5.out.hi _).setCell (p:=⟨rb,1,none⟩) HC5.out.hi _).setCell (p:=⟨rb,2,none⟩) HC5.out.hi _).setCell (p:=⟨rb,3,none⟩) HC5.out.hi _).setCell (p:=⟨rb,4,none⟩) HC5.out.hi _).setCell (p:=⟨rb,5,none⟩) HC5.out.hi _).setCell (p:=⟨rb,6,none⟩) HC5.out.hi _).setCell (p:=⟨rb,7,none⟩) HC5.out.hi _)⟩
     ·obtain rfl:k=p.rels.length:=by omega
      have HFF:Hid (findRel x name v.v=none):=by
       unfold Hid findRel; rw [HF.out]
       exact find_none _ HDR.out
      have r0:=HCR.out.res.at_ 0 _ rfl
      have r1:=HCR.out.res.at_ 1 _ rfl
      have r2:=HCR.out.res.at_ 2 _ rfl
      have r3:=HCR.out.res.at_ 3 _ rfl
      have r4:=HCR.out.res.at_ 4 _ rfl
      have r5:=HCR.out.res.at_ 5 _ rfl
      have r6:=HCR.out.res.at_ 6 _ rfl
      have r7:=HCR.out.res.at_ 7 _ rfl
      have rf:=HCR.out.res.fr
      go_wp2
      exact bodyPost_ret (v:=.tuple #[.agg #[.int .u64 0,.int .u64 0,.int .u64 0,.slice none 0 0,.slice none 0 0,.bool false,.slice none 0 0,.slice none 0 0],.bool false]) (by simp [results,Tryz.results12,go_sem,r0,r1,r2,r3,r4,r5,r6,r7]) rfl ⟨by rw [HFF.out]; rfl,((((((((HCR.out.bel.setCell (p:=⟨rb,0,none⟩) HCR.out.hi _).setCell (p:=⟨rb,1,none⟩) HCR.out.hi _).setCell (p:=⟨rb,2,none⟩) HCR.out.hi _).setCell (p:=⟨rb,3,none⟩) HCR.out.hi _).setCell (p:=⟨rb,4,none⟩) HCR.out.hi _).setCell (p:=⟨rb,5,none⟩) HCR.out.hi _).setCell (p:=⟨rb,6,none⟩) HCR.out.hi _).setCell (p:=⟨rb,7,none⟩) HCR.out.hi _)⟩
   ·have hbe0:((Ident.mk p.name).toList == (Ident.mk name).toList)=false:=mk_ne hnq
    have hbe:((Ident.mk p.name).toList != (Ident.mk name).toList)=true:=by rw [bne,mk_ne hnq]; rfl
    have HN:=Lib.hid (HMO.out hnq)
    clear hnq
    go_wp2
    exact ⟨⟨i+1,by omega,by go_num,HN.out,HC.out⟩,by simp [intOf]; omega⟩
  ·obtain rfl:i=n:=by omega
   have HFF:Hid (findRel x name v.v=none):=by
    unfold Hid findRel
    rw [find_none (l:=x) (fun p:MPack=>p.name == name) (fun j hj=>beq_eq_false_iff_ne.2 (HD.out j (by rw [← HL.out]; exact hj)))]; rfl
   have r0:=HC.out.res.at_ 0 _ rfl
   have r1:=HC.out.res.at_ 1 _ rfl
   have r2:=HC.out.res.at_ 2 _ rfl
   have r3:=HC.out.res.at_ 3 _ rfl
   have r4:=HC.out.res.at_ 4 _ rfl
   have r5:=HC.out.res.at_ 5 _ rfl
   have r6:=HC.out.res.at_ 6 _ rfl
   have r7:=HC.out.res.at_ 7 _ rfl
   have rf:=HC.out.res.fr
   go_wp2
   exact bodyPost_ret (v:=.tuple #[.agg #[.int .u64 0,.int .u64 0,.int .u64 0,.slice none 0 0,.slice none 0 0,.bool false,.slice none 0 0,.slice none 0 0],.bool false]) (by simp [results,Tryz.results12,go_sem,r0,r1,r2,r3,r4,r5,r6,r7]) rfl ⟨by rw [HFF.out]; rfl,((((((((HC.out.bel.setCell (p:=⟨rb,0,none⟩) HC.out.hi _).setCell (p:=⟨rb,1,none⟩) HC.out.hi _).setCell (p:=⟨rb,2,none⟩) HC.out.hi _).setCell (p:=⟨rb,3,none⟩) HC.out.hi _).setCell (p:=⟨rb,4,none⟩) HC.out.hi _).setCell (p:=⟨rb,5,none⟩) HC.out.hi _).setCell (p:=⟨rb,6,none⟩) HC.out.hi _).setCell (p:=⟨rb,7,none⟩) HC.out.hi _)⟩
end Go.Proofs.YtnpjklaaokiikaaGreatDoor.Model
namespace Go.Proofs.YtnpjklaaokiikaaGreatDoor.Model
open Go.RowKit Num Ident Semver
open Range (Rng noRng RV KeepS LtB LenOk goodR wt)
open KR (KRow AtV)
open Name (isName)

theorem depFault_any (d:MDep) (B:Nat) (w:World) (h:DepOk w (LtB B) d) (hB:B≤w.heap.size)  :
  Calls Tryz.prog 120 #[d.agg] w fun e w'=>e=.returned (.int .i64 (depE d.p))∧Below w.heap.size w w':=by
 have HO:Hid (DepOk w (LtB w.heap.size) d):=h.mono fun _ g _=>Nat.lt_of_lt_of_le g hB
 have HN:Hid (d.name.length≤maxLen):=h.short
 clear h hB
 have HE1:=Lib.hid (fun h=>depE_name (d:=d.p) h)
 have HE2:=Lib.hid (fun h g=>depE_range (d:=d.p) h g)
 have HE3:=Lib.hid (fun h g=>depE_good (d:=d.p) h g)
 obtain ⟨W0,hW,hav,hb0⟩:∃ W,W=w.alloc (.cells #[.string (Ident.mk d.name),d.x.kind,d.x.v.a,d.x.v.b,d.x.v.c,.slice d.x.A d.x.v.pre.length d.x.c,.slice d.x.B d.x.v.build.length d.x.d,.slice d.x.L d.x.n d.x.e] 57)∧AtV W w.heap.size [.string (Ident.mk d.name),.int .i64 d.x.kind,.int .u64 d.x.v.a,.int .u64 d.x.v.b,.int .u64 d.x.v.c,.slice d.x.A d.x.v.pre.length d.x.c,.slice d.x.B d.x.v.build.length d.x.d,.slice d.x.L d.x.n d.x.e]∧Below w.heap.size w W:=⟨_,rfl,AtV.new w _ _,(Below.refl _ _).alloc (Nat.le_refl _) _⟩
 have HAV:=Lib.hid hav
 have HB0:=Lib.hid hb0
 clear hav hb0
 obtain ⟨bd,hbd⟩:∃ bd,w.heap.size=bd:=⟨_,rfl⟩
 have HBD:=Lib.hid hbd
 unfold MDep.agg
 go_enter Tryz.func120,Tryz.ntmps120
 go_upto_region 1 with (fail)
 rw [← hW]
 clear hW
 rw [hbd] at HAV
 clear hbd
 have c0:=HAV.out.at_ 0 _ rfl
 go_wp2_with fail
 refine (Name.good_any (Ident.mk d.name) _ (by rw [mk_size]; exact HN.out)).mono ?_
 rw [mk_list]
 rintro e Wn ⟨rfl,hbn⟩
 have HBN:=Lib.hid (HB0.out.trans (hbn.mono HB0.out.size))
 have HAV1:=Lib.hid (HAV.out.kept hbn HAV.out.lt)
 clear hbn c0
 cases hnm:isName d.name
 ·have HF:=Lib.hid (HE1.out hnm)
  clear hnm
  go_wp2
  go_ret
  exact ⟨by rw [HF.out]; rfl,HBN.out⟩
 ·have HNM:=Lib.hid hnm
  clear hnm
  have c1:=HAV1.out.at_ 1 _ rfl
  have c2:=HAV1.out.at_ 2 _ rfl
  have c3:=HAV1.out.at_ 3 _ rfl
  have c4:=HAV1.out.at_ 4 _ rfl
  have c5:=HAV1.out.at_ 5 _ rfl
  have c6:=HAV1.out.at_ 6 _ rfl
  have c7:=HAV1.out.at_ 7 _ rfl
  go_wp2_with fail
  refine (Range.goodIs_any d.r d.x w.heap.size _ HO.out.len (HO.out.lies.keep (KeepS.of_below HBN.out)) HBN.out.size).mono ?_
  rintro e W1 ⟨rfl,hb⟩
  have HB1:=Lib.hid (HBN.out.trans (hb.mono HBN.out.size))
  clear hb c1 c2 c3 c4 c5 c6 c7
  cases hg:goodR d.r 0
  ·have HF:=Lib.hid (HE2.out HNM.out hg)
   clear hg
   go_wp2
   go_ret
   exact ⟨by rw [HF.out]; rfl,HB1.out⟩
  ·have HF:=Lib.hid (HE3.out HNM.out hg)
   clear hg
   go_wp2
   go_ret
   exact ⟨by rw [HF.out]; rfl,HB1.out⟩
theorem first_out {α:Type} [Inhabited α] (l:List α) (f:Nat→Int) (I J:Nat→World→Prop) {e:Ending} {w':World} (h:FirstPost l.length f I J e w') (g:Nat→α→Int) (hg:∀ k,k<l.length→g k (l.getD k default)=f k) :
  (e=.returned (out2V (firstG (fun k d=>toO (g k d)) 0 l)))∧((∃ k,k<l.length∧J k w'∧firstG (fun k d=>toO (g k d)) 0 l=some (k,f k))∨(I l.length w'∧firstG (fun k d=>toO (g k d)) 0 l=none)):=by
 rcases h with ⟨k,hk,ha,hf,he,hJ⟩ | ⟨ha,he,hI⟩
 ·have e1:firstG (fun k d=>toO (g k d)) 0 l=some (k,f k):=by
   have:=firstG_stop (fun k d=>toO (g k d)) l 0 k (f k) hk (fun j hj=>by
    show toO (g (0+j) (l.getD j default))=none
    rw [Nat.zero_add,hg j (by omega),ha j hj]; rfl) (by
    show toO (g (0+k) (l.getD k default))=some (f k)
    rw [Nat.zero_add,hg k hk]; exact toO_some hf)
   rwa [Nat.zero_add] at this
  exact ⟨by rw [he,e1]; rfl,.inl ⟨k,hk,hJ,e1⟩⟩
 ·have e1:firstG (fun k d=>toO (g k d)) 0 l=none:=firstG_none _ l 0 fun j hj=>by
   show toO (g (0+j) (l.getD j default))=none
   rw [Nat.zero_add,hg j hj,ha j hj]; rfl
  exact ⟨by rw [he,e1]; rfl,.inr ⟨hI,e1⟩⟩
theorem roots_any (A:Option Addr) (n c:Nat) (l:List MDep) (B:Nat) (w:World) (h:DRow w (LtB B) A n l) (hB:B≤w.heap.size) (hn:n≤maxLen) :
  Calls Tryz.prog 62 #[.slice A n c] w fun e w'=>e=.returned (out2V (rootsF (l.map MDep.p)))∧Below w.heap.size w w':=by
 have HP:Hid (∀ e w',FirstPost n (fun k=>depE (l.getD k default).p) (fun _ W=>Below w.heap.size w W) (fun _ W=>Below w.heap.size w W) e w'→e=.returned (out2V (rootsF (l.map MDep.p)))∧Below w.heap.size w w'):=fun e w' hp=>by
  obtain rfl:=h.row.1
  have hq:=first_out (l.map MDep.p) _ _ _ (by rw [List.length_map]; exact hp) (fun _ d=>depE d) (fun k hk=>by rw [List.length_map] at hk; rw [map_at MDep.p l hk])
  exact ⟨hq.1,by rcases hq.2 with ⟨k,_,hb,_⟩ | ⟨hb,_⟩ <;> exact hb⟩
 have hfst:Calls Tryz.prog 119 #[.slice A n c,.func (.func 120) #[] #[]] w _:=firstDep_any 120 #[] (enters_of Tryz.func120 (by kernel_rfl) rfl) A n c l (fun k=>depE (l.getD k default).p) (fun _ W=>Below w.heap.size w W) (fun _ W=>Below w.heap.size w W) (LtB B) w hn
  (fun k W _ hb=>h.keep (KeepS.of_below hb))
  (fun k W hk hb=>(depFault_any (l.getD k default) B W ((h.keep (KeepS.of_below hb)).ok _ (h.row.mem hk)) (Nat.le_trans hB hb.size)).mono fun e w' ⟨he,hb'⟩=>⟨he,fun _=>hb.trans (hb'.mono hb.size),fun _=>hb.trans (hb'.mono hb.size)⟩) (Below.refl _ _)
 clear h
 go_enter Tryz.func62,Tryz.ntmps62
 go_wp2_with fail
 refine hfst.mono ?_
 intro e w' hp
 obtain ⟨he,hb⟩:=HP.out e w' hp
 subst he
 clear hp
 have HB:=Lib.hid hb
 clear hb
 obtain ⟨r,hr⟩:∃ r,rootsF (l.map MDep.p)=r:=⟨_,rfl⟩
 have HR:=Lib.hid hr
 rw [hr]
 clear hr
 unfold out2V
 go_wp2
 go_ret2
 exact ⟨by rw [HR.out]; rfl,HB.out⟩
end Go.Proofs.YtnpjklaaokiikaaGreatDoor.Model
