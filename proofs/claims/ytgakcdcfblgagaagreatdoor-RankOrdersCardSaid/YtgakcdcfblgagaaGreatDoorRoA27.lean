/-
  What the theorem of the last text needs of these: MoFirst, MoFew, MoRefRel, MoClos, MoRefPlain, MoRoots, MoFind. Conditions: as each theorem states.
-/
import Derived.Test.YtgakcdcfblgagaaGreatDoorRoA1
import Derived.Test.YtgakcdcfblgagaaGreatDoorRoA2
import Derived.Test.YtgakcdcfblgagaaGreatDoorRoA4
import Derived.Test.YtgakcdcfblgagaaGreatDoorRoA6
import Derived.Test.YtgakcdcfblgagaaGreatDoorRoA16
import Derived.Test.YtgakcdcfblgagaaGreatDoorRoA17
import Derived.Test.YtgakcdcfblgagaaGreatDoorRoA25
import Derived.Test.YtgakcdcfblgagaaGreatDoorRoA26
import Derived.Shelf.GgClosure.Gives
import Derived.Shelf.SlicesQ.IndexFunc
import Derived.Sort.Walk0
set_option maxRecDepth 100000
set_option maxHeartbeats 25600000
namespace Go.Proofs.YtgakcdcfblgagaaGreatDoor.Model
open Go.RowKit Num Ident Semver
open Range (Rng noRng RV KeepS LtB LenOk goodR wt)
open KR (KRow AtV)

def FirstPost (n:Nat) (f:Nat→Int) (I J:Nat→World→Prop) (e:Ending) (w':World):Prop :=
 (∃ k,k<n∧(∀ j,j<k→f j=0)∧f k≠0∧e=.returned (.tuple #[.int .i64 k,.int .i64 (f k)])∧J k w')∨((∀ j,j<n→f j=0)∧e=.returned (.tuple #[.int .i64 (-1),.int .i64 0])∧I n w')
def FirstJ0 (A:Option Addr) (n c g:Nat) (cb:Array Value) (f:Nat→Int) (I:Nat→World→Prop) (a':Act) (W:World):Prop :=
 ∃ (k:Nat) (u2 u3:Value) (u6 u7 u8 u9 u10 u11 u12 u13 u14 u15 u16 u17 u18 u19 u20 u21:Value),k≤n∧Hid (∀ j,j<k→f j=0)∧Hid (I k W)∧a'={ tmps:=#[.slice A n c,.func (.func g) #[] cb,u2,u3,.int .i64 k,.int .i64 0,u6,u7,u8,u9,u10,u11,u12,u13,u14,u15,u16,u17,u18,u19,u20,u21],defers:=[] }
def FirstJ1 (A:Option Addr) (n c g:Nat) (cb:Array Value) (f:Nat→Int) (I J:Nat→World→Prop) (a':Act) (W:World):Prop :=
 ∃ (p q:Int) (u2 u3:Value) (u6 u7 u8 u9 u10 u11 u12 u13 u14 u15 u16 u17 u18 u19 u20 u21:Value),Hid (FirstPost n f I J (.returned (.tuple #[.int .i64 p,.int .i64 q])) W)∧a'={ tmps:=#[.slice A n c,.func (.func g) #[] cb,u2,u3,.int .i64 p,.int .i64 q,u6,u7,u8,u9,u10,u11,u12,u13,u14,u15,u16,u17,u18,u19,u20,u21],defers:=[] }
def FirstM (n:Nat) (a':Act) (_:World):Nat:=n - (intOf (a'.tmps.getD 4 undef)).toNat
theorem firstDep_any (g:Nat) (cb:Array Value) (eg:∀ args w,(callFunc g args).run Tryz.prog w=.ok (.enter g args) w) (A:Option Addr) (n c:Nat) (l:List MDep) (f:Nat→Int) (I J:Nat→World→Prop) (S:Nat→Prop) (w:World) (hn:n≤maxLen)
  (hrow:∀ k W,k≤n→I k W→DRow W S A n l)
  (hcall:∀ k W,k<n→I k W→Calls Tryz.prog g (#[(l.getD k default).agg] ++ cb) W fun e w'=>e=.returned (.int .i64 (f k))∧(f k=0→I (k+1) w')∧(f k≠0→J k w')) (h0:I 0 w) :
  Calls Tryz.prog 202 #[.slice A n c,.func (.func g) #[] cb] w (FirstPost n f I J):=by
 unfold maxLen at hn
 have HR:=Lib.hid hrow
 have HC:=Lib.hid hcall
 have H0:=Lib.hid h0
 clear hrow hcall h0
 go_enter Tryz.func202,Tryz.ntmps202
 go_wp2
 refine wp_two 1 0 (FirstJ0 A n c g cb f I) (FirstJ1 A n c g cb f I J) (FirstM n) (fun _ _=>0) rfl rfl ?_ ?_ ?_
 ·rintro mm a' W ⟨p,q,u2,u3,u6,u7,u8,u9,u10,u11,u12,u13,u14,u15,u16,u17,u18,u19,u20,u21,HP,rfl⟩ hmm
  clear hmm
  go_wp2
  simp only [jumps]
  go_ret2
  exact HP.out
 ·rintro HP mm a' W ⟨k,u2,u3,u6,u7,u8,u9,u10,u11,u12,u13,u14,u15,u16,u17,u18,u19,u20,u21,hk,HA,HI,rfl⟩ hmm
  have hmm2:mm=n - k:=by rw [← hmm]; simp [FirstM,intOf]
  clear hmm
  by_cases hlt:k<n
  ·have hrw:=HR.out k W hk HI.out
   have hcl:=HC.out k W hlt HI.out
   obtain ⟨b,o,rfl,_,hb,c0,c1,c2,c3,c4,c5,c6,c7⟩:=hrw.cells hlt
   clear hrw
   generalize l.getD k default=d at c0 c1 c2 c3 c4 c5 c6 c7 hcl
   unfold MDep.agg at hcl
   obtain ⟨q,hq⟩:∃ q,f k=q:=⟨_,rfl⟩
   rw [hq] at hcl
   have HQ:=Lib.hid hq
   clear hq
   by_cases h0:q=0
   ·have HZ:=Lib.hid (HQ.out.trans h0)
    subst h0
    clear HQ
    go_wp2_with (go_at_fn g; refine hcl.mono ?_; rintro e w' ⟨rfl,hq1,hq2⟩)
    have HI2:Hid (I (k+1) w'):=hq1 (by trivial)
    clear hq1 hq2 c0 c1 c2 c3 c4 c5 c6 c7
    go_step3
    exact .inl ⟨rfl,⟨k+1,u2,u3,_,_,_,_,_,_,_,_,_,_,_,_,_,_,_,_,by omega,(fun j hj=>by
     rcases Nat.lt_or_ge j k with h | h
     ·exact HA.out j h
     ·obtain rfl:j=k:=by omega
      exact HZ.out),HI2,rfl⟩,by (try rw [hmm2]); simp [FirstM,intOf]; omega⟩
   ·have hne:(q == 0)=false:=by simpa using h0
    go_wp2_with (go_at_fn g; refine hcl.mono ?_; rintro e w' ⟨rfl,hq1,hq2⟩)
    have HJ:Hid (J k w'):=hq2 h0
    clear hq1 hq2 c0 c1 c2 c3 c4 c5 c6 c7
    go_step3
    exact .inr ⟨rfl,⟨k,q,u2,u3,_,_,_,_,_,_,_,_,_,_,_,_,_,_,_,_,.inl ⟨k,hlt,HA.out,(by rw [HQ.out]; exact h0),by rw [HQ.out],HJ.out⟩,rfl⟩,by (show 0<mm); omega⟩
  ·obtain rfl:k=n:=by omega
   go_wp2
   go_step3
   rename_i hK
   exact hK _ _ (HP.out _ _ _ ⟨-1,0,u2,u3,_,_,_,_,_,_,_,_,_,_,_,_,_,_,_,_,.inr ⟨HA.out,rfl,HI.out⟩,rfl⟩ (Nat.zero_le _))
 ·intro HP
  go_wp2
  go_step3
  rename_i hK
  exact hK _ _ (HP.out _ _ ⟨0,_,_,_,_,_,_,_,_,_,_,_,_,_,_,_,_,_,_,Nat.zero_le _,(fun j hj=>absurd hj (Nat.not_lt_zero _)),H0.out,rfl⟩)
theorem firstPack_any (g:Nat) (cb:Array Value) (eg:∀ args w,(callFunc g args).run Tryz.prog w=.ok (.enter g args) w) (A:Option Addr) (n c:Nat) (l:List MPack) (f:Nat→Int) (I J:Nat→World→Prop) (S:Nat→Prop) (w:World) (hn:n≤maxLen)
  (hrow:∀ k W,k≤n→I k W→PRow W S A n l)
  (hcall:∀ k W,k<n→I k W→Calls Tryz.prog g (#[(l.getD k default).agg] ++ cb) W fun e w'=>e=.returned (.int .i64 (f k))∧(f k=0→I (k+1) w')∧(f k≠0→J k w')) (h0:I 0 w) :
  Calls Tryz.prog 104 #[.slice A n c,.func (.func g) #[] cb] w (FirstPost n f I J):=by
 unfold maxLen at hn
 have HR:=Lib.hid hrow
 have HC:=Lib.hid hcall
 have H0:=Lib.hid h0
 clear hrow hcall h0
 go_enter Tryz.func104,Tryz.ntmps104
 go_wp2
 refine wp_two 1 0 (FirstJ0 A n c g cb f I) (FirstJ1 A n c g cb f I J) (FirstM n) (fun _ _=>0) rfl rfl ?_ ?_ ?_
 ·rintro mm a' W ⟨p,q,u2,u3,u6,u7,u8,u9,u10,u11,u12,u13,u14,u15,u16,u17,u18,u19,u20,u21,HP,rfl⟩ hmm
  clear hmm
  go_wp2
  simp only [jumps]
  go_ret2
  exact HP.out
 ·rintro HP mm a' W ⟨k,u2,u3,u6,u7,u8,u9,u10,u11,u12,u13,u14,u15,u16,u17,u18,u19,u20,u21,hk,HA,HI,rfl⟩ hmm
  have hmm2:mm=n - k:=by rw [← hmm]; simp [FirstM,intOf]
  clear hmm
  by_cases hlt:k<n
  ·have hrw:=HR.out k W hk HI.out
   have hcl:=HC.out k W hlt HI.out
   obtain ⟨b,o,rfl,_,hb,c0,c1⟩:=hrw.cells hlt
   clear hrw
   generalize l.getD k default=d at c0 c1 hcl
   unfold MPack.agg at hcl
   obtain ⟨q,hq⟩:∃ q,f k=q:=⟨_,rfl⟩
   rw [hq] at hcl
   have HQ:=Lib.hid hq
   clear hq
   by_cases h0:q=0
   ·have HZ:=Lib.hid (HQ.out.trans h0)
    subst h0
    clear HQ
    go_wp2_with (go_at_fn g; refine hcl.mono ?_; rintro e w' ⟨rfl,hq1,hq2⟩)
    have HI2:Hid (I (k+1) w'):=hq1 (by trivial)
    clear hq1 hq2 c0 c1
    go_step3
    exact .inl ⟨rfl,⟨k+1,u2,u3,_,_,_,_,_,_,_,_,_,_,_,_,_,_,_,_,by omega,(fun j hj=>by
     rcases Nat.lt_or_ge j k with h | h
     ·exact HA.out j h
     ·obtain rfl:j=k:=by omega
      exact HZ.out),HI2,rfl⟩,by (try rw [hmm2]); simp [FirstM,intOf]; omega⟩
   ·have hne:(q == 0)=false:=by simpa using h0
    go_wp2_with (go_at_fn g; refine hcl.mono ?_; rintro e w' ⟨rfl,hq1,hq2⟩)
    have HJ:Hid (J k w'):=hq2 h0
    clear hq1 hq2 c0 c1
    go_step3
    exact .inr ⟨rfl,⟨k,q,u2,u3,_,_,_,_,_,_,_,_,_,_,_,_,_,_,_,_,.inl ⟨k,hlt,HA.out,(by rw [HQ.out]; exact h0),by rw [HQ.out],HJ.out⟩,rfl⟩,by (show 0<mm); omega⟩
  ·obtain rfl:k=n:=by omega
   go_wp2
   go_step3
   rename_i hK
   exact hK _ _ (HP.out _ _ _ ⟨-1,0,u2,u3,_,_,_,_,_,_,_,_,_,_,_,_,_,_,_,_,.inr ⟨HA.out,rfl,HI.out⟩,rfl⟩ (Nat.zero_le _))
 ·intro HP
  go_wp2
  go_step3
  rename_i hK
  exact hK _ _ (HP.out _ _ ⟨0,_,_,_,_,_,_,_,_,_,_,_,_,_,_,_,_,_,_,Nat.zero_le _,(fun j hj=>absurd hj (Nat.not_lt_zero _)),H0.out,rfl⟩)
theorem firstRelease_any (g:Nat) (cb:Array Value) (eg:∀ args w,(callFunc g args).run Tryz.prog w=.ok (.enter g args) w) (A:Option Addr) (n c:Nat) (l:List MRel) (f:Nat→Int) (I J:Nat→World→Prop) (S:Nat→Prop) (w:World) (hn:n≤maxLen)
  (hrow:∀ k W,k≤n→I k W→RRow W S A n l)
  (hcall:∀ k W,k<n→I k W→Calls Tryz.prog g (#[(l.getD k default).agg] ++ cb) W fun e w'=>e=.returned (.int .i64 (f k))∧(f k=0→I (k+1) w')∧(f k≠0→J k w')) (h0:I 0 w) :
  Calls Tryz.prog 162 #[.slice A n c,.func (.func g) #[] cb] w (FirstPost n f I J):=by
 unfold maxLen at hn
 have HR:=Lib.hid hrow
 have HC:=Lib.hid hcall
 have H0:=Lib.hid h0
 clear hrow hcall h0
 go_enter Tryz.func162,Tryz.ntmps162
 go_wp2
 refine wp_two 1 0 (FirstJ0 A n c g cb f I) (FirstJ1 A n c g cb f I J) (FirstM n) (fun _ _=>0) rfl rfl ?_ ?_ ?_
 ·rintro mm a' W ⟨p,q,u2,u3,u6,u7,u8,u9,u10,u11,u12,u13,u14,u15,u16,u17,u18,u19,u20,u21,HP,rfl⟩ hmm
  clear hmm
  go_wp2
  simp only [jumps]
  go_ret2
  exact HP.out
 ·rintro HP mm a' W ⟨k,u2,u3,u6,u7,u8,u9,u10,u11,u12,u13,u14,u15,u16,u17,u18,u19,u20,u21,hk,HA,HI,rfl⟩ hmm
  have hmm2:mm=n - k:=by rw [← hmm]; simp [FirstM,intOf]
  clear hmm
  by_cases hlt:k<n
  ·have hrw:=HR.out k W hk HI.out
   have hcl:=HC.out k W hlt HI.out
   obtain ⟨b,o,rfl,_,hb,c0,c1,c2,c3,c4,c5,c6,c7⟩:=hrw.cells hlt
   clear hrw
   generalize l.getD k default=d at c0 c1 c2 c3 c4 c5 c6 c7 hcl
   unfold MRel.agg at hcl
   obtain ⟨q,hq⟩:∃ q,f k=q:=⟨_,rfl⟩
   rw [hq] at hcl
   have HQ:=Lib.hid hq
   clear hq
   by_cases h0:q=0
   ·have HZ:=Lib.hid (HQ.out.trans h0)
    subst h0
    clear HQ
    go_wp2_with (go_at_fn g; refine hcl.mono ?_; rintro e w' ⟨rfl,hq1,hq2⟩)
    have HI2:Hid (I (k+1) w'):=hq1 (by trivial)
    clear hq1 hq2 c0 c1 c2 c3 c4 c5 c6 c7
    go_step3
    exact .inl ⟨rfl,⟨k+1,u2,u3,_,_,_,_,_,_,_,_,_,_,_,_,_,_,_,_,by omega,(fun j hj=>by
     rcases Nat.lt_or_ge j k with h | h
     ·exact HA.out j h
     ·obtain rfl:j=k:=by omega
      exact HZ.out),HI2,rfl⟩,by (try rw [hmm2]); simp [FirstM,intOf]; omega⟩
   ·have hne:(q == 0)=false:=by simpa using h0
    go_wp2_with (go_at_fn g; refine hcl.mono ?_; rintro e w' ⟨rfl,hq1,hq2⟩)
    have HJ:Hid (J k w'):=hq2 h0
    clear hq1 hq2 c0 c1 c2 c3 c4 c5 c6 c7
    go_step3
    exact .inr ⟨rfl,⟨k,q,u2,u3,_,_,_,_,_,_,_,_,_,_,_,_,_,_,_,_,.inl ⟨k,hlt,HA.out,(by rw [HQ.out]; exact h0),by rw [HQ.out],HJ.out⟩,rfl⟩,by (show 0<mm); omega⟩
  ·obtain rfl:k=n:=by omega
   go_wp2
   go_step3
   rename_i hK
   exact hK _ _ (HP.out _ _ _ ⟨-1,0,u2,u3,_,_,_,_,_,_,_,_,_,_,_,_,_,_,_,_,.inr ⟨HA.out,rfl,HI.out⟩,rfl⟩ (Nat.zero_le _))
 ·intro HP
  go_wp2
  go_step3
  rename_i hK
  exact hK _ _ (HP.out _ _ ⟨0,_,_,_,_,_,_,_,_,_,_,_,_,_,_,_,_,_,_,Nat.zero_le _,(fun j hj=>absurd hj (Nat.not_lt_zero _)),H0.out,rfl⟩)
end Go.Proofs.YtgakcdcfblgagaaGreatDoor.Model
namespace Go.Proofs.YtgakcdcfblgagaaGreatDoor.Model
open Go.RowKit Num Ident Semver
open Range (Rng noRng RV KeepS LtB LenOk goodR wt)
open Nrm (tot Tells Slim)
open KR (KRow AtV)

def FewD (l:List MDep):Prop:=l.length≤6∧∀ d ∈ l,d.name.length≤300∧(Slim d.r→tot d.r≤12)
structure FewX (x:List MPack):Prop where
 len:x.length≤6
 pack:∀ p ∈ x,p.name.length≤300∧p.rels.length≤6
 rel:∀ p ∈ x,∀ r ∈ p.rels,r.ver.v.pre.length≤20∧r.ver.v.build.length≤20∧FewD r.needs∧FewD r.bans
def FewS (s:List MPin):Prop:=s.length≤8∧∀ p ∈ s,p.name.length≤300∧p.ver.v.pre.length≤20∧p.ver.v.build.length≤20
theorem mem_of_at {α:Type} [Inhabited α] {l:List α} {n:Nat} {P:α→Prop} (hl:l.length=n) (h:∀ j,j<n→P (l.getD j default)):∀ d ∈ l,P d:=by
 intro d hd
 obtain ⟨j,hj,rfl⟩:=List.getElem_of_mem hd
 have:=h j (by omega)
 rwa [List.getD_eq_getElem?_getD,List.getElem?_eq_getElem hj] at this
theorem at_step {α:Type} [Inhabited α] {l:List α} {k:Nat} {P:α→Prop} (hD:∀ j,j<k→P (l.getD j default)) (h:P (l.getD k default)):∀ j,j<k+1→P (l.getD j default):=fun j hj=>by
 rcases Nat.lt_or_ge j k with h1 | h1
 ·exact hD j h1
 ·obtain rfl:j=k:=by omega
  exact h
def DepsPost (l:List MDep) (w:World) (e:Ending) (w':World):Prop:=∃ b:Bool,e=.returned (.bool b)∧(b=true→FewD l)∧Below w.heap.size w w'
def FewP (d:MDep):Prop:=d.name.length≤300∧(Slim d.r→tot d.r≤12)
theorem lawDeps_any (A:Option Addr) (n c:Nat) (l:List MDep) (B:Nat) (w:World) (h:DRow w (LtB B) A n l) (hB:B≤w.heap.size) (hn:n≤maxLen) :
  Calls Tryz.prog 50 #[.slice A n c] w (DepsPost l w):=by
 have HO:=Lib.hid h
 have HL:=Lib.hid h.row.1
 unfold maxLen at hn
 clear h
 by_cases h6:6<n
 ·go_enter Tryz.func50,Tryz.ntmps50
  go_wp2
  go_ret
  exact ⟨false,rfl,(fun h=>by cases h),Below.refl _ _⟩
 ·have HL6:Hid (l.length≤6):=by unfold Hid; rw [HL.out]; omega
  go_enter Tryz.func50,Tryz.ntmps50
  go_wp2
  go_loopw [3] (fun i W=>∃ k:Nat,k≤n∧i=.int .i64 k∧Hid (∀ j,j<k→FewP (l.getD j default))∧Hid (Below w.heap.size w W)) (fun i _=>n - (intOf i).toNat)
  case atStart=>exact ⟨0,Nat.zero_le _,rfl,(fun j hj=>by omega),Below.refl _ _⟩
  case round =>
   rename World=>wk
   obtain ⟨k,hk,rfl,HD,HW⟩:=hrel
   by_cases hlt:k<n
   ·have hrow:=HO.out.keep (KeepS.of_below (S:=LtB B) HW.out)
    have HDO:Hid (DepOk wk (LtB B) (l.getD k default)):=hrow.ok _ (getD_mem (by rw [HL.out]; exact hlt))
    obtain ⟨b,o,rfl,_,hb,c0,c1,c2,c3,c4,c5,c6,c7⟩:=hrow.cells hlt
    have HMO:Hid (FewP (l.getD k default)→∀ j,j<k+1→FewP (l.getD j default)):=at_step HD.out
    clear hrow
    generalize l.getD k default=d at c0 c1 c2 c3 c4 c5 c6 c7 HDO HMO
    have hz:(Ident.mk d.name).size=d.name.length:=mk_size _
    have hsh:d.name.length≤9223372036854775807:=HDO.out.short
    by_cases h3:300<d.name.length
    ·go_wp2
     go_ret
     exact ⟨false,rfl,(fun h=>by cases h),HW.out⟩
    ·have HN3:=Lib.hid h3
     go_wp2_with fail
     refine (Nrm.great_full (wt d.r) d.r d.x B 12 _ (Nat.le_refl _) HDO.out.len HDO.out.lies (Nat.le_trans hB HW.out.size)).mono ?_
     rintro e W1 ⟨z,rfl,ht,hb1⟩
     have HW1:=Lib.hid (HW.out.trans (hb1.mono HW.out.size))
     have HT:=Lib.hid ht
     clear hb1 ht c0 c1 c2 c3 c4 c5 c6 c7
     by_cases hz12:12<z
     ·go_wp2
      go_ret
      exact ⟨false,rfl,(fun h=>by cases h),HW1.out⟩
     ·have HP:Hid (∀ j,j<k+1→FewP (l.getD j default)):=HMO.out ⟨by have:=HN3.out; omega,fun hg=>by
       have:=(HT.out hg (by omega) (by omega)).2.2 (by omega)
       omega⟩
      go_wp2
      exact ⟨⟨k+1,by omega,by go_num,HP.out,HW1.out⟩,by simp [intOf]; omega⟩
   ·obtain rfl:k=n:=by omega
    have HF:Hid (FewD l):=⟨HL6.out,mem_of_at HL.out HD.out⟩
    go_wp2
    go_ret
    exact ⟨true,rfl,(fun _=>HF.out),HW.out⟩
end Go.Proofs.YtgakcdcfblgagaaGreatDoor.Model
namespace Go.Proofs.YtgakcdcfblgagaaGreatDoor.Model
open Go.RowKit Num Ident Semver
open Range (Rng noRng RV KeepS LtB LenOk goodR wt)
open KR (KRow AtV)

def findRel (x:List MPack) (name:List UInt8) (v:Ver):Option MRel:=(x.find? fun p=>p.name == name).bind fun p=>p.rels.find? fun r=>sameV r.ver.v v
theorem findRel_p (x:List MPack) (name:List UInt8) (v:Ver):releaseO (x.map MPack.p) name v=(findRel x name v).map MRel.p:=by
 unfold releaseO findRel
 rw [List.find?_map]
 show (Option.map MPack.p (x.find? fun p=>p.name == name)).bind _=_
 cases x.find? fun p=>p.name == name with
 | none=>rfl
 | some p =>
  show (p.rels.map MRel.p).find? _=Option.map MRel.p (p.rels.find? _)
  rw [List.find?_map]; rfl
def relV:Option MRel→Value
 | none=>.tuple #[.agg #[.int .u64 0,.int .u64 0,.int .u64 0,.slice none 0 0,.slice none 0 0,.bool false,.slice none 0 0,.slice none 0 0],.bool false]
 | some r=>.tuple #[r.agg,.bool true]
theorem find_first {α:Type} [Inhabited α] (f:α→Bool):∀ (l:List α) (k:Nat),k<l.length→(∀ j,j<k→f (l.getD j default)=false)→f (l.getD k default)=true→l.find? f=some (l.getD k default)
 | [],_,h,_,_=>by simp at h
 | a :: l,0,_,_,h=>by
  have h:f a=true:=h
  rw [List.find?_cons,h]; rfl
 | a :: l,k+1,h,ha,hb=>by
  have h0:f a=false:=ha 0 (Nat.succ_pos _)
  rw [List.find?_cons,h0]
  exact find_first f l k (by simpa using h) (fun j hj=>ha (j+1) (Nat.succ_lt_succ hj)) hb
theorem find_none {α:Type} [Inhabited α] (f:α→Bool) {l:List α} (h:∀ j,j<l.length→f (l.getD j default)=false):l.find? f=none:=by
 rw [List.find?_eq_none]
 intro x hx
 obtain ⟨j,hj,rfl⟩:=List.getElem_of_mem hx
 have:=h j hj
 rw [List.getD_eq_getElem?_getD,List.getElem?_eq_getElem hj] at this
 rw [Bool.not_eq_true]; exact this
structure RelAt (w:World) (ib vb rb:Nat) (A:Option Addr) (n c:Nat) (v:MVer) (W:World):Prop where
 ix:AtV W ib [.slice A n c]
 ver:AtV W vb [.int .u64 v.v.a,.int .u64 v.v.b,.int .u64 v.v.c,.slice v.A v.v.pre.length v.c,.slice v.B v.v.build.length v.d]
 res:AtV W rb [.int .u64 0,.int .u64 0,.int .u64 0,.slice none 0 0,.slice none 0 0,.bool false,.slice none 0 0,.slice none 0 0]
 hi:w.heap.size≤rb
 bel:Below w.heap.size w W
end Go.Proofs.YtgakcdcfblgagaaGreatDoor.Model
namespace Go.Proofs.YtgakcdcfblgagaaGreatDoor.Model
open Go.RowKit Num Ident Semver Fr
open Range (Rng noRng RV KeepS LtB LenOk goodR wt)
open KR (KRow AtV)
open Name (isName)

structure Elem {α:Type} (l:List α) where
 x:α
 h:x ∈ l
end Go.Proofs.YtgakcdcfblgagaaGreatDoor.Model
namespace Go.Proofs.YtgakcdcfblgagaaGreatDoor.Model
open Go.RowKit Num Ident Semver
open Range (Rng noRng RV KeepS LtB LenOk goodR wt)
open KR (KRow AtV)
open Prec (fullV)

theorem less_text (a b:List UInt8):Op.bytesLess (Ident.mk a).toList (Ident.mk b).toList=decide (a<b):=by
 rw [bytesLess_eq,Lib.toList_data,Lib.toList_data]; rfl
end Go.Proofs.YtgakcdcfblgagaaGreatDoor.Model
namespace Go.Proofs.YtgakcdcfblgagaaGreatDoor.Model
open Go.RowKit Num Ident Semver
open Range (Rng noRng RV KeepS LtB LenOk goodR wt)
open KR (KRow AtV)
open Name (isName)

theorem depFault_any (d:MDep) (B:Nat) (w:World) (h:DepOk w (LtB B) d) (hB:B≤w.heap.size)  :
  Calls Tryz.prog 204 #[d.agg] w fun e w'=>e=.returned (.int .i64 (depE d.p))∧Below w.heap.size w w':=by
 have HO:Hid (DepOk w (LtB w.heap.size) d):=h.mono fun _ g _=>Nat.lt_of_lt_of_le g hB
 have HN:Hid (d.name.length≤maxLen):=h.short
 clear h hB
 have HE1:=Lib.hid (fun h=>depE_name (d:=d.p) h)
 have HE2:=Lib.hid (fun h g=>depE_range (d:=d.p) h g)
 have HE3:=Lib.hid (fun h g=>depE_good (d:=d.p) h g)
 obtain ⟨W0,hW,hav,hb0⟩:∃ W,W=w.alloc (.cells #[.string (Ident.mk d.name),d.x.kind,d.x.v.a,d.x.v.b,d.x.v.c,.slice d.x.A d.x.v.pre.length d.x.c,.slice d.x.B d.x.v.build.length d.x.d,.slice d.x.L d.x.n d.x.e] 67)∧AtV W w.heap.size [.string (Ident.mk d.name),.int .i64 d.x.kind,.int .u64 d.x.v.a,.int .u64 d.x.v.b,.int .u64 d.x.v.c,.slice d.x.A d.x.v.pre.length d.x.c,.slice d.x.B d.x.v.build.length d.x.d,.slice d.x.L d.x.n d.x.e]∧Below w.heap.size w W:=⟨_,rfl,AtV.new w _ _,(Below.refl _ _).alloc (Nat.le_refl _) _⟩
 have HAV:=Lib.hid hav
 have HB0:=Lib.hid hb0
 clear hav hb0
 obtain ⟨bd,hbd⟩:∃ bd,w.heap.size=bd:=⟨_,rfl⟩
 have HBD:=Lib.hid hbd
 unfold MDep.agg
 go_enter Tryz.func204,Tryz.ntmps204
 go_upto_region 1 with (fail)
 rw [← hW]
 clear hW
 rw [hbd] at HAV
 clear hbd
 have c0:=HAV.out.at_ 0 _ rfl
 go_wp2_with fail
 refine (Name.good_any (Ident.mk d.name) _ (by rw [mk_size]; exact HN.out)).mono ?_
 rw [mk_list]
 rintro e Wn ⟨rfl,hbn⟩
 have HBN:=Lib.hid (HB0.out.trans (hbn.mono HB0.out.size))
 have HAV1:=Lib.hid (HAV.out.kept hbn HAV.out.lt)
 clear hbn c0
 cases hnm:isName d.name
 ·have HF:=Lib.hid (HE1.out hnm)
  clear hnm
  go_wp2
  go_ret
  exact ⟨by rw [HF.out]; rfl,HBN.out⟩
 ·have HNM:=Lib.hid hnm
  clear hnm
  have c1:=HAV1.out.at_ 1 _ rfl
  have c2:=HAV1.out.at_ 2 _ rfl
  have c3:=HAV1.out.at_ 3 _ rfl
  have c4:=HAV1.out.at_ 4 _ rfl
  have c5:=HAV1.out.at_ 5 _ rfl
  have c6:=HAV1.out.at_ 6 _ rfl
  have c7:=HAV1.out.at_ 7 _ rfl
  go_wp2_with fail
  refine (Range.goodIs_any d.r d.x w.heap.size _ HO.out.len (HO.out.lies.keep (KeepS.of_below HBN.out)) HBN.out.size).mono ?_
  rintro e W1 ⟨rfl,hb⟩
  have HB1:=Lib.hid (HBN.out.trans (hb.mono HBN.out.size))
  clear hb c1 c2 c3 c4 c5 c6 c7
  cases hg:goodR d.r 0
  ·have HF:=Lib.hid (HE2.out HNM.out hg)
   clear hg
   go_wp2
   go_ret
   exact ⟨by rw [HF.out]; rfl,HB1.out⟩
  ·have HF:=Lib.hid (HE3.out HNM.out hg)
   clear hg
   go_wp2
   go_ret
   exact ⟨by rw [HF.out]; rfl,HB1.out⟩
theorem first_out {α:Type} [Inhabited α] (l:List α) (f:Nat→Int) (I J:Nat→World→Prop) {e:Ending} {w':World} (h:FirstPost l.length f I J e w') (g:Nat→α→Int) (hg:∀ k,k<l.length→g k (l.getD k default)=f k) :
  (e=.returned (out2V (firstG (fun k d=>toO (g k d)) 0 l)))∧((∃ k,k<l.length∧J k w'∧firstG (fun k d=>toO (g k d)) 0 l=some (k,f k))∨(I l.length w'∧firstG (fun k d=>toO (g k d)) 0 l=none)):=by
 rcases h with ⟨k,hk,ha,hf,he,hJ⟩ | ⟨ha,he,hI⟩
 ·have e1:firstG (fun k d=>toO (g k d)) 0 l=some (k,f k):=by
   have:=firstG_stop (fun k d=>toO (g k d)) l 0 k (f k) hk (fun j hj=>by
    show toO (g (0+j) (l.getD j default))=none
    rw [Nat.zero_add,hg j (by omega),ha j hj]; rfl) (by
    show toO (g (0+k) (l.getD k default))=some (f k)
    rw [Nat.zero_add,hg k hk]; exact toO_some hf)
   rwa [Nat.zero_add] at this
  exact ⟨by rw [he,e1]; rfl,.inl ⟨k,hk,hJ,e1⟩⟩
 ·have e1:firstG (fun k d=>toO (g k d)) 0 l=none:=firstG_none _ l 0 fun j hj=>by
   show toO (g (0+j) (l.getD j default))=none
   rw [Nat.zero_add,hg j hj,ha j hj]; rfl
  exact ⟨by rw [he,e1]; rfl,.inr ⟨hI,e1⟩⟩
theorem roots_any (A:Option Addr) (n c:Nat) (l:List MDep) (B:Nat) (w:World) (h:DRow w (LtB B) A n l) (hB:B≤w.heap.size) (hn:n≤maxLen) :
  Calls Tryz.prog 201 #[.slice A n c] w fun e w'=>e=.returned (out2V (rootsF (l.map MDep.p)))∧Below w.heap.size w w':=by
 have HP:Hid (∀ e w',FirstPost n (fun k=>depE (l.getD k default).p) (fun _ W=>Below w.heap.size w W) (fun _ W=>Below w.heap.size w W) e w'→e=.returned (out2V (rootsF (l.map MDep.p)))∧Below w.heap.size w w'):=fun e w' hp=>by
  obtain rfl:=h.row.1
  have hq:=first_out (l.map MDep.p) _ _ _ (by rw [List.length_map]; exact hp) (fun _ d=>depE d) (fun k hk=>by rw [List.length_map] at hk; rw [map_at MDep.p l hk])
  exact ⟨hq.1,by rcases hq.2 with ⟨k,_,hb,_⟩ | ⟨hb,_⟩ <;> exact hb⟩
 have hfst:Calls Tryz.prog 202 #[.slice A n c,.func (.func 204) #[] #[]] w _:=firstDep_any 204 #[] (enters_of Tryz.func204 (by kernel_rfl) rfl) A n c l (fun k=>depE (l.getD k default).p) (fun _ W=>Below w.heap.size w W) (fun _ W=>Below w.heap.size w W) (LtB B) w hn
  (fun k W _ hb=>h.keep (KeepS.of_below hb))
  (fun k W hk hb=>(depFault_any (l.getD k default) B W ((h.keep (KeepS.of_below hb)).ok _ (h.row.mem hk)) (Nat.le_trans hB hb.size)).mono fun e w' ⟨he,hb'⟩=>⟨he,fun _=>hb.trans (hb'.mono hb.size),fun _=>hb.trans (hb'.mono hb.size)⟩) (Below.refl _ _)
 clear h
 go_enter Tryz.func201,Tryz.ntmps201
 go_wp2_with fail
 refine hfst.mono ?_
 intro e w' hp
 obtain ⟨he,hb⟩:=HP.out e w' hp
 subst he
 clear hp
 have HB:=Lib.hid hb
 clear hb
 obtain ⟨r,hr⟩:∃ r,rootsF (l.map MDep.p)=r:=⟨_,rfl⟩
 have HR:=Lib.hid hr
 rw [hr]
 clear hr
 unfold out2V
 go_wp2
 go_ret2
 exact ⟨by rw [HR.out]; rfl,HB.out⟩
end Go.Proofs.YtgakcdcfblgagaaGreatDoor.Model
namespace Go.Proofs.YtgakcdcfblgagaaGreatDoor.Model
open Go.RowKit Num Ident Semver Fr
open Range (Rng noRng RV KeepS LtB LenOk goodR wt)
open KR (KRow AtV)
open Name (isName)

theorem below_set8 {w W:World} {b:Nat} (h:Below w.heap.size w W) (hb:w.heap.size≤b) (u0 u1 u2 u3 u4 u5 u6 u7:Value):Below w.heap.size w ((((((((W.setCell ⟨b,0,none⟩ (u0)).setCell ⟨b,1,none⟩ (u1)).setCell ⟨b,2,none⟩ (u2)).setCell ⟨b,3,none⟩ (u3)).setCell ⟨b,4,none⟩ (u4)).setCell ⟨b,5,none⟩ (u5)).setCell ⟨b,6,none⟩ (u6)).setCell ⟨b,7,none⟩ (u7)) :=
 (((((((h.setCell (p:=⟨b,0,none⟩) hb _).setCell (p:=⟨b,1,none⟩) hb _).setCell (p:=⟨b,2,none⟩) hb _).setCell (p:=⟨b,3,none⟩) hb _).setCell (p:=⟨b,4,none⟩) hb _).setCell (p:=⟨b,5,none⟩) hb _).setCell (p:=⟨b,6,none⟩) hb _).setCell (p:=⟨b,7,none⟩) hb _
def pubF (l:List MRel) (v:Ver):Option MRel:=l.find? fun r=>sameV r.ver.v v
structure PubAt (w:World) (vb:Nat) (v:MVer) (W:World):Prop where
 ver:AtV W vb [.int .u64 v.v.a,.int .u64 v.v.b,.int .u64 v.v.c,.slice v.A v.v.pre.length v.c,.slice v.B v.v.build.length v.d]
 res:AtV W (vb+1) [.int .u64 0,.int .u64 0,.int .u64 0,.slice none 0 0,.slice none 0 0,.bool false,.slice none 0 0,.slice none 0 0]
 hi:w.heap.size≤vb
 bel:Below w.heap.size w W
theorem PubAt.kept {w:World} {vb:Nat} {v:MVer} {W W':World} (h:PubAt w vb v W) (hb:Below W.heap.size W W'):PubAt w vb v W' :=
 ⟨h.ver.kept hb h.ver.lt,h.res.kept hb h.res.lt,h.hi,h.bel.trans (hb.mono h.bel.size)⟩
theorem pub_start (w:World) (v:MVer):∃ W,W=(w.alloc (v.v,v.A,v.c,v.B,v.d)).alloc (.cells #[.int .u64 0,.int .u64 0,.int .u64 0,.slice none 0 0,.slice none 0 0,.bool false,.slice none 0 0,.slice none 0 0] 46)∧PubAt w w.heap.size v W:=by
 refine ⟨_,rfl,(AtV.new w _ _).kept ((Below.refl _ _).alloc (Nat.le_refl _) _) (by simp),?_,Nat.le_refl _,((Below.refl _ _).alloc (Nat.le_refl _) _).alloc (by simp) _⟩
 have h:=AtV.new (w.alloc (v.v,v.A,v.c,v.B,v.d)) 46 [.int .u64 0,.int .u64 0,.int .u64 0,.slice none 0 0,.slice none 0 0,.bool false,.slice none 0 0,.slice none 0 0]
 rwa [size_alloc] at h
theorem published_any (A:Option Addr) (n c:Nat) (l:List MRel) (v:MVer) (B:Nat) (w:World) (h:RRow w (LtB B) A n l) (hn:n≤maxLen) (hv:VerOk w (LtB B) v) :
  Calls Tryz.prog 167 #[.slice A n c,v.agg] w fun e w'=>e=.returned (relV (pubF l v.v))∧Below w.heap.size w w':=by
 have HO:=Lib.hid h
 have HL:=Lib.hid h.row.1
 have HV:=Lib.hid hv
 unfold maxLen at hn
 clear h hv
 unfold MVer.agg
 obtain ⟨W0,hW,hc0⟩:=pub_start w v
 have HC0:=Lib.hid hc0
 clear hc0
 obtain ⟨vb,hvb⟩:∃ vb,w.heap.size=vb:=⟨_,rfl⟩
 go_enter Tryz.func167,Tryz.ntmps167
 go_upto_region 1 with (fail)
 rw [← hW]
 clear hW
 rw [hvb] at HC0
 clear hvb
 go_wp2
 go_loopw [10] (fun y W=>∃ k:Nat,k≤n∧y=.int .i64 k∧Hid (∀ j,j<k→sameV (l.getD j default).ver.v v.v=false)∧Hid (PubAt w vb v W)) (fun y _=>n - (intOf y).toNat)
 case atStart=>exact ⟨0,Nat.zero_le _,rfl,(fun j hj=>by omega),HC0.out⟩
 case round =>
  rename World=>wk
  obtain ⟨k,hk,rfl,HD,HC⟩:=hrel
  by_cases hlt:k<n
  ·have hrow:=HO.out.keep (KeepS.of_below (S:=LtB B) HC.out.bel)
   have HRO:Hid (RelOk wk (LtB B) (l.getD k default)):=hrow.ok _ (getD_mem (by rw [HL.out]; exact hlt))
   obtain ⟨b,o,rfl,_,hb,c0,c1,c2,c3,c4,c5,c6,c7⟩:=hrow.cells hlt
   have HYES:Hid (sameV (l.getD k default).ver.v v.v=true→pubF l v.v=some (l.getD k default)):=fun h=>find_first _ l k (by rw [HL.out]; exact hlt) HD.out h
   have HNO:Hid (sameV (l.getD k default).ver.v v.v=false→∀ j,j<k+1→sameV (l.getD j default).ver.v v.v=false):=fun h j hj=>by
    rcases Nat.lt_or_ge j k with h1 | h1
    ·exact HD.out j h1
    ·obtain rfl:j=k:=by omega
     exact h
   obtain ⟨r,hr⟩:∃ r,l.getD k default=r:=⟨_,rfl⟩
   rw [hr] at c0 c1 c2 c3 c4 c5 c6 c7 HRO HYES HNO
   clear hr hrow
   obtain ⟨W1,hW1,hav,hb1⟩:∃ W,W=wk.alloc (.cells #[r.ver.v.a,r.ver.v.b,r.ver.v.c,.slice r.ver.A r.ver.v.pre.length r.ver.c,.slice r.ver.B r.ver.v.build.length r.ver.d,.bool r.yanked,.slice r.N r.needs.length r.nc,.slice r.B r.bans.length r.bc] 46)∧AtV W wk.heap.size [.int .u64 r.ver.v.a,.int .u64 r.ver.v.b,.int .u64 r.ver.v.c,.slice r.ver.A r.ver.v.pre.length r.ver.c,.slice r.ver.B r.ver.v.build.length r.ver.d,.bool r.yanked,.slice r.N r.needs.length r.nc,.slice r.B r.bans.length r.bc]∧Below wk.heap.size wk W:=⟨_,rfl,AtV.new wk _ _,(Below.refl _ _).alloc (Nat.le_refl _) _⟩
   have HC1:=Lib.hid (HC.out.kept hb1)
   have HR1:=Lib.hid (HRO.out.keep (KeepS.of_below (S:=LtB B) hb1))
   have HAV:=Lib.hid hav
   clear hb1 hav
   obtain ⟨q,hq⟩:∃ q,wk.heap.size=q:=⟨_,rfl⟩
   go_upto_region 4 with (fail)
   rw [← hW1]
   rw [hq] at HAV
   clear hW1 hq c0 c1 c2 c3 c4 c5 c6 c7 hb
   have a0:=HAV.out.at_ 0 _ rfl
   have a1:=HAV.out.at_ 1 _ rfl
   have a2:=HAV.out.at_ 2 _ rfl
   have a3:=HAV.out.at_ 3 _ rfl
   have a4:=HAV.out.at_ 4 _ rfl
   have v0:=HC1.out.ver.at_ 0 _ rfl
   have v1:=HC1.out.ver.at_ 1 _ rfl
   have v2:=HC1.out.ver.at_ 2 _ rfl
   have v3:=HC1.out.ver.at_ 3 _ rfl
   have v4:=HC1.out.ver.at_ 4 _ rfl
   go_wp2_with fail
   refine (same_parts r.ver.A r.ver.v.pre.length r.ver.c r.ver.v.pre r.ver.B r.ver.v.build.length r.ver.d r.ver.v.build v.A v.v.pre.length v.c v.v.pre v.B v.v.build.length v.d v.v.build r.ver.v.a r.ver.v.b r.ver.v.c v.v.a v.v.b v.v.c _ HR1.out.ver.pre HR1.out.ver.build (HV.out.pre.kept HC1.out.bel) (HV.out.build.kept HC1.out.bel) HR1.out.ver.fit.pre HR1.out.ver.fit.build HV.out.fit.pre HV.out.fit.build).mono ?_
   rintro e W2 ⟨rfl,hb2⟩
   have HC2:=Lib.hid (HC1.out.kept hb2)
   have HAV2:=Lib.hid (HAV.out.kept hb2 HAV.out.lt)
   clear hb2 a0 a1 a2 a3 a4 v0 v1 v2 v3 v4
   have hsv:sameV ⟨r.ver.v.a,r.ver.v.b,r.ver.v.c,r.ver.v.pre,r.ver.v.build⟩ ⟨v.v.a,v.v.b,v.v.c,v.v.pre,v.v.build⟩=sameV r.ver.v v.v:=rfl
   rw [hsv]
   clear hsv
   obtain ⟨s,hs⟩:∃ s,sameV r.ver.v v.v=s:=⟨_,rfl⟩
   have HSV:=Lib.hid hs
   rw [hs]
   clear hs
   cases s
   ·have HN:=Lib.hid (HNO.out HSV.out)
    go_wp2
    exact ⟨⟨k+1,by omega,by go_num,HN.out,HC2.out⟩,by simp [intOf]; omega⟩
   ·have HY:=Lib.hid (HYES.out HSV.out)
    have a0:=HAV2.out.at_ 0 _ rfl
    have a1:=HAV2.out.at_ 1 _ rfl
    have a2:=HAV2.out.at_ 2 _ rfl
    have a3:=HAV2.out.at_ 3 _ rfl
    have a4:=HAV2.out.at_ 4 _ rfl
    have a5:=HAV2.out.at_ 5 _ rfl
    have a6:=HAV2.out.at_ 6 _ rfl
    have a7:=HAV2.out.at_ 7 _ rfl
    have r0:=HC2.out.res.at_ 0 _ rfl
    have r1:=HC2.out.res.at_ 1 _ rfl
    have r2:=HC2.out.res.at_ 2 _ rfl
    have r3:=HC2.out.res.at_ 3 _ rfl
    have r4:=HC2.out.res.at_ 4 _ rfl
    have r5:=HC2.out.res.at_ 5 _ rfl
    have r6:=HC2.out.res.at_ 6 _ rfl
    have r7:=HC2.out.res.at_ 7 _ rfl
    have hrl:vb+1<W2.heap.size:=HC2.out.res.lt
    have hrf:=HC2.out.res.fr
    go_wp2
    refine bodyPost_ret (v:=.tuple #[.agg #[r.ver.v.a,r.ver.v.b,r.ver.v.c,.slice r.ver.A r.ver.v.pre.length r.ver.c,.slice r.ver.B r.ver.v.build.length r.ver.d,.bool r.yanked,.slice r.N r.needs.length r.nc,.slice r.B r.bans.length r.bc],.bool true]) (by simp [results,Tryz.results167,go_sem,r0,r1,r2,r3,r4,r5,r6,r7]) rfl ⟨by rw [HY.out]; rfl,below_set8 HC2.out.bel (by have:=HC2.out.hi; omega) _ _ _ _ _ _ _ _⟩
  ·obtain rfl:k=n:=by omega
   have HF:Hid (pubF l v.v=none):=find_none _ fun j hj=>HD.out j (by rw [← HL.out]; exact hj)
   have r0:=HC.out.res.at_ 0 _ rfl
   have r1:=HC.out.res.at_ 1 _ rfl
   have r2:=HC.out.res.at_ 2 _ rfl
   have r3:=HC.out.res.at_ 3 _ rfl
   have r4:=HC.out.res.at_ 4 _ rfl
   have r5:=HC.out.res.at_ 5 _ rfl
   have r6:=HC.out.res.at_ 6 _ rfl
   have r7:=HC.out.res.at_ 7 _ rfl
   have hrl:vb+1<wk.heap.size:=HC.out.res.lt
   have hrf:=HC.out.res.fr
   go_wp2
   refine bodyPost_ret (v:=.tuple #[.agg #[.int .u64 0,.int .u64 0,.int .u64 0,.slice none 0 0,.slice none 0 0,.bool false,.slice none 0 0,.slice none 0 0],.bool false]) (by simp [results,Tryz.results167,go_sem,r0,r1,r2,r3,r4,r5,r6,r7]) rfl ⟨by rw [HF.out]; rfl,below_set8 HC.out.bel (by have:=HC.out.hi; omega) _ _ _ _ _ _ _ _⟩
structure FindAt (w:World) (ib:Nat) (A:Option Addr) (n c:Nat) (p:MPin) (W:World):Prop where
 ix:AtV W ib [.slice A n c]
 pin:AtV W (ib+1) [.string (Ident.mk p.name),.int .u64 p.ver.v.a,.int .u64 p.ver.v.b,.int .u64 p.ver.v.c,.slice p.ver.A p.ver.v.pre.length p.ver.c,.slice p.ver.B p.ver.v.build.length p.ver.d]
 res:AtV W (ib+1+1) [.int .u64 0,.int .u64 0,.int .u64 0,.slice none 0 0,.slice none 0 0,.bool false,.slice none 0 0,.slice none 0 0]
 hi:w.heap.size≤ib
 bel:Below w.heap.size w W
theorem FindAt.kept {w:World} {ib:Nat} {A:Option Addr} {n c:Nat} {p:MPin} {W W':World} (h:FindAt w ib A n c p W) (hb:Below W.heap.size W W'):FindAt w ib A n c p W' :=
 ⟨h.ix.kept hb h.ix.lt,h.pin.kept hb h.pin.lt,h.res.kept hb h.res.lt,h.hi,h.bel.trans (hb.mono h.bel.size)⟩
theorem find_start (w:World) (A:Option Addr) (n c:Nat) (p:MPin):∃ W,W=((w.alloc (.cells #[.slice A n c] 26)).alloc (.cells #[.string (Ident.mk p.name),p.ver.v.a,p.ver.v.b,p.ver.v.c,.slice p.ver.A p.ver.v.pre.length p.ver.c,.slice p.ver.B p.ver.v.build.length p.ver.d] 102)).alloc (.cells #[.int .u64 0,.int .u64 0,.int .u64 0,.slice none 0 0,.slice none 0 0,.bool false,.slice none 0 0,.slice none 0 0] 46)∧FindAt w w.heap.size A n c p W:=by
 obtain ⟨V1,hV1⟩:∃ V,V=w.alloc (.cells #[.slice A n c] 26):=⟨_,rfl⟩
 have a1:AtV V1 w.heap.size [.slice A n c]:=by rw [hV1]; exact AtV.new w _ _
 have z1:V1.heap.size=w.heap.size+1:=by rw [hV1]; simp
 have b1:Below w.heap.size w V1:=by rw [hV1]; exact (Below.refl _ _).alloc (Nat.le_refl _) _
 obtain ⟨V2,hV2⟩:∃ V,V=V1.alloc (.cells #[.string (Ident.mk p.name),p.ver.v.a,p.ver.v.b,p.ver.v.c,.slice p.ver.A p.ver.v.pre.length p.ver.c,.slice p.ver.B p.ver.v.build.length p.ver.d] 102):=⟨_,rfl⟩
 have k2:Below V1.heap.size V1 V2:=by rw [hV2]; exact (Below.refl _ _).alloc (Nat.le_refl _) _
 have a2:AtV V2 (w.heap.size+1) [.string (Ident.mk p.name),.int .u64 p.ver.v.a,.int .u64 p.ver.v.b,.int .u64 p.ver.v.c,.slice p.ver.A p.ver.v.pre.length p.ver.c,.slice p.ver.B p.ver.v.build.length p.ver.d]:=by rw [hV2,← z1]; exact AtV.new V1 _ _
 have z2:V2.heap.size=w.heap.size+1+1:=by rw [hV2]; simp [z1]
 obtain ⟨V3,hV3⟩:∃ V,V=V2.alloc (.cells #[.int .u64 0,.int .u64 0,.int .u64 0,.slice none 0 0,.slice none 0 0,.bool false,.slice none 0 0,.slice none 0 0] 46):=⟨_,rfl⟩
 have k3:Below V2.heap.size V2 V3:=by rw [hV3]; exact (Below.refl _ _).alloc (Nat.le_refl _) _
 have a3:AtV V3 (w.heap.size+1+1) [.int .u64 0,.int .u64 0,.int .u64 0,.slice none 0 0,.slice none 0 0,.bool false,.slice none 0 0,.slice none 0 0]:=by rw [hV3,← z2]; exact AtV.new V2 _ _
 exact ⟨V3,by rw [hV3,hV2,hV1],(a1.kept k2 (by omega)).kept k3 (by omega),a2.kept k3 (by omega),a3,Nat.le_refl _,b1.trans ((k2.trans (k3.mono (by omega))).mono (by omega))⟩
theorem find_any (A:Option Addr) (n c:Nat) (x:List MPack) (p:MPin) (B:Nat) (w:World) (h:PRow w (LtB B) A n x) (hn:n≤maxLen) (hp:PinOk w (LtB B) p) :
  Calls Tryz.prog 112 #[.agg #[.slice A n c],p.agg] w fun e w'=>e=.returned (relV (findRel x p.name p.ver.v))∧Below w.heap.size w w':=by
 have HO:=Lib.hid h
 have HL:=Lib.hid h.row.1
 have HP:=Lib.hid hp
 unfold maxLen at hn
 clear h hp
 unfold MPin.agg
 obtain ⟨W0,hW,hc0⟩:=find_start w A n c p
 have HC0:=Lib.hid hc0
 clear hc0
 obtain ⟨ib,hib⟩:∃ ib,w.heap.size=ib:=⟨_,rfl⟩
 go_enter Tryz.func112,Tryz.ntmps112
 go_upto_region 1 with (fail)
 rw [← hW]
 clear hW
 rw [hib] at HC0
 clear hib
 have i0:=HC0.out.ix.at_ 0 _ rfl
 go_wp2
 clear i0
 go_loopw [11] (fun y W=>∃ k:Nat,k≤n∧y=.int .i64 k∧Hid (∀ j,j<k→(x.getD j default).name≠p.name)∧Hid (FindAt w ib A n c p W)) (fun y _=>n - (intOf y).toNat)
 case atStart=>exact ⟨0,Nat.zero_le _,rfl,(fun j hj=>by omega),HC0.out⟩
 case round =>
  rename World=>wk
  obtain ⟨k,hk,rfl,HD,HC⟩:=hrel
  by_cases hlt:k<n
  ·have hrow:=HO.out.keep (KeepS.of_below (S:=LtB B) HC.out.bel)
   have HPK:Hid (PackOk wk (LtB B) (x.getD k default)):=hrow.ok _ (getD_mem (by rw [HL.out]; exact hlt))
   obtain ⟨b,o,rfl,_,hb,c0,c1⟩:=hrow.cells hlt
   have HYES:Hid ((x.getD k default).name=p.name→findRel x p.name p.ver.v=pubF (x.getD k default).rels p.ver.v):=fun e=>by
    unfold findRel
    rw [find_first (fun q:MPack=>q.name == p.name) x k (by rw [HL.out]; exact hlt) (fun j hj=>beq_eq_false_iff_ne.2 (HD.out j hj)) (by rw [beq_iff_eq]; exact e)]; rfl
   have HNO:Hid ((x.getD k default).name≠p.name→∀ j,j<k+1→(x.getD j default).name≠p.name):=fun h j hj=>by
    rcases Nat.lt_or_ge j k with h1 | h1
    ·exact HD.out j h1
    ·obtain rfl:j=k:=by omega
     exact h
   obtain ⟨r,hr⟩:∃ r,x.getD k default=r:=⟨_,rfl⟩
   rw [hr] at c0 c1 HPK HYES HNO
   clear hr hrow
   obtain ⟨W1,hW1,hav,hb1⟩:∃ W,W=wk.alloc (.cells #[.string (Ident.mk r.name),.slice r.R r.rels.length r.rc] 48)∧AtV W wk.heap.size [.string (Ident.mk r.name),.slice r.R r.rels.length r.rc]∧Below wk.heap.size wk W:=⟨_,rfl,AtV.new wk _ _,(Below.refl _ _).alloc (Nat.le_refl _) _⟩
   have HC1:=Lib.hid (HC.out.kept hb1)
   have HR1:=Lib.hid (HPK.out.keep (KeepS.of_below (S:=LtB B) hb1))
   have HAV:=Lib.hid hav
   clear hb1 hav
   obtain ⟨q,hq⟩:∃ q,wk.heap.size=q:=⟨_,rfl⟩
   go_upto_region 4 with (fail)
   rw [← hW1]
   rw [hq] at HAV
   clear hW1 hq c0 c1 hb
   have a0:=HAV.out.at_ 0 _ rfl
   have p0:=HC1.out.pin.at_ 0 _ rfl
   by_cases hnq:r.name=p.name
   ·have hbe:((Ident.mk r.name).toList == (Ident.mk p.name).toList)=true:=by rw [hnq]; exact mk_eq _
    have HY:=Lib.hid (HYES.out hnq)
    clear hnq
    have a1:=HAV.out.at_ 1 _ rfl
    have p1:=HC1.out.pin.at_ 1 _ rfl
    have p2:=HC1.out.pin.at_ 2 _ rfl
    have p3:=HC1.out.pin.at_ 3 _ rfl
    have p4:=HC1.out.pin.at_ 4 _ rfl
    have p5:=HC1.out.pin.at_ 5 _ rfl
    go_wp2_with fail
    refine (published_any r.R r.rels.length r.rc r.rels p.ver B _ HR1.out.rels (Nat.le_trans HR1.out.rc.1 HR1.out.rc.2) (HP.out.ver.keep (KeepS.of_below HC1.out.bel))).mono ?_
    rintro e W2 ⟨rfl,hb2⟩
    have HC2:=Lib.hid (HC1.out.kept hb2)
    clear hb2 a0 a1 p0 p1 p2 p3 p4 p5 hbe
    obtain ⟨m,hm⟩:∃ m,pubF r.rels p.ver.v=m:=⟨_,rfl⟩
    rw [hm] at HY ⊢
    clear hm
    have r0:=HC2.out.res.at_ 0 _ rfl
    have r1:=HC2.out.res.at_ 1 _ rfl
    have r2:=HC2.out.res.at_ 2 _ rfl
    have r3:=HC2.out.res.at_ 3 _ rfl
    have r4:=HC2.out.res.at_ 4 _ rfl
    have r5:=HC2.out.res.at_ 5 _ rfl
    have r6:=HC2.out.res.at_ 6 _ rfl
    have r7:=HC2.out.res.at_ 7 _ rfl
    have hrl:ib+1+1<W2.heap.size:=HC2.out.res.lt
    have hrf:=HC2.out.res.fr
    cases m with
    | none =>
     unfold relV
     go_wp2
     refine bodyPost_ret (v:=.tuple #[.agg #[.int .u64 0,.int .u64 0,.int .u64 0,.slice none 0 0,.slice none 0 0,.bool false,.slice none 0 0,.slice none 0 0],.bool false]) (by simp [results,Tryz.results112,go_sem,r0,r1,r2,r3,r4,r5,r6,r7]) rfl ⟨by rw [HY.out]; rfl,below_set8 HC2.out.bel (by have:=HC2.out.hi; omega) _ _ _ _ _ _ _ _⟩
    | some r =>
     unfold relV MRel.agg
     go_wp2
     refine bodyPost_ret (v:=.tuple #[.agg #[r.ver.v.a,r.ver.v.b,r.ver.v.c,.slice r.ver.A r.ver.v.pre.length r.ver.c,.slice r.ver.B r.ver.v.build.length r.ver.d,.bool r.yanked,.slice r.N r.needs.length r.nc,.slice r.B r.bans.length r.bc],.bool true]) (by simp [results,Tryz.results112,go_sem,r0,r1,r2,r3,r4,r5,r6,r7]) rfl ⟨by rw [HY.out]; rfl,below_set8 HC2.out.bel (by have:=HC2.out.hi; omega) _ _ _ _ _ _ _ _⟩
   ·have hbe:((Ident.mk r.name).toList == (Ident.mk p.name).toList)=false:=mk_ne hnq
    have HN:=Lib.hid (HNO.out hnq)
    clear hnq
    go_wp2
    exact ⟨⟨k+1,by omega,by go_num,HN.out,HC1.out⟩,by simp [intOf]; omega⟩
  ·obtain rfl:k=n:=by omega
   have HF:Hid (findRel x p.name p.ver.v=none):=by
    unfold findRel Hid
    rw [find_none (fun q:MPack=>q.name == p.name) fun j hj=>beq_eq_false_iff_ne.2 (HD.out j (by rw [← HL.out]; exact hj))]; rfl
   have r0:=HC.out.res.at_ 0 _ rfl
   have r1:=HC.out.res.at_ 1 _ rfl
   have r2:=HC.out.res.at_ 2 _ rfl
   have r3:=HC.out.res.at_ 3 _ rfl
   have r4:=HC.out.res.at_ 4 _ rfl
   have r5:=HC.out.res.at_ 5 _ rfl
   have r6:=HC.out.res.at_ 6 _ rfl
   have r7:=HC.out.res.at_ 7 _ rfl
   have hrl:ib+1+1<wk.heap.size:=HC.out.res.lt
   have hrf:=HC.out.res.fr
   go_wp2
   refine bodyPost_ret (v:=.tuple #[.agg #[.int .u64 0,.int .u64 0,.int .u64 0,.slice none 0 0,.slice none 0 0,.bool false,.slice none 0 0,.slice none 0 0],.bool false]) (by simp [results,Tryz.results112,go_sem,r0,r1,r2,r3,r4,r5,r6,r7]) rfl ⟨by rw [HF.out]; rfl,below_set8 HC.out.bel (by have:=HC.out.hi; omega) _ _ _ _ _ _ _ _⟩
end Go.Proofs.YtgakcdcfblgagaaGreatDoor.Model
