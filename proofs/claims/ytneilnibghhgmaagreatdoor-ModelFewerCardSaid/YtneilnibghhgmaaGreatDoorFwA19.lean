/-
  What the theorem of the last text needs of these: MoFirst, MoRefRel, MoRoots, MoClos. Conditions: as each theorem states.
-/
import Derived.Test.YtneilnibghhgmaaGreatDoorFwA1
import Derived.Test.YtneilnibghhgmaaGreatDoorFwA2
import Derived.Test.YtneilnibghhgmaaGreatDoorFwA3
import Derived.Test.YtneilnibghhgmaaGreatDoorFwA18
import Derived.Shelf.GgClosure.Gives
import Derived.Test.YtneilnibghhgmaaGreatDoorShelfHas2
import Derived.Shelf.SlicesQ.IndexFunc
set_option maxRecDepth 100000
set_option maxHeartbeats 25600000
namespace Go.Proofs.YtneilnibghhgmaaGreatDoor.Model
open Go.RowKit Num Ident Semver
open Range (Rng noRng RV KeepS LtB LenOk goodR wt)
open KR (KRow AtV)

def FirstPost (n:Nat) (f:Nat→Int) (I J:Nat→World→Prop) (e:Ending) (w':World):Prop :=
 (∃ k,k<n∧(∀ j,j<k→f j=0)∧f k≠0∧e=.returned (.tuple #[.int .i64 k,.int .i64 (f k)])∧J k w')∨((∀ j,j<n→f j=0)∧e=.returned (.tuple #[.int .i64 (-1),.int .i64 0])∧I n w')
def FirstJ0 (A:Option Addr) (n c g:Nat) (cb:Array Value) (f:Nat→Int) (I:Nat→World→Prop) (a':Act) (W:World):Prop :=
 ∃ (k:Nat) (u2 u3:Value) (u6 u7 u8 u9 u10 u11 u12 u13 u14 u15 u16 u17 u18 u19 u20 u21:Value),k≤n∧Hid (∀ j,j<k→f j=0)∧Hid (I k W)∧a'={ tmps:=#[.slice A n c,.func (.func g) #[] cb,u2,u3,.int .i64 k,.int .i64 0,u6,u7,u8,u9,u10,u11,u12,u13,u14,u15,u16,u17,u18,u19,u20,u21],defers:=[] }
def FirstJ1 (A:Option Addr) (n c g:Nat) (cb:Array Value) (f:Nat→Int) (I J:Nat→World→Prop) (a':Act) (W:World):Prop :=
 ∃ (p q:Int) (u2 u3:Value) (u6 u7 u8 u9 u10 u11 u12 u13 u14 u15 u16 u17 u18 u19 u20 u21:Value),Hid (FirstPost n f I J (.returned (.tuple #[.int .i64 p,.int .i64 q])) W)∧a'={ tmps:=#[.slice A n c,.func (.func g) #[] cb,u2,u3,.int .i64 p,.int .i64 q,u6,u7,u8,u9,u10,u11,u12,u13,u14,u15,u16,u17,u18,u19,u20,u21],defers:=[] }
def FirstM (n:Nat) (a':Act) (_:World):Nat:=n - (intOf (a'.tmps.getD 4 undef)).toNat
theorem firstDep_any (g:Nat) (cb:Array Value) (eg:∀ args w,(callFunc g args).run Tryz.prog w=.ok (.enter g args) w) (A:Option Addr) (n c:Nat) (l:List MDep) (f:Nat→Int) (I J:Nat→World→Prop) (S:Nat→Prop) (w:World) (hn:n≤maxLen)
  (hrow:∀ k W,k≤n→I k W→DRow W S A n l)
  (hcall:∀ k W,k<n→I k W→Calls Tryz.prog g (#[(l.getD k default).agg] ++ cb) W fun e w'=>e=.returned (.int .i64 (f k))∧(f k=0→I (k+1) w')∧(f k≠0→J k w')) (h0:I 0 w) :
  Calls Tryz.prog 36 #[.slice A n c,.func (.func g) #[] cb] w (FirstPost n f I J):=by
 unfold maxLen at hn
 have HR:=Lib.hid hrow
 have HC:=Lib.hid hcall
 have H0:=Lib.hid h0
 clear hrow hcall h0
 go_enter Tryz.func36,Tryz.ntmps36
 go_wp2
 refine wp_two 1 0 (FirstJ0 A n c g cb f I) (FirstJ1 A n c g cb f I J) (FirstM n) (fun _ _=>0) rfl rfl ?_ ?_ ?_
 ·rintro mm a' W ⟨p,q,u2,u3,u6,u7,u8,u9,u10,u11,u12,u13,u14,u15,u16,u17,u18,u19,u20,u21,HP,rfl⟩ hmm
  clear hmm
  go_wp2
  simp only [jumps]
  go_ret2
  exact HP.out
 ·rintro HP mm a' W ⟨k,u2,u3,u6,u7,u8,u9,u10,u11,u12,u13,u14,u15,u16,u17,u18,u19,u20,u21,hk,HA,HI,rfl⟩ hmm
  have hmm2:mm=n - k:=by rw [← hmm]; simp [FirstM,intOf]
  clear hmm
  by_cases hlt:k<n
  ·have hrw:=HR.out k W hk HI.out
   have hcl:=HC.out k W hlt HI.out
   obtain ⟨b,o,rfl,_,hb,c0,c1,c2,c3,c4,c5,c6,c7⟩:=hrw.cells hlt
   clear hrw
   generalize l.getD k default=d at c0 c1 c2 c3 c4 c5 c6 c7 hcl
   unfold MDep.agg at hcl
   obtain ⟨q,hq⟩:∃ q,f k=q:=⟨_,rfl⟩
   rw [hq] at hcl
   have HQ:=Lib.hid hq
   clear hq
   by_cases h0:q=0
   ·have HZ:=Lib.hid (HQ.out.trans h0)
    subst h0
    clear HQ
    go_wp2_with (go_at_fn g; refine hcl.mono ?_; rintro e w' ⟨rfl,hq1,hq2⟩)
    have HI2:Hid (I (k+1) w'):=hq1 (by trivial)
    clear hq1 hq2 c0 c1 c2 c3 c4 c5 c6 c7
    go_step3
    exact .inl ⟨rfl,⟨k+1,u2,u3,_,_,_,_,_,_,_,_,_,_,_,_,_,_,_,_,by omega,(fun j hj=>by
     rcases Nat.lt_or_ge j k with h | h
     ·exact HA.out j h
     ·obtain rfl:j=k:=by omega
      exact HZ.out),HI2,rfl⟩,by (try rw [hmm2]); simp [FirstM,intOf]; omega⟩
   ·have hne:(q == 0)=false:=by simpa using h0
    go_wp2_with (go_at_fn g; refine hcl.mono ?_; rintro e w' ⟨rfl,hq1,hq2⟩)
    have HJ:Hid (J k w'):=hq2 h0
    clear hq1 hq2 c0 c1 c2 c3 c4 c5 c6 c7
    go_step3
    exact .inr ⟨rfl,⟨k,q,u2,u3,_,_,_,_,_,_,_,_,_,_,_,_,_,_,_,_,.inl ⟨k,hlt,HA.out,(by rw [HQ.out]; exact h0),by rw [HQ.out],HJ.out⟩,rfl⟩,by (show 0<mm); omega⟩
  ·obtain rfl:k=n:=by omega
   go_wp2
   go_step3
   rename_i hK
   exact hK _ _ (HP.out _ _ _ ⟨-1,0,u2,u3,_,_,_,_,_,_,_,_,_,_,_,_,_,_,_,_,.inr ⟨HA.out,rfl,HI.out⟩,rfl⟩ (Nat.zero_le _))
 ·intro HP
  go_wp2
  go_step3
  rename_i hK
  exact hK _ _ (HP.out _ _ ⟨0,_,_,_,_,_,_,_,_,_,_,_,_,_,_,_,_,_,_,Nat.zero_le _,(fun j hj=>absurd hj (Nat.not_lt_zero _)),H0.out,rfl⟩)
theorem firstPin_any (g:Nat) (cb:Array Value) (eg:∀ args w,(callFunc g args).run Tryz.prog w=.ok (.enter g args) w) (A:Option Addr) (n c:Nat) (l:List MPin) (f:Nat→Int) (I J:Nat→World→Prop) (S:Nat→Prop) (w:World) (hn:n≤maxLen)
  (hrow:∀ k W,k≤n→I k W→SPRow W S A n l)
  (hcall:∀ k W,k<n→I k W→Calls Tryz.prog g (#[(l.getD k default).agg] ++ cb) W fun e w'=>e=.returned (.int .i64 (f k))∧(f k=0→I (k+1) w')∧(f k≠0→J k w')) (h0:I 0 w) :
  Calls Tryz.prog 38 #[.slice A n c,.func (.func g) #[] cb] w (FirstPost n f I J):=by
 unfold maxLen at hn
 have HR:=Lib.hid hrow
 have HC:=Lib.hid hcall
 have H0:=Lib.hid h0
 clear hrow hcall h0
 go_enter Tryz.func38,Tryz.ntmps38
 go_wp2
 refine wp_two 1 0 (FirstJ0 A n c g cb f I) (FirstJ1 A n c g cb f I J) (FirstM n) (fun _ _=>0) rfl rfl ?_ ?_ ?_
 ·rintro mm a' W ⟨p,q,u2,u3,u6,u7,u8,u9,u10,u11,u12,u13,u14,u15,u16,u17,u18,u19,u20,u21,HP,rfl⟩ hmm
  clear hmm
  go_wp2
  simp only [jumps]
  go_ret2
  exact HP.out
 ·rintro HP mm a' W ⟨k,u2,u3,u6,u7,u8,u9,u10,u11,u12,u13,u14,u15,u16,u17,u18,u19,u20,u21,hk,HA,HI,rfl⟩ hmm
  have hmm2:mm=n - k:=by rw [← hmm]; simp [FirstM,intOf]
  clear hmm
  by_cases hlt:k<n
  ·have hrw:=HR.out k W hk HI.out
   have hcl:=HC.out k W hlt HI.out
   obtain ⟨b,o,rfl,_,hb,c0,c1,c2,c3,c4,c5⟩:=hrw.cells hlt
   clear hrw
   generalize l.getD k default=d at c0 c1 c2 c3 c4 c5 hcl
   unfold MPin.agg at hcl
   obtain ⟨q,hq⟩:∃ q,f k=q:=⟨_,rfl⟩
   rw [hq] at hcl
   have HQ:=Lib.hid hq
   clear hq
   by_cases h0:q=0
   ·have HZ:=Lib.hid (HQ.out.trans h0)
    subst h0
    clear HQ
    go_wp2_with (go_at_fn g; refine hcl.mono ?_; rintro e w' ⟨rfl,hq1,hq2⟩)
    have HI2:Hid (I (k+1) w'):=hq1 (by trivial)
    clear hq1 hq2 c0 c1 c2 c3 c4 c5
    go_step3
    exact .inl ⟨rfl,⟨k+1,u2,u3,_,_,_,_,_,_,_,_,_,_,_,_,_,_,_,_,by omega,(fun j hj=>by
     rcases Nat.lt_or_ge j k with h | h
     ·exact HA.out j h
     ·obtain rfl:j=k:=by omega
      exact HZ.out),HI2,rfl⟩,by (try rw [hmm2]); simp [FirstM,intOf]; omega⟩
   ·have hne:(q == 0)=false:=by simpa using h0
    go_wp2_with (go_at_fn g; refine hcl.mono ?_; rintro e w' ⟨rfl,hq1,hq2⟩)
    have HJ:Hid (J k w'):=hq2 h0
    clear hq1 hq2 c0 c1 c2 c3 c4 c5
    go_step3
    exact .inr ⟨rfl,⟨k,q,u2,u3,_,_,_,_,_,_,_,_,_,_,_,_,_,_,_,_,.inl ⟨k,hlt,HA.out,(by rw [HQ.out]; exact h0),by rw [HQ.out],HJ.out⟩,rfl⟩,by (show 0<mm); omega⟩
  ·obtain rfl:k=n:=by omega
   go_wp2
   go_step3
   rename_i hK
   exact hK _ _ (HP.out _ _ _ ⟨-1,0,u2,u3,_,_,_,_,_,_,_,_,_,_,_,_,_,_,_,_,.inr ⟨HA.out,rfl,HI.out⟩,rfl⟩ (Nat.zero_le _))
 ·intro HP
  go_wp2
  go_step3
  rename_i hK
  exact hK _ _ (HP.out _ _ ⟨0,_,_,_,_,_,_,_,_,_,_,_,_,_,_,_,_,_,_,Nat.zero_le _,(fun j hj=>absurd hj (Nat.not_lt_zero _)),H0.out,rfl⟩)
theorem firstPack_any (g:Nat) (cb:Array Value) (eg:∀ args w,(callFunc g args).run Tryz.prog w=.ok (.enter g args) w) (A:Option Addr) (n c:Nat) (l:List MPack) (f:Nat→Int) (I J:Nat→World→Prop) (S:Nat→Prop) (w:World) (hn:n≤maxLen)
  (hrow:∀ k W,k≤n→I k W→PRow W S A n l)
  (hcall:∀ k W,k<n→I k W→Calls Tryz.prog g (#[(l.getD k default).agg] ++ cb) W fun e w'=>e=.returned (.int .i64 (f k))∧(f k=0→I (k+1) w')∧(f k≠0→J k w')) (h0:I 0 w) :
  Calls Tryz.prog 25 #[.slice A n c,.func (.func g) #[] cb] w (FirstPost n f I J):=by
 unfold maxLen at hn
 have HR:=Lib.hid hrow
 have HC:=Lib.hid hcall
 have H0:=Lib.hid h0
 clear hrow hcall h0
 go_enter Tryz.func25,Tryz.ntmps25
 go_wp2
 refine wp_two 1 0 (FirstJ0 A n c g cb f I) (FirstJ1 A n c g cb f I J) (FirstM n) (fun _ _=>0) rfl rfl ?_ ?_ ?_
 ·rintro mm a' W ⟨p,q,u2,u3,u6,u7,u8,u9,u10,u11,u12,u13,u14,u15,u16,u17,u18,u19,u20,u21,HP,rfl⟩ hmm
  clear hmm
  go_wp2
  simp only [jumps]
  go_ret2
  exact HP.out
 ·rintro HP mm a' W ⟨k,u2,u3,u6,u7,u8,u9,u10,u11,u12,u13,u14,u15,u16,u17,u18,u19,u20,u21,hk,HA,HI,rfl⟩ hmm
  have hmm2:mm=n - k:=by rw [← hmm]; simp [FirstM,intOf]
  clear hmm
  by_cases hlt:k<n
  ·have hrw:=HR.out k W hk HI.out
   have hcl:=HC.out k W hlt HI.out
   obtain ⟨b,o,rfl,_,hb,c0,c1⟩:=hrw.cells hlt
   clear hrw
   generalize l.getD k default=d at c0 c1 hcl
   unfold MPack.agg at hcl
   obtain ⟨q,hq⟩:∃ q,f k=q:=⟨_,rfl⟩
   rw [hq] at hcl
   have HQ:=Lib.hid hq
   clear hq
   by_cases h0:q=0
   ·have HZ:=Lib.hid (HQ.out.trans h0)
    subst h0
    clear HQ
    go_wp2_with (go_at_fn g; refine hcl.mono ?_; rintro e w' ⟨rfl,hq1,hq2⟩)
    have HI2:Hid (I (k+1) w'):=hq1 (by trivial)
    clear hq1 hq2 c0 c1
    go_step3
    exact .inl ⟨rfl,⟨k+1,u2,u3,_,_,_,_,_,_,_,_,_,_,_,_,_,_,_,_,by omega,(fun j hj=>by
     rcases Nat.lt_or_ge j k with h | h
     ·exact HA.out j h
     ·obtain rfl:j=k:=by omega
      exact HZ.out),HI2,rfl⟩,by (try rw [hmm2]); simp [FirstM,intOf]; omega⟩
   ·have hne:(q == 0)=false:=by simpa using h0
    go_wp2_with (go_at_fn g; refine hcl.mono ?_; rintro e w' ⟨rfl,hq1,hq2⟩)
    have HJ:Hid (J k w'):=hq2 h0
    clear hq1 hq2 c0 c1
    go_step3
    exact .inr ⟨rfl,⟨k,q,u2,u3,_,_,_,_,_,_,_,_,_,_,_,_,_,_,_,_,.inl ⟨k,hlt,HA.out,(by rw [HQ.out]; exact h0),by rw [HQ.out],HJ.out⟩,rfl⟩,by (show 0<mm); omega⟩
  ·obtain rfl:k=n:=by omega
   go_wp2
   go_step3
   rename_i hK
   exact hK _ _ (HP.out _ _ _ ⟨-1,0,u2,u3,_,_,_,_,_,_,_,_,_,_,_,_,_,_,_,_,.inr ⟨HA.out,rfl,HI.out⟩,rfl⟩ (Nat.zero_le _))
 ·intro HP
  go_wp2
  go_step3
  rename_i hK
  exact hK _ _ (HP.out _ _ ⟨0,_,_,_,_,_,_,_,_,_,_,_,_,_,_,_,_,_,_,Nat.zero_le _,(fun j hj=>absurd hj (Nat.not_lt_zero _)),H0.out,rfl⟩)
theorem firstRelease_any (g:Nat) (cb:Array Value) (eg:∀ args w,(callFunc g args).run Tryz.prog w=.ok (.enter g args) w) (A:Option Addr) (n c:Nat) (l:List MRel) (f:Nat→Int) (I J:Nat→World→Prop) (S:Nat→Prop) (w:World) (hn:n≤maxLen)
  (hrow:∀ k W,k≤n→I k W→RRow W S A n l)
  (hcall:∀ k W,k<n→I k W→Calls Tryz.prog g (#[(l.getD k default).agg] ++ cb) W fun e w'=>e=.returned (.int .i64 (f k))∧(f k=0→I (k+1) w')∧(f k≠0→J k w')) (h0:I 0 w) :
  Calls Tryz.prog 66 #[.slice A n c,.func (.func g) #[] cb] w (FirstPost n f I J):=by
 unfold maxLen at hn
 have HR:=Lib.hid hrow
 have HC:=Lib.hid hcall
 have H0:=Lib.hid h0
 clear hrow hcall h0
 go_enter Tryz.func66,Tryz.ntmps66
 go_wp2
 refine wp_two 1 0 (FirstJ0 A n c g cb f I) (FirstJ1 A n c g cb f I J) (FirstM n) (fun _ _=>0) rfl rfl ?_ ?_ ?_
 ·rintro mm a' W ⟨p,q,u2,u3,u6,u7,u8,u9,u10,u11,u12,u13,u14,u15,u16,u17,u18,u19,u20,u21,HP,rfl⟩ hmm
  clear hmm
  go_wp2
  simp only [jumps]
  go_ret2
  exact HP.out
 ·rintro HP mm a' W ⟨k,u2,u3,u6,u7,u8,u9,u10,u11,u12,u13,u14,u15,u16,u17,u18,u19,u20,u21,hk,HA,HI,rfl⟩ hmm
  have hmm2:mm=n - k:=by rw [← hmm]; simp [FirstM,intOf]
  clear hmm
  by_cases hlt:k<n
  ·have hrw:=HR.out k W hk HI.out
   have hcl:=HC.out k W hlt HI.out
   obtain ⟨b,o,rfl,_,hb,c0,c1,c2,c3,c4,c5,c6,c7⟩:=hrw.cells hlt
   clear hrw
   generalize l.getD k default=d at c0 c1 c2 c3 c4 c5 c6 c7 hcl
   unfold MRel.agg at hcl
   obtain ⟨q,hq⟩:∃ q,f k=q:=⟨_,rfl⟩
   rw [hq] at hcl
   have HQ:=Lib.hid hq
   clear hq
   by_cases h0:q=0
   ·have HZ:=Lib.hid (HQ.out.trans h0)
    subst h0
    clear HQ
    go_wp2_with (go_at_fn g; refine hcl.mono ?_; rintro e w' ⟨rfl,hq1,hq2⟩)
    have HI2:Hid (I (k+1) w'):=hq1 (by trivial)
    clear hq1 hq2 c0 c1 c2 c3 c4 c5 c6 c7
    go_step3
    exact .inl ⟨rfl,⟨k+1,u2,u3,_,_,_,_,_,_,_,_,_,_,_,_,_,_,_,_,by omega,(fun j hj=>by
     rcases Nat.lt_or_ge j k with h | h
     ·exact HA.out j h
     ·obtain rfl:j=k:=by omega
      exact HZ.out),HI2,rfl⟩,by (try rw [hmm2]); simp [FirstM,intOf]; omega⟩
   ·have hne:(q == 0)=false:=by simpa using h0
    go_wp2_with (go_at_fn g; refine hcl.mono ?_; rintro e w' ⟨rfl,hq1,hq2⟩)
    have HJ:Hid (J k w'):=hq2 h0
    clear hq1 hq2 c0 c1 c2 c3 c4 c5 c6 c7
    go_step3
    exact .inr ⟨rfl,⟨k,q,u2,u3,_,_,_,_,_,_,_,_,_,_,_,_,_,_,_,_,.inl ⟨k,hlt,HA.out,(by rw [HQ.out]; exact h0),by rw [HQ.out],HJ.out⟩,rfl⟩,by (show 0<mm); omega⟩
  ·obtain rfl:k=n:=by omega
   go_wp2
   go_step3
   rename_i hK
   exact hK _ _ (HP.out _ _ _ ⟨-1,0,u2,u3,_,_,_,_,_,_,_,_,_,_,_,_,_,_,_,_,.inr ⟨HA.out,rfl,HI.out⟩,rfl⟩ (Nat.zero_le _))
 ·intro HP
  go_wp2
  go_step3
  rename_i hK
  exact hK _ _ (HP.out _ _ ⟨0,_,_,_,_,_,_,_,_,_,_,_,_,_,_,_,_,_,_,Nat.zero_le _,(fun j hj=>absurd hj (Nat.not_lt_zero _)),H0.out,rfl⟩)
end Go.Proofs.YtneilnibghhgmaaGreatDoor.Model
namespace Go.Proofs.YtneilnibghhgmaaGreatDoor.Model
open Go.RowKit Num Ident Semver
open Range (Rng noRng RV KeepS LtB LenOk goodR wt)
open KR (KRow AtV)

def findRel (x:List MPack) (name:List UInt8) (v:Ver):Option MRel:=(x.find? fun p=>p.name == name).bind fun p=>p.rels.find? fun r=>sameV r.ver.v v
theorem findRel_p (x:List MPack) (name:List UInt8) (v:Ver):releaseO (x.map MPack.p) name v=(findRel x name v).map MRel.p:=by
 unfold releaseO findRel
 rw [List.find?_map]
 show (Option.map MPack.p (x.find? fun p=>p.name == name)).bind _=_
 cases x.find? fun p=>p.name == name with
 | none=>rfl
 | some p =>
  show (p.rels.map MRel.p).find? _=Option.map MRel.p (p.rels.find? _)
  rw [List.find?_map]; rfl
def relV:Option MRel→Value
 | none=>.tuple #[.agg #[.int .u64 0,.int .u64 0,.int .u64 0,.slice none 0 0,.slice none 0 0,.bool false,.slice none 0 0,.slice none 0 0],.bool false]
 | some r=>.tuple #[r.agg,.bool true]
theorem find_first {α:Type} [Inhabited α] (f:α→Bool):∀ (l:List α) (k:Nat),k<l.length→(∀ j,j<k→f (l.getD j default)=false)→f (l.getD k default)=true→l.find? f=some (l.getD k default)
 | [],_,h,_,_=>by simp at h
 | a :: l,0,_,_,h=>by
  have h:f a=true:=h
  rw [List.find?_cons,h]; rfl
 | a :: l,k+1,h,ha,hb=>by
  have h0:f a=false:=ha 0 (Nat.succ_pos _)
  rw [List.find?_cons,h0]
  exact find_first f l k (by simpa using h) (fun j hj=>ha (j+1) (Nat.succ_lt_succ hj)) hb
theorem find_none {α:Type} [Inhabited α] (f:α→Bool) {l:List α} (h:∀ j,j<l.length→f (l.getD j default)=false):l.find? f=none:=by
 rw [List.find?_eq_none]
 intro x hx
 obtain ⟨j,hj,rfl⟩:=List.getElem_of_mem hx
 have:=h j hj
 rw [List.getD_eq_getElem?_getD,List.getElem?_eq_getElem hj] at this
 rw [Bool.not_eq_true]; exact this
structure RelAt (w:World) (ib vb rb:Nat) (A:Option Addr) (n c:Nat) (v:MVer) (W:World):Prop where
 ix:AtV W ib [.slice A n c]
 ver:AtV W vb [.int .u64 v.v.a,.int .u64 v.v.b,.int .u64 v.v.c,.slice v.A v.v.pre.length v.c,.slice v.B v.v.build.length v.d]
 res:AtV W rb [.int .u64 0,.int .u64 0,.int .u64 0,.slice none 0 0,.slice none 0 0,.bool false,.slice none 0 0,.slice none 0 0]
 hi:w.heap.size≤rb
 bel:Below w.heap.size w W
end Go.Proofs.YtneilnibghhgmaaGreatDoor.Model
namespace Go.Proofs.YtneilnibghhgmaaGreatDoor.Model
open Go.RowKit Num Ident Semver
open Range (Rng noRng RV KeepS LtB LenOk goodR wt)
open KR (KRow AtV)
open Name (isName)

theorem depFault_any (d:MDep) (B:Nat) (w:World) (h:DepOk w (LtB B) d) (hB:B≤w.heap.size)  :
  Calls Tryz.prog 37 #[d.agg] w fun e w'=>e=.returned (.int .i64 (depE d.p))∧Below w.heap.size w w':=by
 have HO:Hid (DepOk w (LtB w.heap.size) d):=h.mono fun _ g _=>Nat.lt_of_lt_of_le g hB
 have HN:Hid (d.name.length≤maxLen):=h.short
 clear h hB
 have HE1:=Lib.hid (fun h=>depE_name (d:=d.p) h)
 have HE2:=Lib.hid (fun h g=>depE_range (d:=d.p) h g)
 have HE3:=Lib.hid (fun h g=>depE_good (d:=d.p) h g)
 obtain ⟨W0,hW,hav,hb0⟩:∃ W,W=w.alloc (.cells #[.string (Ident.mk d.name),d.x.kind,d.x.v.a,d.x.v.b,d.x.v.c,.slice d.x.A d.x.v.pre.length d.x.c,.slice d.x.B d.x.v.build.length d.x.d,.slice d.x.L d.x.n d.x.e] 61)∧AtV W w.heap.size [.string (Ident.mk d.name),.int .i64 d.x.kind,.int .u64 d.x.v.a,.int .u64 d.x.v.b,.int .u64 d.x.v.c,.slice d.x.A d.x.v.pre.length d.x.c,.slice d.x.B d.x.v.build.length d.x.d,.slice d.x.L d.x.n d.x.e]∧Below w.heap.size w W:=⟨_,rfl,AtV.new w _ _,(Below.refl _ _).alloc (Nat.le_refl _) _⟩
 have HAV:=Lib.hid hav
 have HB0:=Lib.hid hb0
 clear hav hb0
 obtain ⟨bd,hbd⟩:∃ bd,w.heap.size=bd:=⟨_,rfl⟩
 have HBD:=Lib.hid hbd
 unfold MDep.agg
 go_enter Tryz.func37,Tryz.ntmps37
 go_upto_region 1 with (fail)
 rw [← hW]
 clear hW
 rw [hbd] at HAV
 clear hbd
 have c0:=HAV.out.at_ 0 _ rfl
 go_wp2_with fail
 refine (Name.good_any (Ident.mk d.name) _ (by rw [mk_size]; exact HN.out)).mono ?_
 rw [mk_list]
 rintro e Wn ⟨rfl,hbn⟩
 have HBN:=Lib.hid (HB0.out.trans (hbn.mono HB0.out.size))
 have HAV1:=Lib.hid (HAV.out.kept hbn HAV.out.lt)
 clear hbn c0
 cases hnm:isName d.name
 ·have HF:=Lib.hid (HE1.out hnm)
  clear hnm
  go_wp2
  go_ret
  exact ⟨by rw [HF.out]; rfl,HBN.out⟩
 ·have HNM:=Lib.hid hnm
  clear hnm
  have c1:=HAV1.out.at_ 1 _ rfl
  have c2:=HAV1.out.at_ 2 _ rfl
  have c3:=HAV1.out.at_ 3 _ rfl
  have c4:=HAV1.out.at_ 4 _ rfl
  have c5:=HAV1.out.at_ 5 _ rfl
  have c6:=HAV1.out.at_ 6 _ rfl
  have c7:=HAV1.out.at_ 7 _ rfl
  go_wp2_with fail
  refine (Range.goodIs_any d.r d.x w.heap.size _ HO.out.len (HO.out.lies.keep (KeepS.of_below HBN.out)) HBN.out.size).mono ?_
  rintro e W1 ⟨rfl,hb⟩
  have HB1:=Lib.hid (HBN.out.trans (hb.mono HBN.out.size))
  clear hb c1 c2 c3 c4 c5 c6 c7
  cases hg:goodR d.r 0
  ·have HF:=Lib.hid (HE2.out HNM.out hg)
   clear hg
   go_wp2
   go_ret
   exact ⟨by rw [HF.out]; rfl,HB1.out⟩
  ·have HF:=Lib.hid (HE3.out HNM.out hg)
   clear hg
   go_wp2
   go_ret
   exact ⟨by rw [HF.out]; rfl,HB1.out⟩
theorem first_out {α:Type} [Inhabited α] (l:List α) (f:Nat→Int) (I J:Nat→World→Prop) {e:Ending} {w':World} (h:FirstPost l.length f I J e w') (g:Nat→α→Int) (hg:∀ k,k<l.length→g k (l.getD k default)=f k) :
  (e=.returned (out2V (firstG (fun k d=>toO (g k d)) 0 l)))∧((∃ k,k<l.length∧J k w'∧firstG (fun k d=>toO (g k d)) 0 l=some (k,f k))∨(I l.length w'∧firstG (fun k d=>toO (g k d)) 0 l=none)):=by
 rcases h with ⟨k,hk,ha,hf,he,hJ⟩ | ⟨ha,he,hI⟩
 ·have e1:firstG (fun k d=>toO (g k d)) 0 l=some (k,f k):=by
   have:=firstG_stop (fun k d=>toO (g k d)) l 0 k (f k) hk (fun j hj=>by
    show toO (g (0+j) (l.getD j default))=none
    rw [Nat.zero_add,hg j (by omega),ha j hj]; rfl) (by
    show toO (g (0+k) (l.getD k default))=some (f k)
    rw [Nat.zero_add,hg k hk]; exact toO_some hf)
   rwa [Nat.zero_add] at this
  exact ⟨by rw [he,e1]; rfl,.inl ⟨k,hk,hJ,e1⟩⟩
 ·have e1:firstG (fun k d=>toO (g k d)) 0 l=none:=firstG_none _ l 0 fun j hj=>by
   show toO (g (0+j) (l.getD j default))=none
   rw [Nat.zero_add,hg j hj,ha j hj]; rfl
  exact ⟨by rw [he,e1]; rfl,.inr ⟨hI,e1⟩⟩
theorem roots_any (A:Option Addr) (n c:Nat) (l:List MDep) (B:Nat) (w:World) (h:DRow w (LtB B) A n l) (hB:B≤w.heap.size) (hn:n≤maxLen) :
  Calls Tryz.prog 11 #[.slice A n c] w fun e w'=>e=.returned (out2V (rootsF (l.map MDep.p)))∧Below w.heap.size w w':=by
 have HP:Hid (∀ e w',FirstPost n (fun k=>depE (l.getD k default).p) (fun _ W=>Below w.heap.size w W) (fun _ W=>Below w.heap.size w W) e w'→e=.returned (out2V (rootsF (l.map MDep.p)))∧Below w.heap.size w w'):=fun e w' hp=>by
  obtain rfl:=h.row.1
  have hq:=first_out (l.map MDep.p) _ _ _ (by rw [List.length_map]; exact hp) (fun _ d=>depE d) (fun k hk=>by rw [List.length_map] at hk; rw [map_at MDep.p l hk])
  exact ⟨hq.1,by rcases hq.2 with ⟨k,_,hb,_⟩ | ⟨hb,_⟩ <;> exact hb⟩
 have hfst:Calls Tryz.prog 36 #[.slice A n c,.func (.func 37) #[] #[]] w _:=firstDep_any 37 #[] (enters_of Tryz.func37 (by kernel_rfl) rfl) A n c l (fun k=>depE (l.getD k default).p) (fun _ W=>Below w.heap.size w W) (fun _ W=>Below w.heap.size w W) (LtB B) w hn
  (fun k W _ hb=>h.keep (KeepS.of_below hb))
  (fun k W hk hb=>(depFault_any (l.getD k default) B W ((h.keep (KeepS.of_below hb)).ok _ (h.row.mem hk)) (Nat.le_trans hB hb.size)).mono fun e w' ⟨he,hb'⟩=>⟨he,fun _=>hb.trans (hb'.mono hb.size),fun _=>hb.trans (hb'.mono hb.size)⟩) (Below.refl _ _)
 clear h
 go_enter Tryz.func11,Tryz.ntmps11
 go_wp2_with fail
 refine hfst.mono ?_
 intro e w' hp
 obtain ⟨he,hb⟩:=HP.out e w' hp
 subst he
 clear hp
 have HB:=Lib.hid hb
 clear hb
 obtain ⟨r,hr⟩:∃ r,rootsF (l.map MDep.p)=r:=⟨_,rfl⟩
 have HR:=Lib.hid hr
 rw [hr]
 clear hr
 unfold out2V
 go_wp2
 go_ret2
 exact ⟨by rw [HR.out]; rfl,HB.out⟩
end Go.Proofs.YtneilnibghhgmaaGreatDoor.Model
namespace Go.Proofs.YtneilnibghhgmaaGreatDoor.Model
open Go.RowKit Num Ident Semver Fr
open Range (Rng noRng RV KeepS LtB LenOk goodR wt)
open KR (KRow AtV)
open Name (isName)

structure Elem {α:Type} (l:List α) where
 x:α
 h:x ∈ l
theorem elems_of {α:Type} (l:List α):∃ zs:List (Elem l),zs.length=l.length∧(∀ j (h:j<zs.length),l[j]?=some zs[j].x)∧∀ p:α→Bool,(zs.any fun z=>p z.x)=l.any p:=by
 obtain ⟨zs,hz⟩:∃ zs:List (Elem l),zs.map Elem.x=l:=⟨l.pmap (fun x h=>(⟨x,h⟩:Elem l)) fun _ h=>h,by simp [List.map_pmap]⟩
 refine ⟨zs,by simpa using congrArg List.length hz,fun j h=>?_,fun p=>?_⟩
 ·have:=congrArg (fun q=>q[j]?) hz
  simp only [List.getElem?_map,List.getElem?_eq_getElem h,Option.map_some] at this
  exact this.symm
 ·have:=congrArg (fun q=>q.any p) hz
  simp only [List.any_map] at this
  exact this
theorem indexDep_none (P:Option Addr) (c:Nat) (f:Value) (w:World):Calls Tryz.prog 90 #[.slice P 0 c,f] w fun e w'=>e=.returned (.int .i64 (-1))∧w=w':=by
 go_enter Tryz.func90,Tryz.ntmps90
 go_wp2
 go_loop [5,8] (fun _ i=>i=.int .i64 0) (fun _ _=>0)
 case atStart=>rfl
 case round =>
  subst hrel
  go_wp2
  go_ret
  exact ⟨rfl,rfl⟩
theorem containsDep_none (P:Option Addr) (c:Nat) (f:Value) (w:World):Calls Tryz.prog 49 #[.slice P 0 c,f] w fun e w'=>e=.returned (.bool false)∧w=w':=by
 go_enter Tryz.func49,Tryz.ntmps49
 go_wp2_with fail
 refine (indexDep_none _ _ _ _).mono ?_
 rintro e w' ⟨rfl,rfl⟩
 go_wp2
 go_ret
 exact ⟨rfl,rfl⟩
theorem containsDep_any (A:Option Addr) (n c:Nat) (l:List MDep) (g:Nat) (lb:Array Value) (eg:∀ args w,(callFunc g args).run Tryz.prog w=.ok (.enter g args) w) (p:MDep→Bool) (S:Nat→Prop) (w:World) (hr:KRow MDep.vals 8 w S A n l) (hn:n≤100000)
  (hp:∀ (W:World) (x:MDep),x ∈ l→Below w.heap.size w W→Calls Tryz.prog g (#[x.agg] ++ lb) W fun e w'=>e=.returned (.bool (p x))∧Below W.heap.size W w') :
  Calls Tryz.prog 49 #[.slice A n c,.func (.func g) #[] lb] w fun e w'=>e=.returned (.bool (l.any p))∧Below w.heap.size w w':=by
 rcases Nat.eq_zero_or_pos n with h0 | h0
 ·subst h0
  obtain rfl:l=[]:=List.eq_nil_of_length_eq_zero hr.1
  exact (containsDep_none A c _ w).mono fun e w' ⟨he,hw⟩=>⟨he,by subst hw; exact Below.refl _ _⟩
 ·obtain ⟨hl,hc⟩:=hr
  obtain ⟨b,o,rfl,_,hb,hcell⟩:=hc h0
  obtain ⟨zs,hzl0,hzg,hza⟩:=elems_of l
  have hzl:zs.length=n:=hzl0.trans hl
  haveI:Inhabited (Elem l):=⟨⟨l.getD 0 default,by rw [List.getD_eq_getElem?_getD,List.getElem?_eq_getElem (by omega)]; exact List.getElem_mem _⟩⟩
  have hpb:PredBelow Tryz.prog g lb (fun x:Elem l=>.agg x.x.vals.toArray) (fun x=>p x.x) w:=fun W x hB=>(hp W x.x x.h hB).mono fun e w' ⟨he,hb⟩=>⟨he,hB.trans (hb.mono hB.size)⟩
  have hcon:=AnyQ.slices_ContainsFunc Tryz.hasD 8 Tryz.isAgg61 Tryz.sizeOf61 (fun x:Elem l=>x.x.vals) (fun _=>rfl) (fun x=>p x.x) g lb eg b o n c zs w hpb (by rw [hzl]; exact Nat.le_refl _) (by omega) hb
   (fun j hj i v hv=>hcell j (by omega) i v (by
    have e:l.getD j default=zs[j]!.x:=by
     rw [getElem!_pos zs j hj]
     rw [List.getD_eq_getElem?_getD,hzg j hj]; rfl
    rw [e]; exact hv))
  refine hcon.mono fun e w' ⟨he,hb'⟩=>⟨?_,hb'⟩
  rw [he,List.take_of_length_le (by rw [hzl]; exact Nat.le_refl _)]
  rw [hza p]
theorem indexPin_none (P:Option Addr) (c:Nat) (f:Value) (w:World):Calls Tryz.prog 123 #[.slice P 0 c,f] w fun e w'=>e=.returned (.int .i64 (-1))∧w=w':=by
 go_enter Tryz.func123,Tryz.ntmps123
 go_wp2
 go_loop [5,8] (fun _ i=>i=.int .i64 0) (fun _ _=>0)
 case atStart=>rfl
 case round =>
  subst hrel
  go_wp2
  go_ret
  exact ⟨rfl,rfl⟩
theorem containsPin_none (P:Option Addr) (c:Nat) (f:Value) (w:World):Calls Tryz.prog 87 #[.slice P 0 c,f] w fun e w'=>e=.returned (.bool false)∧w=w':=by
 go_enter Tryz.func87,Tryz.ntmps87
 go_wp2_with fail
 refine (indexPin_none _ _ _ _).mono ?_
 rintro e w' ⟨rfl,rfl⟩
 go_wp2
 go_ret
 exact ⟨rfl,rfl⟩
theorem containsPin_any (A:Option Addr) (n c:Nat) (l:List MPin) (g:Nat) (lb:Array Value) (eg:∀ args w,(callFunc g args).run Tryz.prog w=.ok (.enter g args) w) (p:MPin→Bool) (S:Nat→Prop) (w:World) (hr:KRow MPin.vals 6 w S A n l) (hn:n≤100000)
  (hp:∀ (W:World) (x:MPin),x ∈ l→Below w.heap.size w W→Calls Tryz.prog g (#[x.agg] ++ lb) W fun e w'=>e=.returned (.bool (p x))∧Below W.heap.size W w') :
  Calls Tryz.prog 87 #[.slice A n c,.func (.func g) #[] lb] w fun e w'=>e=.returned (.bool (l.any p))∧Below w.heap.size w w':=by
 rcases Nat.eq_zero_or_pos n with h0 | h0
 ·subst h0
  obtain rfl:l=[]:=List.eq_nil_of_length_eq_zero hr.1
  exact (containsPin_none A c _ w).mono fun e w' ⟨he,hw⟩=>⟨he,by subst hw; exact Below.refl _ _⟩
 ·obtain ⟨hl,hc⟩:=hr
  obtain ⟨b,o,rfl,_,hb,hcell⟩:=hc h0
  obtain ⟨zs,hzl0,hzg,hza⟩:=elems_of l
  have hzl:zs.length=n:=hzl0.trans hl
  haveI:Inhabited (Elem l):=⟨⟨l.getD 0 default,by rw [List.getD_eq_getElem?_getD,List.getElem?_eq_getElem (by omega)]; exact List.getElem_mem _⟩⟩
  have hpb:PredBelow Tryz.prog g lb (fun x:Elem l=>.agg x.x.vals.toArray) (fun x=>p x.x) w:=fun W x hB=>(hp W x.x x.h hB).mono fun e w' ⟨he,hb⟩=>⟨he,hB.trans (hb.mono hB.size)⟩
  have hcon:=AnyQ.slices_ContainsFunc Tryz.hasS 6 Tryz.isAgg66 Tryz.sizeOf66 (fun x:Elem l=>x.x.vals) (fun _=>rfl) (fun x=>p x.x) g lb eg b o n c zs w hpb (by rw [hzl]; exact Nat.le_refl _) (by omega) hb
   (fun j hj i v hv=>hcell j (by omega) i v (by
    have e:l.getD j default=zs[j]!.x:=by
     rw [getElem!_pos zs j hj]
     rw [List.getD_eq_getElem?_getD,hzg j hj]; rfl
    rw [e]; exact hv))
  refine hcon.mono fun e w' ⟨he,hb'⟩=>⟨?_,hb'⟩
  rw [he,List.take_of_length_le (by rw [hzl]; exact Nat.le_refl _)]
  rw [hza p]
theorem everyDep1_any (d:MDep) (g:Nat) (cb:Array Value) (eg:∀ args w,(callFunc g args).run Tryz.prog w=.ok (.enter g args) w) (fb:Nat) (b:Bool) (w:World) (hf:AtV w fb [.func (.func g) #[] cb])
  (hp:∀ W:World,Below w.heap.size w W→Calls Tryz.prog g (#[d.agg] ++ cb) W fun e w'=>e=.returned (.bool b)∧Below W.heap.size W w') :
  Calls Tryz.prog 86 #[d.agg,.pointer (some ⟨fb,0,none⟩)] w fun e w'=>e=.returned (.bool !b)∧Below w.heap.size w w':=by
 obtain ⟨W0,hW,hav,hb0⟩:∃ W,W=w.alloc (.cells #[.string (Ident.mk d.name),d.x.kind,d.x.v.a,d.x.v.b,d.x.v.c,.slice d.x.A d.x.v.pre.length d.x.c,.slice d.x.B d.x.v.build.length d.x.d,.slice d.x.L d.x.n d.x.e] 61)∧AtV W w.heap.size [.string (Ident.mk d.name),.int .i64 d.x.kind,.int .u64 d.x.v.a,.int .u64 d.x.v.b,.int .u64 d.x.v.c,.slice d.x.A d.x.v.pre.length d.x.c,.slice d.x.B d.x.v.build.length d.x.d,.slice d.x.L d.x.n d.x.e]∧Below w.heap.size w W:=⟨_,rfl,AtV.new w _ _,(Below.refl _ _).alloc (Nat.le_refl _) _⟩
 have HAV:=Lib.hid hav
 have HF:=Lib.hid (hf.kept hb0 hf.lt)
 have hcl:=hp W0 hb0
 have HB0:=Lib.hid hb0
 clear hav hb0 hf hp
 obtain ⟨bd,hbd⟩:∃ bd,w.heap.size=bd:=⟨_,rfl⟩
 unfold MDep.agg at hcl ⊢
 go_enter Tryz.func86,Tryz.ntmps86
 go_upto_region 1 with (fail)
 rw [← hW]
 rw [hbd] at HAV
 clear hW hbd
 have c0:=HAV.out.at_ 0 _ rfl
 have c1:=HAV.out.at_ 1 _ rfl
 have c2:=HAV.out.at_ 2 _ rfl
 have c3:=HAV.out.at_ 3 _ rfl
 have c4:=HAV.out.at_ 4 _ rfl
 have c5:=HAV.out.at_ 5 _ rfl
 have c6:=HAV.out.at_ 6 _ rfl
 have c7:=HAV.out.at_ 7 _ rfl
 have f0:=HF.out.at_ 0 _ rfl
 go_wp2_with (go_at_fn g; refine hcl.mono ?_; rintro e w' ⟨rfl,hb⟩)
 have HB:=Lib.hid (HB0.out.trans (hb.mono HB0.out.size))
 clear hb
 cases b
 ·go_wp2
  go_ret
  exact ⟨rfl,HB.out⟩
 ·go_wp2
  go_ret
  exact ⟨rfl,HB.out⟩
theorem everyDep_any (A:Option Addr) (n c:Nat) (l:List MDep) (g:Nat) (cb:Array Value) (eg:∀ args w,(callFunc g args).run Tryz.prog w=.ok (.enter g args) w) (p:MDep→Bool) (S:Nat→Prop) (w:World) (hr:KRow MDep.vals 8 w S A n l) (hn:n≤100000)
  (hp:∀ (W:World) (x:MDep),x ∈ l→Below w.heap.size w W→Calls Tryz.prog g (#[x.agg] ++ cb) W fun e w'=>e=.returned (.bool (p x))∧Below W.heap.size W w') :
  Calls Tryz.prog 45 #[.slice A n c,.func (.func g) #[] cb] w fun e w'=>e=.returned (.bool (l.all p))∧Below w.heap.size w w':=by
 obtain ⟨W0,hW,hav,hb0⟩:∃ W,W=w.alloc (.cells #[.func (.func g) #[] cb] 87)∧AtV W w.heap.size [.func (.func g) #[] cb]∧Below w.heap.size w W:=⟨_,rfl,AtV.new w _ _,(Below.refl _ _).alloc (Nat.le_refl _) _⟩
 obtain ⟨fb,hfb⟩:∃ fb,w.heap.size=fb:=⟨_,rfl⟩
 have HB0:=Lib.hid hb0
 have hfst:=containsDep_any A n c l 86 #[.pointer (some ⟨fb,0,none⟩)] (enters_of Tryz.func86 (by kernel_rfl) rfl) (fun x=>!p x) S W0 (hr.keep (KeepS.of_below hb0)) hn (fun W x hx hb=>by
  rw [hfb] at hav
  exact everyDep1_any x g cb eg fb (p x) W (hav.kept hb hav.lt) (fun V hv=>hp V x hx (hb0.trans ((hb.trans (hv.mono hb.size)).mono hb0.size))))
 rw [show (l.any fun x=>!p x)=!l.all p by rw [List.all_eq_not_any_not]; simp] at hfst
 clear hav hb0 hr hp
 go_enter Tryz.func45,Tryz.ntmps45
 go_upto_region 1 with (fail)
 rw [← hW]
 clear hW hfb
 go_wp2_with fail
 refine hfst.mono ?_
 rintro e W2 ⟨rfl,hb⟩
 clear hfst
 have HB:=Lib.hid (HB0.out.trans (hb.mono HB0.out.size))
 clear hb
 obtain ⟨b,hb⟩:∃ b,l.all p=b:=⟨_,rfl⟩
 have HBB:=Lib.hid hb
 rw [hb]
 clear hb
 cases b
 ·go_wp2
  go_ret
  exact ⟨by rw [HBB.out]; rfl,HB.out⟩
 ·go_wp2
  go_ret
  exact ⟨by rw [HBB.out]; rfl,HB.out⟩
theorem everyPin1_any (d:MPin) (g:Nat) (cb:Array Value) (eg:∀ args w,(callFunc g args).run Tryz.prog w=.ok (.enter g args) w) (fb:Nat) (b:Bool) (w:World) (hf:AtV w fb [.func (.func g) #[] cb])
  (hp:∀ W:World,Below w.heap.size w W→Calls Tryz.prog g (#[d.agg] ++ cb) W fun e w'=>e=.returned (.bool b)∧Below W.heap.size W w') :
  Calls Tryz.prog 88 #[d.agg,.pointer (some ⟨fb,0,none⟩)] w fun e w'=>e=.returned (.bool !b)∧Below w.heap.size w w':=by
 obtain ⟨W0,hW,hav,hb0⟩:∃ W,W=w.alloc (.cells #[.string (Ident.mk d.name),d.ver.v.a,d.ver.v.b,d.ver.v.c,.slice d.ver.A d.ver.v.pre.length d.ver.c,.slice d.ver.B d.ver.v.build.length d.ver.d] 66)∧AtV W w.heap.size [.string (Ident.mk d.name),.int .u64 d.ver.v.a,.int .u64 d.ver.v.b,.int .u64 d.ver.v.c,.slice d.ver.A d.ver.v.pre.length d.ver.c,.slice d.ver.B d.ver.v.build.length d.ver.d]∧Below w.heap.size w W:=⟨_,rfl,AtV.new w _ _,(Below.refl _ _).alloc (Nat.le_refl _) _⟩
 have HAV:=Lib.hid hav
 have HF:=Lib.hid (hf.kept hb0 hf.lt)
 have hcl:=hp W0 hb0
 have HB0:=Lib.hid hb0
 clear hav hb0 hf hp
 obtain ⟨bd,hbd⟩:∃ bd,w.heap.size=bd:=⟨_,rfl⟩
 unfold MPin.agg at hcl ⊢
 go_enter Tryz.func88,Tryz.ntmps88
 go_upto_region 1 with (fail)
 rw [← hW]
 rw [hbd] at HAV
 clear hW hbd
 have c0:=HAV.out.at_ 0 _ rfl
 have c1:=HAV.out.at_ 1 _ rfl
 have c2:=HAV.out.at_ 2 _ rfl
 have c3:=HAV.out.at_ 3 _ rfl
 have c4:=HAV.out.at_ 4 _ rfl
 have c5:=HAV.out.at_ 5 _ rfl
 have f0:=HF.out.at_ 0 _ rfl
 go_wp2_with (go_at_fn g; refine hcl.mono ?_; rintro e w' ⟨rfl,hb⟩)
 have HB:=Lib.hid (HB0.out.trans (hb.mono HB0.out.size))
 clear hb
 cases b
 ·go_wp2
  go_ret
  exact ⟨rfl,HB.out⟩
 ·go_wp2
  go_ret
  exact ⟨rfl,HB.out⟩
theorem everyPin_any (A:Option Addr) (n c:Nat) (l:List MPin) (g:Nat) (cb:Array Value) (eg:∀ args w,(callFunc g args).run Tryz.prog w=.ok (.enter g args) w) (p:MPin→Bool) (S:Nat→Prop) (w:World) (hr:KRow MPin.vals 6 w S A n l) (hn:n≤100000)
  (hp:∀ (W:World) (x:MPin),x ∈ l→Below w.heap.size w W→Calls Tryz.prog g (#[x.agg] ++ cb) W fun e w'=>e=.returned (.bool (p x))∧Below W.heap.size W w') :
  Calls Tryz.prog 46 #[.slice A n c,.func (.func g) #[] cb] w fun e w'=>e=.returned (.bool (l.all p))∧Below w.heap.size w w':=by
 obtain ⟨W0,hW,hav,hb0⟩:∃ W,W=w.alloc (.cells #[.func (.func g) #[] cb] 91)∧AtV W w.heap.size [.func (.func g) #[] cb]∧Below w.heap.size w W:=⟨_,rfl,AtV.new w _ _,(Below.refl _ _).alloc (Nat.le_refl _) _⟩
 obtain ⟨fb,hfb⟩:∃ fb,w.heap.size=fb:=⟨_,rfl⟩
 have HB0:=Lib.hid hb0
 have hfst:=containsPin_any A n c l 88 #[.pointer (some ⟨fb,0,none⟩)] (enters_of Tryz.func88 (by kernel_rfl) rfl) (fun x=>!p x) S W0 (hr.keep (KeepS.of_below hb0)) hn (fun W x hx hb=>by
  rw [hfb] at hav
  exact everyPin1_any x g cb eg fb (p x) W (hav.kept hb hav.lt) (fun V hv=>hp V x hx (hb0.trans ((hb.trans (hv.mono hb.size)).mono hb0.size))))
 rw [show (l.any fun x=>!p x)=!l.all p by rw [List.all_eq_not_any_not]; simp] at hfst
 clear hav hb0 hr hp
 go_enter Tryz.func46,Tryz.ntmps46
 go_upto_region 1 with (fail)
 rw [← hW]
 clear hW hfb
 go_wp2_with fail
 refine hfst.mono ?_
 rintro e W2 ⟨rfl,hb⟩
 clear hfst
 have HB:=Lib.hid (HB0.out.trans (hb.mono HB0.out.size))
 clear hb
 obtain ⟨b,hb⟩:∃ b,l.all p=b:=⟨_,rfl⟩
 have HBB:=Lib.hid hb
 rw [hb]
 clear hb
 cases b
 ·go_wp2
  go_ret
  exact ⟨by rw [HBB.out]; rfl,HB.out⟩
 ·go_wp2
  go_ret
  exact ⟨by rw [HBB.out]; rfl,HB.out⟩
end Go.Proofs.YtneilnibghhgmaaGreatDoor.Model
