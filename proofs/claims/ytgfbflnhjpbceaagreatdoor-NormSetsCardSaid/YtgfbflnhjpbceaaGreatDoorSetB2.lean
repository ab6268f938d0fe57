/-
  What the theorem of the last text needs of these: MemFlat, SpScope, NumIs, NumWalks, IdRefSame, Came, IdMath. Conditions: as each theorem states.
-/
import Derived.Test.YtgfbflnhjpbceaaGreatDoorSetB1
import Derived.Lib.ConvBytes
import Derived.Lib.Bytealg
import Derived.WalkSpells
import Derived.StillTailTactics
import Derived.ProofKit
import Derived.OpenShut
import Derived.SliceStrings
import Derived.Lib.TrimByte
set_option maxRecDepth 100000
set_option maxHeartbeats 25600000
namespace Go.Proofs.YtgfbflnhjpbceaaGreatDoor.Num
open Go.RowKit

theorem news_new (w:World) (L:List Value) (t:TypeId):∀ j u,L[j]?=some u→(w.alloc (.cells L.toArray t)).cell? ((⟨w.heap.size,0,none⟩:Addr).add j)=some u:=by
 intro j u hu
 have hh:(w.alloc (.cells L.toArray t)).heap[w.heap.size]?=some (.cells L.toArray t):=by
  show (w.heap.push _)[w.heap.size]?=_
  simp
 rw [add_none,cell_of_row _ _ _ L.toArray t (0,0) hh,Nat.zero_add]
 simpa using hu
theorem flat_get {α:Type} [Inhabited α] (f:α→List Value) (k:Nat) (hk:∀ x,(f x).length=k):∀ (l:List α) (j i:Nat),j<l.length→i<k→(l.flatMap f)[j * k+i]?=(f (l.getD j default))[i]?
 | [],j,i,hj,_=>by simp at hj
 | x :: l,0,i,_,hi=>by
  rw [List.flatMap_cons,List.getElem?_append_left (by rw [hk]; omega)]; simp
 | x :: l,j+1,i,hj,hi=>by
  rw [List.flatMap_cons,List.getElem?_append_right (by rw [hk,Nat.succ_mul]; omega),hk,show (j+1) * k+i - k=j * k+i by rw [Nat.succ_mul]; omega,flat_get f k hk l j i (by simpa using hj) hi]; simp
theorem flat_len {α:Type} (f:α→List Value) (k:Nat) (hk:∀ x,(f x).length=k):∀ l:List α,(l.flatMap f).length=l.length * k
 | []=>by simp
 | x :: l=>by rw [List.flatMap_cons,List.length_append,hk,flat_len f k hk l,List.length_cons,Nat.succ_mul]; omega
theorem flat_one {α:Type} (f:α→List Value) (h:∀ x,∀ u ∈ f x,u.oneCell'=true) (l:List α):∀ u ∈ l.flatMap f,u.oneCell'=true:=by
 intro u hu; obtain ⟨x,_,hx⟩:=List.mem_flatMap.1 hu; exact h x u hx
theorem own_cells {α:Type} [Inhabited α] {f:α→List Value} {k:Nat} (hk:∀ x,(f x).length=k) {w:World} {base:Nat} {e:TypeId} {v:Value} {n:Nat} {l:List α} (h:w.ownsRow base e k v n (l.flatMap f)) (hl:l.length=n) :
  ∃ A c,v=.slice A n c∧n≤c∧(A=none→c=0)∧(0<n→∃ g,A=some ⟨g,0,none⟩∧base≤g∧g<w.heap.size∧(∀ o,w.frozen? ⟨g,o,none⟩=false)∧∀ j,j<n→∀ i u,(f (l.getD j default))[i]?=some u→w.cell? ⟨g,0+j * k+i,none⟩=some u):=by
 have hcs:=fun g=>h.cells (g:=g)
 rcases h.2 with ⟨rfl,rfl⟩ | ⟨g,cap,cur,rfl,hg0,hg,hnc,hcm,_,_⟩
 ·exact ⟨none,0,rfl,Nat.le_refl _,fun _=>rfl,fun h0=>by omega⟩
 ·refine ⟨_,cap,rfl,hnc,(fun e=>by cases e),fun h0=>⟨g,rfl,hg0,(Array.getElem?_eq_some_iff.1 hg).1,fun o=>?_,fun j hj i u hu=>?_⟩⟩
  ·simp [World.frozen?,hg]
  ·have hi:i<k:=by have:=(List.getElem?_eq_some_iff.1 hu).1; rwa [hk] at this
   have:=hcs g rfl (j * k+i) u (by rw [flat_get f k hk l j i (by omega) hi]; exact hu)
   rw [add_none] at this
   rw [Nat.add_assoc]; exact this
theorem own_apart {w:World} {B1 B2:Nat} {e1 e2:TypeId} {k1 k2:Nat} {v1 v2:Value} {n1 n2:Nat} {x1 x2:List Value} (h1:w.ownsRow B1 e1 k1 v1 n1 x1) (h2:w.ownsRow B2 e2 k2 v2 n2 x2) (hne:e1≠e2):v1.ownBlock=none∨v1.ownBlock≠v2.ownBlock:=by
 rcases h1.2 with ⟨rfl,_⟩ | ⟨g1,c1,u1,rfl,_,hg1,_⟩
 ·exact .inl rfl
 ·right
  rcases h2.2 with ⟨rfl,_⟩ | ⟨g2,c2,u2,rfl,_,hg2,_⟩
  ·intro h; cases h
  ·intro h
   have e:g1=g2:=by simpa [Value.ownBlock] using h
   subst e
   rw [hg1] at hg2
   injection hg2 with hg2
   injection hg2 with _ h
   exact hne h

end Go.Proofs.YtgfbflnhjpbceaaGreatDoor.Num
namespace Go.Proofs.YtgfbflnhjpbceaaGreatDoor.Span
open Go.RowKit

def jumps (J:Nat→Act→World→Prop) (Q:Exit→Act→World→Prop):Exit→Act→World→Prop
 | .goto l,a,w=>J l a w
 | e,a,w=>Q e a w
def Less (J0 J1:Act→World→Prop) (m0 m1:Act→World→Nat) (m:Nat) (l:Nat) (a:Act) (w:World):Prop:=(l=0∧J0 a w∧m0 a w<m)∨(l=1∧J1 a w∧m1 a w<m)
theorem wp_two {P:Program} {a:Act} {w:World} {Q:Exit→Act→World→Prop} {c rest0 rest1:Code} (J0 J1:Act→World→Prop) (m0 m1:Act→World→Nat) (hf0:findLabel c 0=some (Code.skip.seq rest0)) (hf1:findLabel c 1=some (Code.skip.seq rest1))
  (pass1:∀ m a w,J1 a w→m1 a w=m→rest1.wp P (jumps (Less J0 J1 m0 m1 m) Q) a w)
  (pass0:Hid (∀ m a w,J1 a w→m1 a w≤m→rest1.wp P (jumps (Less J0 J1 m0 m1 m) Q) a w)→∀ m a w,J0 a w→m0 a w=m→rest0.wp P (jumps (Less J0 J1 m0 m1 m) Q) a w)
  (first:Hid (∀ a w,J0 a w→rest0.wp P (jumps (fun l a w=>(l=0∧J0 a w)∨(l=1∧J1 a w)) Q) a w)→c.wp P (jumps (fun l a w=>(l=0∧J0 a w)∨(l=1∧J1 a w)) Q) a w):(Code.scope c).wp P Q a w:=by
 have mono1:∀ m a w,J1 a w→m1 a w≤m→rest1.wp P (jumps (Less J0 J1 m0 m1 m) Q) a w:=fun m a w h hm =>
  wp_mono (pass1 _ a w h rfl) (fun e _ _ hq=>by
   cases e <;> first | exact hq | (rcases hq with ⟨h1,h2,h3⟩ | ⟨h1,h2,h3⟩; exact .inl ⟨h1,h2,Nat.lt_of_lt_of_le h3 hm⟩; exact .inr ⟨h1,h2,Nat.lt_of_lt_of_le h3 hm⟩))
 have p0:=pass0 mono1
 have first:=first fun a w h=>wp_mono (p0 _ a w h rfl) (fun e _ _ hq=>by
   cases e <;> first | exact hq | (rcases hq with ⟨h1,h2,h3⟩ | ⟨h1,h2,h3⟩; exact .inl ⟨h1,h2⟩; exact .inr ⟨h1,h2⟩))
 intro b k cs
 have hg0:gotoIn 0 (.inScope c :: k)=some (.code (Code.skip.seq rest0) :: .inScope c :: k):=by simp [gotoIn,hf0]
 have hg1:gotoIn 1 (.inScope c :: k)=some (.code (Code.skip.seq rest1) :: .inScope c :: k):=by simp [gotoIn,hf1]
 have key:∀ n,(∀ a w,m0 a w≤n→J0 a w→∃ e a' w',Q e a' w'∧Arrives P (lone (b.at a (.code (Code.skip.seq rest0) :: .inScope c :: k)) cs w) b k cs e a' w')∧(∀ a w,m1 a w≤n→J1 a w→∃ e a' w',Q e a' w'∧Arrives P (lone (b.at a (.code (Code.skip.seq rest1) :: .inScope c :: k)) cs w) b k cs e a' w'):=by
  intro n
  induction n using Nat.strongRecOn with
  | _ n ih =>
   have go:∀ (rest:Code) (m:Nat) (a:Act) (w:World),m≤n→rest.wp P (jumps (Less J0 J1 m0 m1 m) Q) a w→∃ e a' w',Q e a' w'∧Arrives P (lone (b.at a (.code (Code.skip.seq rest) :: .inScope c :: k)) cs w) b k cs e a' w':=by
    intro rest m a w hm hw
    obtain ⟨e,a₁,w₁,hq,harr⟩:=(wp_seq (wp_skip hw):(Code.skip.seq rest).wp P _ a w) b (.inScope c :: k) cs
    cases e with
    | normal=>exact ⟨.normal,a₁,w₁,hq,Steps.trans harr (.one step_inScope)⟩
    | exit id=>exact ⟨.exit id,a₁,w₁,hq,fun k' hk=>harr k' (by simp [exitTo,hk])⟩
    | goto l' =>
     rcases hq with ⟨rfl,hJ',hlt⟩ | ⟨rfl,hJ',hlt⟩
     ·obtain ⟨e₂,a₂,w₂,hq₂,harr₂⟩:=(ih _ (Nat.lt_of_lt_of_le hlt hm)).1 a₁ w₁ (Nat.le_refl _) hJ'
      exact ⟨e₂,a₂,w₂,hq₂,.of_steps (harr _ hg0) harr₂⟩
     ·obtain ⟨e₂,a₂,w₂,hq₂,harr₂⟩:=(ih _ (Nat.lt_of_lt_of_le hlt hm)).2 a₁ w₁ (Nat.le_refl _) hJ'
      exact ⟨e₂,a₂,w₂,hq₂,.of_steps (harr _ hg1) harr₂⟩
    | ret=>exact ⟨_,a₁,w₁,hq,harr⟩
    | panic ch=>exact ⟨_,a₁,w₁,hq,harr⟩
    | outgrown=>exact ⟨_,a₁,w₁,hq,harr⟩
   exact ⟨fun a w hm hJ=>go rest0 _ a w hm (p0 _ a w hJ rfl),fun a w hm hJ=>go rest1 _ a w hm (pass1 _ a w hJ rfl)⟩
 obtain ⟨e,a₁,w₁,hq,harr⟩:=first b (.inScope c :: k) cs
 cases e with
 | normal=>exact ⟨.normal,a₁,w₁,hq,.head step_scope (Steps.trans harr (.one step_inScope))⟩
 | exit id=>exact ⟨.exit id,a₁,w₁,hq,fun k' hk=>.head step_scope (harr k' (by simp [exitTo,hk]))⟩
 | goto l' =>
  rcases hq with ⟨rfl,hJ'⟩ | ⟨rfl,hJ'⟩
  ·obtain ⟨e₂,a₂,w₂,hq₂,harr₂⟩:=(key _).1 a₁ w₁ (Nat.le_refl _) hJ'
   exact ⟨e₂,a₂,w₂,hq₂,.of_steps (.head step_scope (harr _ hg0)) harr₂⟩
  ·obtain ⟨e₂,a₂,w₂,hq₂,harr₂⟩:=(key _).2 a₁ w₁ (Nat.le_refl _) hJ'
   exact ⟨e₂,a₂,w₂,hq₂,.of_steps (.head step_scope (harr _ hg1)) harr₂⟩
 | ret=>exact ⟨_,a₁,w₁,hq,.of_steps (.one step_scope) harr⟩
 | panic ch=>exact ⟨_,a₁,w₁,hq,.of_steps (.one step_scope) harr⟩
 | outgrown=>exact ⟨_,a₁,w₁,hq,.of_steps (.one step_scope) harr⟩
end Go.Proofs.YtgfbflnhjpbceaaGreatDoor.Span
namespace Go.Proofs.YtgfbflnhjpbceaaGreatDoor.Num
open Go.RowKit

def isNum (l:List UInt8):Bool:=decide (0<l.length∧run l=l.length∧pad l=false)
theorem isNum_iff (l:List UInt8):isNum l=true↔0<l.length∧run l=l.length∧pad l=false:=by simp [isNum]
theorem isNum_no (l:List UInt8):isNum l=false↔¬ (0<l.length∧run l=l.length∧pad l=false):=by
 rw [← isNum_iff]; cases isNum l <;> simp

theorem run_bytesD (w:World) (s:ByteArray) (hs:s.size≤maxLen):∃ c W,s.size≤c ∧
  (convert 9 68 (.string s)).run Tryz.prog w=.ok (.slice (some ⟨w.heap.size,0,none⟩) s.size c) W∧Row W (some ⟨w.heap.size,0,none⟩) s.size s.data.toList∧BelowD w.heap.size w W:=by
 refine ⟨_,_,grownCap_ge w s.size 0 5,Lib.run_convert_string_bytes (P:=Tryz.prog) w 9 68 5 s Tryz.underlying9 Tryz.underlying68 Tryz.underlying5,?_,?_⟩
 ·refine ⟨(Lib.size_eq s).symm,hs,fun h0=>⟨w.heap.size,0,rfl,by rw [Lib.bytesWorld_size]; omega,fun j hj=>?_⟩⟩
  rw [Nat.zero_add,Lib.bytesWorld_cell w 5 s j hj]; rfl
 ·exact ⟨⟨by simp [Lib.bytesWorld,World.freeze]; rfl,by simp [Lib.bytesWorld,World.freeze],by simp [Lib.bytesWorld,World.freeze]; rfl,by rw [Lib.bytesWorld_size]; omega,fun k hk=>Lib.bytesWorld_at_old w 5 s k hk⟩,by simp [Lib.bytesWorld,World.freeze]⟩

theorem run_bytes (w:World) (s:ByteArray) (hs:s.size≤maxLen):∃ c W,s.size≤c ∧
  (convert 9 68 (.string s)).run Tryz.prog w=.ok (.slice (some ⟨w.heap.size,0,none⟩) s.size c) W∧Row W (some ⟨w.heap.size,0,none⟩) s.size s.data.toList∧Below w.heap.size w W:=by
 obtain ⟨c,W,h1,h2,h3,h4⟩:=run_bytesD w s hs
 exact ⟨c,W,h1,h2,h3,h4.toBelow⟩

theorem is_anyD (s:ByteArray) (w:World) (hs:s.size≤maxLen) :
  Calls Tryz.prog 127 #[.string s] w fun e w'=>e=.returned (.bool (isNum s.data.toList))∧BelowD w.heap.size w w':=by
 obtain ⟨c,W,hc,hcv,hr,hb⟩:=run_bytesD w s hs
 unfold maxLen at hs
 have HR:=Lib.hid hr; clear hr
 have HB:=Lib.hid hb; clear hb
 have HL:=Lib.hid (Lib.size_eq s)
 by_cases h0:0<s.size
 ·by_cases h1:run s.data.toList=s.size
  ·have hb1:((run s.data.toList:Int) == (s.size:Int))=true:=by rw [h1]; simp
   have HF:Hid (isNum s.data.toList=!pad s.data.toList):=by
    unfold Hid
    rw [Bool.eq_iff_iff,isNum_iff,← HL.out]; simp [h0,h1]
   have H1:=Lib.hid h1; clear h1
   go_enter Tryz.func127,Tryz.ntmps127
   go_wp2_with fail
   refine (digits_any _ _ _ _ _ HR.out).mono ?_
   rintro e w' ⟨rfl,rfl⟩
   go_wp2_with fail
   refine (padded_any _ _ _ _ _ HR.out).mono ?_
   rintro e w' ⟨rfl,rfl⟩
   go_wp2
   go_ret
   exact ⟨by rw [HF.out]; rfl,HB.out⟩
  ·have hb1:((run s.data.toList:Int) == (s.size:Int))=false:=by simp; omega
   have HF:Hid (isNum s.data.toList=false):=(isNum_no _).2 fun hh=>h1 (by rw [HL.out]; exact hh.2.1)
   have H1:=Lib.hid h1; clear h1
   go_enter Tryz.func127,Tryz.ntmps127
   go_wp2_with fail
   refine (digits_any _ _ _ _ _ HR.out).mono ?_
   rintro e w' ⟨rfl,rfl⟩
   go_wp2
   go_ret
   exact ⟨by rw [HF.out]; rfl,HB.out⟩
 ·have HF:Hid (isNum s.data.toList=false):=(isNum_no _).2 fun hh=>h0 (by rw [HL.out]; exact hh.1)
  go_enter Tryz.func127,Tryz.ntmps127
  go_wp2
  go_ret
  exact ⟨by rw [HF.out]; rfl,HB.out⟩

theorem is_any (s:ByteArray) (w:World) (hs:s.size≤maxLen) :
  Calls Tryz.prog 127 #[.string s] w fun e w'=>e=.returned (.bool (isNum s.data.toList))∧Below w.heap.size w w':=dropD (is_anyD s w hs)

def ordN (x y:Nat):Int:=if x<y then -1 else if y<x then 1 else 0
theorem ordN_lt {x y:Nat} (h:x<y):ordN x y=-1:=by unfold ordN; rw [if_pos h]
theorem ordN_gt {x y:Nat} (h:y<x):ordN x y=1:=by unfold ordN; rw [if_neg (by omega),if_pos h]
theorem ordN_eq {x y:Nat} (h:x=y):ordN x y=0:=by unfold ordN; rw [if_neg (by omega),if_neg (by omega)]
theorem ordN_flip (x y:Nat):ordN y x=0 - ordN x y:=by
 rcases Nat.lt_trichotomy x y with h | h | h
 ·rw [ordN_lt h,ordN_gt h]; rfl
 ·rw [ordN_eq h,ordN_eq h.symm]; rfl
 ·rw [ordN_gt h,ordN_lt h]; rfl

theorem compare_val:∀ (x y:List UInt8),AllDig x→AllDig y→x.length=y.length→Lib.compareBytes x y=ordN (val x) (val y):=by
 intro x
 induction x with
 | nil =>
  intro y _ _ h
  have:y=[]:=List.eq_nil_of_length_eq_zero (by simpa using h.symm)
  subst this
  rw [ordN_eq rfl]; simp [Lib.compareBytes]
 | cons a x ih =>
  intro y hx hy h
  cases y with
  | nil=>simp at h
  | cons b y =>
   have hl:x.length=y.length:=by simpa using h
   have h1:=less_val (a :: x) (b :: y) hx hy h
   have h2:=less_val (b :: y) (a :: x) hy hx h.symm
   rw [allDig_cons] at hx hy
   have h3:=ih y hx.2 hy.2 hl
   unfold Op.bytesLess at h1 h2
   rw [Bool.or_eq_true,decide_eq_true_eq] at h1 h2
   unfold Lib.compareBytes
   by_cases hab:a<b
   ·rw [if_pos hab,ordN_lt (h1.1 (.inl hab))]
   ·rw [if_neg hab]
    by_cases hba:b<a
    ·rw [if_pos hba,ordN_gt (h2.1 (.inl hba))]
    ·rw [if_neg hba,h3]
     have e:a=b:=by
      rw [UInt8.lt_iff_toNat_lt] at hab hba
      exact UInt8.toNat_inj.1 (by omega)
     subst e
     rw [val_cons,val_cons,hl]
     rcases Nat.lt_trichotomy (val x) (val y) with hh | hh | hh
     ·rw [ordN_lt hh,ordN_lt (by omega)]
     ·rw [ordN_eq hh,ordN_eq (by omega)]
     ·rw [ordN_gt hh,ordN_gt (by omega)]

theorem shorter {x y:List UInt8} (hx:isNum x=true) (hy:isNum y=true) (h:x.length<y.length):val x<val y:=by
 rw [isNum_iff] at hx hy
 have ax:=all_of_run hx.2.1
 have ay:=all_of_run hy.2.1
 have vx:=val_lt ax
 cases y with
 | nil=>simp at h
 | cons b r =>
  have hp:=(pad_no _).1 hy.2.2
  have hb:=(isDig_iff b).1 (allDig_cons.1 ay).1
  have h48:b.toNat≠48:=fun e=>hp ⟨by omega,by simpa using e⟩
  have h1:=le_val (b:=b) (r:=r) (by omega)
  have h2:10 ^ x.length≤10 ^ r.length:=Nat.pow_le_pow_right (by omega) (by simp at h; omega)
  omega

theorem alike_val {x y:List UInt8} (hx:isNum x=true) (hy:isNum y=true) (h:x.length=y.length):Lib.compareBytes x y=ordN (val x) (val y):=by
 rw [isNum_iff] at hx hy
 exact compare_val x y (all_of_run hx.2.1) (all_of_run hy.2.1) h

def cmpNum (a b:List UInt8):Int:=if isNum a=true∧isNum b=true then ordN (val a) (val b) else 0
theorem cmpNum_yes {a b:List UInt8} (ha:isNum a=true) (hb:isNum b=true):cmpNum a b=ordN (val a) (val b):=by unfold cmpNum; rw [if_pos ⟨ha,hb⟩]
theorem cmpNum_no {a b:List UInt8} (h:isNum a=false∨isNum b=false):cmpNum a b=0:=by
 unfold cmpNum; rw [if_neg]
 rintro ⟨ha,hb⟩
 rcases h with h | h
 ·rw [ha] at h; cases h
 ·rw [hb] at h; cases h

end Go.Proofs.YtgfbflnhjpbceaaGreatDoor.Num
namespace Go.Proofs.YtgfbflnhjpbceaaGreatDoor.Num
open Go.RowKit
def numOut (l:List UInt8):Value:=if val l≤maxField then .tuple #[.int .u64 (val l),.bool true] else .tuple #[.int .u64 0,.bool false]
theorem numOut_yes {l:List UInt8} (h:val l≤maxField):numOut l=.tuple #[.int .u64 (val l),.bool true]:=by unfold numOut; rw [if_pos h]
theorem numOut_no {l:List UInt8} (h:¬ val l≤maxField):numOut l=.tuple #[.int .u64 0,.bool false]:=by unfold numOut; rw [if_neg h]
def NumJ (w:World) (A:Option Addr) (n c:Nat) (l:List UInt8) (a':Act) (w':World):Prop :=
 w=w'∧∃ (k:Nat) (v:Int) (u5 u6 u7 u8 u9 u10 u11 u12 u13 u14 u15 u16 u17 u18 u19 u20 u21 u22 u23 u24 u25 u26 u27:Value),k≤n∧v=(val (l.take k):Int)∧v≤9223372036854775807∧a'={ tmps:=#[.slice A n c,undef,.int .u64 v,.bool false,.int .i64 k,u5,u6,u7,u8,u9,u10,u11,u12,u13,u14,u15,u16,u17,u18,u19,u20,u21,u22,u23,u24,u25,u26,u27],defers:=[] }
def NumM (n:Nat) (a':Act) (_:World):Nat:=n - (intOf (a'.tmps.getD 4 undef)).toNat

theorem number_any (A:Option Addr) (n c:Nat) (l:List UInt8) (w:World) (h:Row w A n l) (hd:AllDig l) :
  Calls Tryz.prog 201 #[.slice A n c] w fun e w'=>e=.returned (numOut l)∧w=w':=by
 obtain ⟨hl,hm,hc⟩:=h
 unfold maxLen at hm
 have HC:=Lib.hid hc; clear hc
 have HL:=Lib.hid hl; clear hl
 have HD:=Lib.hid hd; clear hd
 go_enter Tryz.func201,Tryz.ntmps201
 go_wp2
 refine wp_scope_back 0 (NumJ w A n c l) (NumM n) rfl ?_ ?_
 ·rintro a' w' ⟨rfl,k,v,u5,u6,u7,u8,u9,u10,u11,u12,u13,u14,u15,u16,u17,u18,u19,u20,u21,u22,u23,u24,u25,u26,u27,hk,hv,hv2,rfl⟩
  have hv1:0≤v:=by rw [hv]; exact Int.natCast_nonneg _
  have HV:=Lib.hid hv; clear hv
  by_cases hlt:k<n
  ·obtain ⟨b,o,rfl,hb,hcell⟩:=HC.out (by omega)
   have hx:=hcell k hlt
   clear hcell HC
   have hbd:=(isDig_at l k).1 (allDig_getD HD.out (by rw [HL.out]; exact hlt))
   obtain ⟨x,hxe⟩:∃ x,x=byteAt l k:=⟨_,rfl⟩
   rw [← hxe] at hx hbd
   have HX:=Lib.hid hxe; clear hxe
   obtain ⟨h1,h2⟩:=hbd
   have hne:((k:Int) == (n:Int))=false:=by simp; omega
   have HT:Hid ((val (l.take (k+1)):Int)=10 * v+(x - 48)):=by
    unfold Hid
    rw [take_snoc l k (by rw [HL.out]; exact hlt),val_snoc,HV.out]
    have:=HX.out; unfold byteAt at this; omega
   by_cases hg:v≤(9223372036854775807 - (x - 48)) / 10
   ·go_wp2
    go_step3
    rw [show ((k:Int)+1)=((k+1:Nat):Int) from rfl]
    exact ⟨rfl,⟨rfl,k+1,_,_,_,_,_,_,_,_,_,_,_,_,_,_,_,_,_,_,_,_,_,_,_,_,by omega,HT.out.symm,by omega,rfl⟩,by simp [NumM,intOf]; omega⟩
   ·have HN:Hid (¬ val l≤maxField):=by
     have h3:=val_take_le l (k+1)
     have h4:=HT.out
     unfold Hid maxField; omega
    go_wp2
    simp only [Exit.jump]
    go_ret2
    exact ⟨by rw [numOut_no HN.out]; rfl,rfl⟩
  ·obtain rfl:k=n:=by omega
   have HV2:Hid (v=(val l:Int)):=by have:=HV.out; rw [List.take_of_length_le (by rw [HL.out]; exact Nat.le_refl _)] at this; exact this
   have HN:Hid (val l≤maxField):=by have:=HV2.out; unfold Hid maxField; omega
   have hne:((k:Int) == (k:Int))=true:=by simp
   go_wp2
   simp only [Exit.jump]
   go_ret2
   exact ⟨by rw [numOut_yes HN.out,← HV2.out]; rfl,rfl⟩
 ·intro HP
  go_wp2
  go_step3
  rename_i hK
  exact hK _ _ (HP.out _ _ ⟨rfl,0,0,_,_,_,_,_,_,_,_,_,_,_,_,_,_,_,_,_,_,_,_,_,_,_,by omega,by simp [val,valFrom],by omega,rfl⟩)

def parseOut (l:List UInt8) (p:Int):Value:=.tuple #[.int .u64 ((parse l p).1),.int .i64 ((parse l p).2.1),.int .i64 ((parse l p).2.2)]

theorem parse_out (A:Option Addr) (n c:Nat) (l:List UInt8) (p:Int) (w:World) (h:Row w A n l) (ho:p<0∨(n:Int)<p) :
  Calls Tryz.prog 192 #[.slice A n c,.int .i64 p] w fun e w'=>e=.returned (parseOut l p)∧w=w':=by
 have HE:Hid (parse l p=(0,0,1)):=by
  unfold Hid parse; rw [if_pos (by rw [h.1]; exact ho)]
 clear h
 by_cases h0:p<0
 ·go_enter Tryz.func192,Tryz.ntmps192
  go_wp2
  go_ret3
  exact ⟨by unfold parseOut; rw [HE.out]; rfl,rfl⟩
 ·have h1:(n:Int)<p:=by omega
  clear ho
  go_enter Tryz.func192,Tryz.ntmps192
  go_wp2
  go_ret3
  exact ⟨by unfold parseOut; rw [HE.out]; rfl,rfl⟩

theorem parse_at (l:List UInt8) (p:Nat) (hp:p≤l.length) (d:List UInt8) (hd:(l.drop p).take (run (l.drop p))=d) :
  parse l p=if d.length=0 then (0,0,2) else if pad d=true then (0,0,3) else if maxField<val d then (0,0,4) else (val d,d.length,0):=by
 subst hd; unfold parse; rw [if_neg (by omega),Int.toNat_natCast]

theorem parse_in (A:Option Addr) (n c:Nat) (l:List UInt8) (p:Nat) (w:World) (h:Row w A n l) (hc:n≤c) (hp:p≤n) :
  Calls Tryz.prog 192 #[.slice A n c,.int .i64 p] w fun e w'=>e=.returned (parseOut l p)∧w=w':=by
 have hm:=h.2.1
 unfold maxLen at hm
 have hp0:¬ (p:Int)<0:=by omega
 have hp1:¬ n<p:=by omega
 by_cases hcp:c=p
 ·have hn:n=p:=by omega
  subst hcp
  subst hn
  have HE:Hid (parse l n=(0,0,2)):=by
   have e:=parse_at l n (by rw [h.1]; exact Nat.le_refl _) [] (by rw [List.drop_eq_nil_of_le (by rw [h.1]; exact Nat.le_refl _)]; rfl)
   exact e.trans (if_pos rfl)
  have R1:Row w A 0 []:=⟨rfl,by omega,fun h0=>by omega⟩
  have H1:=Lib.hid R1
  clear h R1 hc hp
  go_enter Tryz.func192,Tryz.ntmps192
  go_wp2_with fail
  refine (digits_any _ _ _ _ _ H1.out).mono ?_
  rintro e w' ⟨rfl,rfl⟩
  rw [show run []=0 from rfl]
  go_wp2
  go_ret3
  exact ⟨by unfold parseOut; rw [HE.out]; rfl,rfl⟩
 ·obtain ⟨m,hM⟩:∃ m,run (l.drop p)=m:=⟨_,rfl⟩
  have hpm:p+m≤n:=by have:=run_le (l.drop p); rw [hM,List.length_drop,h.1] at this; omega
  have R1:Row w (A.map (fun x=>x.add p)) (n - p) (l.drop p):=by
   have:=h.piece (A':=A.map (fun x=>x.add p)) p (n - p) (by omega) (fun _ b o e=>map_add p A b o e)
   rwa [List.take_of_length_le (by rw [List.length_drop,h.1]; exact Nat.le_refl _)] at this
  obtain ⟨d,hd⟩:∃ d,(l.drop p).take m=d:=⟨_,rfl⟩
  have R2:Row w (A.map (fun x=>x.add p)) m d:=by
   have:=h.piece (A':=A.map (fun x=>x.add p)) p m hpm (fun _ b o e=>map_add p A b o e)
   rwa [hd] at this
  have HAD:Hid (AllDig d):=by have:=allDig_take_run (l.drop p); rw [hM,hd] at this; exact this
  have HE:Hid (parse l p=if d.length=0 then (0,0,2) else if pad d=true then (0,0,3) else if maxField<val d then (0,0,4) else (val d,d.length,0)) :=
   parse_at l p (by rw [h.1]; exact hp) d (by rw [hM]; exact hd)
  have hdl:=R2.1
  rw [hdl] at HE
  have H1:=Lib.hid R1
  have H2:=Lib.hid R2
  have HM:=Lib.hid hM
  clear h R1 R2 hM hd hdl
  go_enter Tryz.func192,Tryz.ntmps192
  go_wp2_with fail
  refine (digits_any _ _ _ _ _ H1.out).mono ?_
  rintro e w' ⟨rfl,rfl⟩
  rw [HM.out]
  by_cases h0:m=0
  ·have HF:Hid (parse l p=(0,0,2)):=by have:=HE.out; rw [if_pos h0] at this; exact this
   subst h0
   go_wp2
   go_ret3
   exact ⟨by unfold parseOut; rw [HF.out]; rfl,rfl⟩
  ·have hb:((m:Int) == 0)=false:=by simp [h0]
   have HE2:Hid (parse l p=if pad d=true then (0,0,3) else if maxField<val d then (0,0,4) else (val d,m,0)):=by have:=HE.out; rw [if_neg h0] at this; exact this
   clear HE
   go_wp2_with fail
   refine (padded_any _ _ _ _ _ H2.out).mono ?_
   rintro e w' ⟨rfl,rfl⟩
   by_cases hpd:pad d=true
   ·have HF:Hid (parse l p=(0,0,3)):=by have:=HE2.out; rw [if_pos hpd] at this; exact this
    rw [hpd]
    go_wp2
    go_ret3
    exact ⟨by unfold parseOut; rw [HF.out]; rfl,rfl⟩
   ·have HE3:Hid (parse l p=if maxField<val d then (0,0,4) else (val d,m,0)):=by have:=HE2.out; rw [if_neg hpd] at this; exact this
    rw [show pad d=false from by simpa using hpd]
    clear hpd HE2
    go_wp2_with fail
    refine (number_any _ _ _ _ _ H2.out HAD.out).mono ?_
    rintro e w' ⟨rfl,rfl⟩
    by_cases hv:val d≤maxField
    ·have HF:Hid (parse l p=(val d,m,0)):=by have:=HE3.out; rw [if_neg (by omega)] at this; exact this
     rw [numOut_yes hv]
     have HV:=Lib.hid hv; clear hv
     go_wp2
     go_ret3
     exact ⟨by unfold parseOut; rw [HF.out]; rfl,rfl⟩
    ·have HF:Hid (parse l p=(0,0,4)):=by have:=HE3.out; rw [if_pos (by omega)] at this; exact this
     rw [numOut_no hv]
     have HV:=Lib.hid hv; clear hv
     go_wp2
     go_ret3
     exact ⟨by unfold parseOut; rw [HF.out]; rfl,rfl⟩

theorem parse_any (A:Option Addr) (n c:Nat) (l:List UInt8) (p:Int) (w:World) (h:Row w A n l) (hc:n≤c) :
  Calls Tryz.prog 192 #[.slice A n c,.int .i64 p] w fun e w'=>e=.returned (parseOut l p)∧w=w':=by
 by_cases ho:p<0∨(n:Int)<p
 ·exact parse_out A n c l p w h ho
 ·obtain ⟨k,rfl⟩:=Int.eq_ofNat_of_zero_le (show 0≤p by omega)
  exact parse_in A n c l k w h hc (by omega)
end Go.Proofs.YtgfbflnhjpbceaaGreatDoor.Num
namespace Go.Proofs.YtgfbflnhjpbceaaGreatDoor.Ident
open Go.RowKit Num

theorem same_any (A:Option Addr) (a ca:Nat) (xs:List (List UInt8)) (B:Option Addr) (b cb:Nat) (ys:List (List UInt8)) (w:World) (hA:SRow w A a xs) (hB:SRow w B b ys) (ha:a≤maxLen) (hb:b≤maxLen) :
  Calls Tryz.prog 65 #[.slice A a ca,.slice B b cb] w fun e w'=>e=.returned (.bool (sameB xs ys))∧Below w.heap.size w w':=by
 unfold maxLen at ha hb
 have HA:=Lib.hid hA
 have HB:=Lib.hid hB
 have HLA:=Lib.hid hA.1
 have HLB:=Lib.hid hB.1
 clear hA hB
 by_cases hab:a=b
 ·subst hab
  go_enter Tryz.func65,Tryz.ntmps65
  go_wp2
  go_loopw [5] (fun i W=>∃ k:Nat,k≤a∧i=.int .i64 k∧Hid (∀ j,j<k→xs.getD j []=ys.getD j [])∧Hid (Below w.heap.size w W)) (fun i _=>a - (intOf i).toNat)
  case atStart=>exact ⟨0,Nat.zero_le _,rfl,(fun j hj=>by omega),Below.refl _ _⟩
  case round =>
   obtain ⟨k,hk,rfl,HD,HW⟩:=hrel
   by_cases hlt:k<a
   ·obtain ⟨g1,o1,rfl,hg1,hc1⟩:=(HA.out.kept HW.out).2 (by omega)
    obtain ⟨g2,o2,rfl,hg2,hc2⟩:=(HB.out.kept HW.out).2 (by omega)
    have hx1:=hc1 k hlt
    have hx2:=hc2 k hlt
    clear hc1 hc2
    obtain ⟨s,hs⟩:∃ s,mk (xs.getD k [])=s:=⟨_,rfl⟩
    obtain ⟨t,ht⟩:∃ t,mk (ys.getD k [])=t:=⟨_,rfl⟩
    have HS:Hid (s=t→xs.getD k []=ys.getD k []):=fun h=>by rw [← hs,← ht] at h; have:=congrArg (fun z:ByteArray=>z.data.toList) h; exact this
    have HS2:Hid (s≠t→xs≠ys):=fun h h2=>h (by rw [← hs,← ht,h2])
    rw [hs] at hx1
    rw [ht] at hx2
    clear hs ht
    by_cases hst:s=t
    ·have HS3:=Lib.hid (HS.out hst)
     subst hst
     have hq:(s.toList == s.toList)=true:=by simp
     have hq2:(s.toList != s.toList)=false:=by simp
     go_wp2
     go_still (by kernel_rfl)
     have HW2:=Lib.hid HW.out.drew
     go_wp2
     refine ⟨⟨k+1,by omega,by go_num,(fun j hj=>?_),HW2.out⟩,by simp [intOf]; omega⟩
     rcases Nat.lt_or_ge j k with hj1 | hj1
     ·exact HD.out j hj1
     ·obtain rfl:j=k:=by omega
      exact HS3.out
    ·have HS3:=Lib.hid (HS2.out hst)
     have hq:(s.toList == t.toList)=false:=by
      rw [Lib.toList_data,Lib.toList_data,beq_eq_false_iff_ne]
      exact fun h=>hst (by have:=congrArg mk h; exact this)
     have hq2:(s.toList != t.toList)=true:=by rw [bne,hq]; rfl
     clear hst
     go_wp2
     go_still (by kernel_rfl)
     have HW2:=Lib.hid HW.out.drew
     go_wp2
     go_ret
     exact ⟨by rw [sameB_no HS3.out]; rfl,HW2.out⟩
   ·have HF:Hid (sameB xs ys=true):=(sameB_iff xs ys).2 (List.ext_getElem (by rw [HLA.out,HLB.out]) fun j h1 h2=>by
     have:=HD.out j (by rw [HLA.out] at h1; omega)
     simpa [List.getD,List.getElem?_eq_getElem h1,List.getElem?_eq_getElem h2] using this)
    go_wp2
    go_ret
    exact ⟨by rw [HF.out]; rfl,HW.out⟩
 ·have HF:Hid (sameB xs ys=false):=sameB_no fun h=>hab (by rw [← HLA.out,← HLB.out,h])
  have hq:((a:Int) == (b:Int))=false:=by simp; omega
  have hq2:((a:Int) != (b:Int))=true:=by simp; omega
  go_enter Tryz.func65,Tryz.ntmps65
  go_wp2
  go_ret
  exact ⟨by rw [HF.out]; rfl,Below.refl _ _⟩
end Go.Proofs.YtgfbflnhjpbceaaGreatDoor.Ident
namespace Go.Proofs.YtgfbflnhjpbceaaGreatDoor.Came
open Go.ChangeShapes Go.WideShapes Go.RowKit


theorem texts_at {H:Type} {enc:TypeId × Value→H} {W:World} {fuel:Nat} {cs:List Value} {y:DataW H × List MemPlace}
  (hf:DataW.trod enc Tryz.prog W 0 (fun _=>true) true fuel 23 cs=some y) :
  ∃ (a:Option Addr) (len cap:Nat) (xs:List (List UInt8)),cs=[.slice a len cap]∧Ident.SRow W a len xs∧len≤cap∧cap≤maxLen∧(a=none→cap=0)∧∀ x ∈ xs,x.length≤maxLen:=by
 rcases open_strings Tryz.underlying23 Tryz.underlying9 (by kernel_rfl) hf with ⟨hcs,_⟩ | ⟨x,len,cap,ss,hcs,_,hl,hm,hz,_,hcell,hsz⟩
 ·exact ⟨none,0,0,[],hcs,Ident.SRow.none_ _ _,Nat.le_refl _,by unfold maxLen; omega,fun _=>rfl,fun x hx=>by cases hx⟩
 ·have hz:ss.length=cap:=by simpa using hz
  refine ⟨some x,len,cap,(ss.take len).map fun s=>s.data.toList,hcs,⟨by simp; omega,fun h0=>?_⟩,hl,hm,(fun e=>by cases e),fun y hy=>?_⟩
  ·obtain ⟨b,o,spot⟩:=x
   have h0c:=hcell 0 (by omega)
   have hspot:spot=none:=by simpa [Addr.add] using World.cell?_spot h0c
   subst hspot
   refine ⟨b,o,rfl,?_,fun j hj=>?_⟩
   ·have:=World.block_lt_of_cell? W _ h0c
    rwa [Num.add_none] at this
   ·have hj2:j<ss.length:=by omega
    have e:=hcell j hj2
    rw [Num.add_none] at e
    rw [e]
    simp [hj,List.getElem?_eq_getElem hj2,Ident.mk]
  ·simp only [List.mem_map] at hy
   obtain ⟨s,hs,rfl⟩:=hy
   rw [← Lib.size_eq]
   exact hsz s (List.mem_of_mem_take hs)
end Go.Proofs.YtgfbflnhjpbceaaGreatDoor.Came
namespace Go.Proofs.YtgfbflnhjpbceaaGreatDoor.Ident
open Num

def isLet (b:UInt8):Bool:=decide ((65≤b.toNat∧b.toNat≤90)∨(97≤b.toNat∧b.toNat≤122))
def isId (b:UInt8):Bool:=isDig b || isLet b || decide (b.toNat=45)
def lead:List UInt8→Nat
 | []=>0
 | b :: r=>if isId b then lead r+1 else 0

theorem isLet_iff (b:UInt8):isLet b=true↔(65≤b.toNat∧b.toNat≤90)∨(97≤b.toNat∧b.toNat≤122):=by simp [isLet]

theorem lead_le (l:List UInt8):lead l≤l.length:=by
 induction l with
 | nil=>simp [lead]
 | cons b r ih=>simp only [lead,List.length_cons]; split <;> omega

theorem lead_skip (l:List UInt8) (k:Nat) (hk:k≤l.length) (h:∀ j,j<k→isId (l.getD j 0)=true):lead l=k+lead (l.drop k):=by
 induction k generalizing l with
 | zero=>simp
 | succ k ih =>
  cases l with
  | nil=>simp at hk
  | cons b r =>
   have h0:isId b=true:=by simpa using h 0 (by omega)
   have:=ih r (by simpa using hk) (fun j hj=>by simpa using h (j+1) (by omega))
   simp only [lead,h0,if_true,List.drop_succ_cons]; omega

theorem drop_getD (l:List UInt8) (k:Nat) (h:k<l.length):l.drop k=l.getD k 0 :: l.drop (k+1):=by
 rw [List.drop_eq_getElem_cons h]; simp [List.getD,List.getElem?_eq_getElem h]

theorem lead_stop (l:List UInt8) (k:Nat) (hk:k≤l.length) (h:∀ j,j<k→isId (l.getD j 0)=true) (he:k=l.length∨isId (l.getD k 0)=false):lead l=k:=by
 rw [lead_skip l k hk h]
 rcases he with he | he
 ·subst he; simp [lead]
 ·rcases Nat.lt_or_ge k l.length with hlt | hge
  ·rw [drop_getD l k hlt,lead,he]; simp
  ·rw [List.drop_eq_nil_of_le hge]; simp [lead]

theorem lead_full {l:List UInt8}:lead l=l.length↔∀ b ∈ l,isId b=true:=by
 induction l with
 | nil=>simp [lead]
 | cons b r ih =>
  rw [lead]
  by_cases hb:isId b=true
  ·simp [hb,← ih]
  ·have:=lead_le r
   simp [hb]

def numeric (l:List UInt8):Bool:=decide (0<l.length∧run l=l.length)
theorem numeric_iff (l:List UInt8):numeric l=true↔0<l.length∧run l=l.length:=by simp [numeric]
theorem numeric_no (l:List UInt8):numeric l=false↔¬ (0<l.length∧run l=l.length):=by
 rw [← numeric_iff]; cases numeric l <;> simp

def fault (s:List UInt8) (i:Nat) (pre:Bool):Nat :=
 if s.length=0 then 5 else if 255<s.length∨16≤i then 4 else if pre=true∧numeric s=true∧isNum s=false then 3 else 0
theorem fault_pos {s:List UInt8} {i:Nat} {pre:Bool} (h:fault s i pre=0):0<s.length∧s.length≤255∧i<16:=by
 unfold fault at h
 split at h
 ·omega
 ·split at h
  ·omega
  ·rename_i h1 h2; omega

abbrev Res:=Nat × Nat × List (List UInt8)
def shut (pre:Bool) (w:List UInt8) (acc:List (List UInt8)) (n:Nat):Res :=
 if fault w acc.length pre=0 then (0,n,acc ++ [w]) else (fault w acc.length pre,0,[])
def go (pre:Bool):List UInt8→List UInt8→List (List UInt8)→Nat→Res
 | [],w,acc,n=>shut pre w acc n
 | b :: r,w,acc,n =>
  if isId b then go pre r (w ++ [b]) acc (n+1)
  else if b.toNat=46 then (if fault w acc.length pre=0 then go pre r [] (acc ++ [w]) (n+1) else (fault w acc.length pre,0,[]))
  else shut pre w acc n
def row (l:List UInt8) (p:Int) (pre:Bool):Res:=if p<0∨(l.length:Int)<p then (1,0,[]) else go pre (l.drop p.toNat) [] [] 0

theorem point_no:isId 46=false:=by decide
theorem go_id {pre:Bool} {b:UInt8} {r w:List UInt8} {acc:List (List UInt8)} {n:Nat} (h:isId b=true):go pre (b :: r) w acc n=go pre r (w ++ [b]) acc (n+1):=by
 rw [go,if_pos h]
theorem go_bad {pre:Bool} {b:UInt8} {r w:List UInt8} {acc:List (List UInt8)} {n:Nat} (h:isId b=false) (hf:fault w acc.length pre≠0):go pre (b :: r) w acc n=(fault w acc.length pre,0,[]):=by
 rw [go,h]
 unfold shut
 simp [hf]
theorem go_point {pre:Bool} {b:UInt8} {r w:List UInt8} {acc:List (List UInt8)} {n:Nat} (hb:b.toNat=46) (hf:fault w acc.length pre=0):go pre (b :: r) w acc n=go pre r [] (acc ++ [w]) (n+1):=by
 have e:b=46:=UInt8.toNat_inj.1 hb
 subst e
 rw [go,point_no]
 simp [hf]
theorem go_else {pre:Bool} {b:UInt8} {r w:List UInt8} {acc:List (List UInt8)} {n:Nat} (h:isId b=false) (hb:b.toNat≠46):go pre (b :: r) w acc n=shut pre w acc n:=by
 rw [go,h]; simp [hb]
theorem go_lead (pre:Bool) (l w:List UInt8) (acc:List (List UInt8)) (n:Nat):go pre l w acc n=go pre (l.drop (lead l)) (w ++ l.take (lead l)) acc (n+lead l):=by
 induction l generalizing w n with
 | nil=>simp [lead]
 | cons b r ih =>
  by_cases hb:isId b=true
  ·rw [go_id hb,ih,lead,if_pos hb,List.drop_succ_cons,List.take_succ_cons,List.append_assoc,List.singleton_append]
   congr 1
   omega
  ·rw [lead,if_neg hb]; simp
theorem go_stop (pre:Bool) (l:List UInt8) (acc:List (List UInt8)) (n:Nat) (hf:fault (l.take (lead l)) acc.length pre≠0):go pre l [] acc n=(fault (l.take (lead l)) acc.length pre,0,[]):=by
 rw [go_lead,List.nil_append]
 rcases Nat.lt_or_ge (lead l) l.length with h | h
 ·rw [drop_getD l _ h]
  refine go_bad ?_ hf
  have h1:=lead_skip l (lead l) (Nat.le_of_lt h) (fun j hj=>?_)
  ·rw [drop_getD l _ h,lead] at h1
   split at h1
   ·omega
   ·rename_i h2; simpa using h2
  ·have:∀ (l:List UInt8) j,j<lead l→isId (l.getD j 0)=true:=by
    intro l
    induction l with
    | nil=>intro j hj; simp [lead] at hj
    | cons b r ih =>
     intro j hj
     rw [lead] at hj
     split at hj
     ·rename_i hb
      cases j with
      | zero=>simpa using hb
      | succ j=>simpa using ih j (by omega)
     ·omega
   exact this l j hj
 ·rw [List.drop_eq_nil_of_le h,go,shut,if_neg hf]

def numeral (l:List UInt8):List UInt8:=if (Lib.trimLeftB l 48).length=0 then [48] else Lib.trimLeftB l 48

theorem trim_val (l:List UInt8):val (Lib.trimLeftB l 48)=val l:=by
 unfold Lib.trimLeftB
 induction l with
 | nil=>rfl
 | cons b r ih =>
  rw [List.dropWhile_cons]
  split
  ·rename_i hb
   have e:b=48:=by simpa using hb
   rw [ih,val_cons,e]; simp
  ·rfl
theorem trim_dig {l:List UInt8} (h:AllDig l):AllDig (Lib.trimLeftB l 48):=by
 intro b hb
 exact h b ((List.dropWhile_sublist _).subset hb)
theorem trim_pad (l:List UInt8):pad (Lib.trimLeftB l 48)=false:=by
 rw [pad_no]
 rintro ⟨h1,h2⟩
 unfold Lib.trimLeftB at h1 h2
 induction l with
 | nil=>simp at h1
 | cons b r ih =>
  rw [List.dropWhile_cons] at h1 h2
  split at h1
  ·rename_i hb
   rw [if_pos hb] at h2
   exact ih h1 h2
  ·rename_i hb
   rw [if_neg hb] at h2
   have:b.toNat=(48:UInt8).toNat:=by simpa using h2
   exact hb (by simp [UInt8.toNat_inj.1 this])
theorem numeral_num {l:List UInt8} (h:AllDig l):isNum (numeral l)=true:=by
 unfold numeral
 split
 ·decide
 ·rename_i h0
  rw [isNum_iff]
  exact ⟨by omega,run_all (trim_dig h),trim_pad l⟩
theorem numeral_val (l:List UInt8):val (numeral l)=val l:=by
 unfold numeral
 split
 ·rename_i h0
  have e:=List.eq_nil_of_length_eq_zero h0
  have:=trim_val l
  rw [e] at this
  rw [← this]; decide
 ·exact trim_val l

def cmpId (a b:List UInt8):Int :=
 if numeric a=true then
  if numeric b=true then (if ordN (val a) (val b)=0 then ordN a.length b.length else ordN (val a) (val b))
  else -1
 else if numeric b=true then 1 else Lib.compareBytes a b

theorem cmp_bytes_trans:∀ (a b c:List UInt8),Lib.compareBytes a b≤0→Lib.compareBytes b c≤0→Lib.compareBytes a c≤0:=by
 intro a
 induction a with
 | nil=>intro b c _ _; cases c <;> simp [Lib.compareBytes]
 | cons x a ih =>
  intro b c h1 h2
  cases b with
  | nil=>simp [Lib.compareBytes] at h1
  | cons y b =>
   cases c with
   | nil=>simp [Lib.compareBytes] at h2
   | cons z c =>
    unfold Lib.compareBytes at h1 h2 ⊢
    simp only [UInt8.lt_iff_toNat_lt] at h1 h2 ⊢
    by_cases hxy:x.toNat<y.toNat
    ·by_cases hyz:y.toNat<z.toNat
     ·rw [if_pos (by omega)]; omega
     ·by_cases hzy:z.toNat<y.toNat
      ·rw [if_neg hyz,if_pos hzy] at h2; omega
      ·rw [if_pos (by omega)]; omega
    ·by_cases hyx:y.toNat<x.toNat
     ·rw [if_neg hxy,if_pos hyx] at h1; omega
     ·rw [if_neg hxy,if_neg hyx] at h1
      by_cases hyz:y.toNat<z.toNat
      ·rw [if_pos (by omega)]; omega
      ·by_cases hzy:z.toNat<y.toNat
       ·rw [if_neg hyz,if_pos hzy] at h2; omega
       ·rw [if_neg hyz,if_neg hzy] at h2
        rw [if_neg (by omega),if_neg (by omega)]
        exact ih b c h1 h2
theorem cmp_bytes_self (a:List UInt8):Lib.compareBytes a a=0:=by
 induction a with
 | nil=>rfl
 | cons x a ih=>unfold Lib.compareBytes; simp [UInt8.lt_irrefl,ih]

theorem ordN_cases (x y:Nat):(x<y∧ordN x y=-1)∨(x=y∧ordN x y=0)∨(y<x∧ordN x y=1):=by
 rcases Nat.lt_trichotomy x y with h | h | h
 ·exact .inl ⟨h,ordN_lt h⟩
 ·exact .inr (.inl ⟨h,ordN_eq h⟩)
 ·exact .inr (.inr ⟨h,ordN_gt h⟩)

theorem cmpId_self (a:List UInt8):cmpId a a=0:=by
 unfold cmpId
 split
 ·rw [ordN_eq rfl,if_pos rfl,ordN_eq rfl]
 ·exact cmp_bytes_self a

theorem cmpId_trans (a b c:List UInt8) (h1:cmpId a b≤0) (h2:cmpId b c≤0):cmpId a c≤0:=by
 unfold cmpId at h1 h2 ⊢
 by_cases ha:numeric a=true
 ·by_cases hc:numeric c=true
  ·by_cases hb:numeric b=true
   ·rw [if_pos ha,if_pos hb] at h1
    rw [if_pos hb,if_pos hc] at h2
    rw [if_pos ha,if_pos hc]
    rcases ordN_cases (val a) (val b) with ⟨e1,e2⟩ | ⟨e1,e2⟩ | ⟨e1,e2⟩ <;>
    rcases ordN_cases (val b) (val c) with ⟨g1,g2⟩ | ⟨g1,g2⟩ | ⟨g1,g2⟩ <;>
    rcases ordN_cases (val a) (val c) with ⟨k1,k2⟩ | ⟨k1,k2⟩ | ⟨k1,k2⟩ <;>
    rcases ordN_cases a.length b.length with ⟨e3,e4⟩ | ⟨e3,e4⟩ | ⟨e3,e4⟩ <;>
    rcases ordN_cases b.length c.length with ⟨g3,g4⟩ | ⟨g3,g4⟩ | ⟨g3,g4⟩ <;>
    rcases ordN_cases a.length c.length with ⟨k3,k4⟩ | ⟨k3,k4⟩ | ⟨k3,k4⟩ <;>
    simp [e2,e4] at h1 <;> simp [g2,g4] at h2 <;> simp [k2,k4] <;> omega
   ·rw [if_neg hb,if_pos hc] at h2; omega
  ·rw [if_pos ha,if_neg hc]; omega
 ·by_cases hb:numeric b=true
  ·rw [if_neg ha,if_pos hb] at h1; omega
  ·rw [if_neg ha,if_neg hb] at h1
   by_cases hc:numeric c=true
   ·rw [if_neg hb,if_pos hc] at h2; omega
   ·rw [if_neg hb,if_neg hc] at h2
    rw [if_neg ha,if_neg hc]
    exact cmp_bytes_trans a b c h1 h2

def cmpRows:List (List UInt8)→List (List UInt8)→Int
 | a :: r,b :: s=>if cmpId a b=0 then cmpRows r s else cmpId a b
 | r,s=>ordN r.length s.length
theorem cmpRows_nil (s:List (List UInt8)):cmpRows [] s=ordN 0 s.length:=by unfold cmpRows; rfl
theorem cmpRows_nil' (r:List (List UInt8)):cmpRows r []=ordN r.length 0:=by cases r <;> simp [cmpRows]
theorem cmpRows_same {a b:List UInt8} {r s:List (List UInt8)} (h:cmpId a b=0):cmpRows (a :: r) (b :: s)=cmpRows r s:=by rw [cmpRows,if_pos h]
theorem cmpRows_diff {a b:List UInt8} {r s:List (List UInt8)} (h:cmpId a b≠0):cmpRows (a :: r) (b :: s)=cmpId a b:=by rw [cmpRows,if_neg h]

/-! How long a row is. -/
theorem shut_end {pre:Bool} {w:List UInt8} {acc:List (List UInt8)} {n:Nat}:(shut pre w acc n).2.1≤n:=by
 unfold shut; split <;> simp
theorem go_end_le (pre:Bool) (l w:List UInt8) (acc:List (List UInt8)) (n:Nat):(go pre l w acc n).2.1≤n+l.length:=by
 induction l generalizing w acc n with
 | nil=>rw [go]; exact Nat.le_trans shut_end (by simp)
 | cons b r ih =>
  rw [go,List.length_cons]
  split
  ·exact Nat.le_trans (ih _ _ _) (by omega)
  ·split
   ·split
    ·exact Nat.le_trans (ih _ _ _) (by omega)
    ·simp
   ·exact Nat.le_trans shut_end (by omega)
theorem row_end (l:List UInt8) (p:Nat) (pre:Bool) (hp:p≤l.length):p+(row l p pre).2.1≤l.length:=by
 unfold row
 rw [if_neg (by omega),Int.toNat_natCast]
 have:=go_end_le pre (l.drop p) [] [] 0
 rw [List.length_drop] at this; omega
theorem row_place (a b:List UInt8) (p:Nat) (pre:Bool) (hp:p≤b.length):row (a ++ b) ((a.length+p:Nat):Int) pre=row b p pre:=by
 have h1:¬ (((a.length+p:Nat):Int)<0∨((a ++ b).length:Int)<((a.length+p:Nat):Int)):=by simp only [List.length_append]; omega
 have h2:¬ ((p:Int)<0∨(b.length:Int)<(p:Int)):=by omega
 have h3:(a ++ b).drop (a.length+p)=b.drop p:=by
  rw [List.drop_append,List.drop_eq_nil_of_le (by omega),show a.length+p - a.length=p by omega]; rfl
 unfold row
 rw [if_neg h1,if_neg h2,Int.toNat_natCast,Int.toNat_natCast,h3]

def shortB (xs:List (List UInt8)):Bool:=decide (xs.length≤40∧∀ x ∈ xs,x.length≤300)
theorem shortB_iff (xs:List (List UInt8)):shortB xs=true↔xs.length≤40∧∀ x ∈ xs,x.length≤300:=by simp [shortB]
end Go.Proofs.YtgfbflnhjpbceaaGreatDoor.Ident
