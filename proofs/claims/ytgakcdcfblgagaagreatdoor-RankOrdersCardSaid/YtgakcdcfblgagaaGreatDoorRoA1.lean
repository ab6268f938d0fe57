/-
  What the theorem of the last text needs of these: Tk, NumMath, SvEq, PrEq, NumMem, NumOrder, NaMath, NumDigits, NumBytes. Conditions: as each theorem states.
-/
import Derived.Deep.QuietTactic
import Derived.Deep.RegionHeld3
import Derived.OrdersHeld
import Derived.ProofKit
import Derived.Test.YtgakcdcfblgagaaGreatDoorProg
import Derived.WalkKit
import Derived.Test.YtgakcdcfblgagaaGreatDoorChecked
import Derived.ChangeKeysEq
import Derived.Laws.StructEq
import Derived.WalkMore
import Derived.ScopeJumps
import Derived.Outline
import Derived.IntWalk
import Derived.Lib.Hide
import Derived.WalkLawsBesides
import Derived.Lib.SlBytesConst
import Derived.Lib.Strings
import Derived.Maps.AppendAt
import Derived.OwnWalk
import Derived.Laws.AppendOwnNone
import Derived.ArgAppend
import Derived.Lib.ConvBytes
import Derived.Lib.Bytealg
import Derived.WalkSpells
set_option maxRecDepth 100000
set_option maxHeartbeats 25600000
namespace Go.Proofs.YtgakcdcfblgagaaGreatDoor
open Go.RowKit
/-- The i-th of some operations. -/
def nth:List Oper→Nat→Option Oper
  | [],_=>none
  | o :: _,0=>some o
  | _ :: l,i+1=>nth l i
theorem nth_get:∀ (l:List Oper) (i:Nat),nth l i=l[i]?
  | [],_=>by simp [nth]
  | o :: l,0=>by simp [nth]
  | o :: l,i+1=>by simp [nth,nth_get l i]
theorem nth_ops {ops:Array Oper} {i:Nat} {o:Oper} (h:nth ops.toList i=some o):ops[i]?=some o:=by
  rw [nth_get,Array.getElem?_toList] at h; exact h
theorem p1 {α:Type} (l:List α) (i:Nat) (x:α):l.toArray.setIfInBounds i x=(l.set i x).toArray:=by simp
theorem p2 {α:Type} (y:α) (l:List α) (x:α):(y :: l).set 0 x=x :: l:=List.set_cons_zero
theorem p3 {α:Type} (y:α) (l:List α) (i:Nat) (x:α):(y :: l).set (i+1) x=y :: l.set i x:=List.set_cons_succ
section
variable {P:Program} {ops:Array Oper} {Q:Exit→Act→World→Prop} {S:World→Prop} {md:Region.Mode} {fuel:Nat} {listed:Array Bool} {a a':Act} {w:World} {oi:Oper}
/-- Take number i first. -/
theorem tk (i : Nat) (hi : nth ops.toList i = some oi) (v : Value) (h : wpAnyH P md ops Q S fuel (listed.setIfInBounds i true) a' w)
    (hv:∀ w',S w'→(execOp a.eval oi).run P w'=.ok (.value v) w':=by intro w' hS'; go_simp)
    (hw:Region.wanted oi (yielded ops a.tmps)=true:=by rfl)
    (ha:a.put oi.dst v=a':=by simp only [Act.put,p1,p2,p3]; exact rfl)
    (hs:Region.noSelect ops=true:=by kernel_rfl) (hf:Region.free md ops listed i=true:=by kernel_rfl) (hr:(Region.ready md ops listed).contains i=true:=by kernel_rfl)
    (hQ:∀ c a w,Q (.panic c) (a.put oi.dst v) w→Q (.panic c) a w:=by exact fun _ _ _ h=>h) (hS:S w:=by assumption):wpAnyH P md ops Q S (fuel+1) listed a w :=
  wpAnyH_take (nth_ops hi) hs hf hr hQ (.inl ⟨hw,hv⟩) hS (ha ▸ h)
/-- Number i isn't wanted. -/
theorem sk (i : Nat) (hi : nth ops.toList i = some oi) (h : wpAnyH P md ops Q S fuel (listed.setIfInBounds i true) a' w)
    (hw:Region.wanted oi (yielded ops a.tmps)=false:=by rfl)
    (ha:a.put oi.dst undef=a':=by simp only [Act.put,p1,p2,p3]; exact rfl)
    (hs:Region.noSelect ops=true:=by kernel_rfl) (hf:Region.free md ops listed i=true:=by kernel_rfl) (hr:(Region.ready md ops listed).contains i=true:=by kernel_rfl)
    (hQ:∀ c a w,Q (.panic c) (a.put oi.dst undef) w→Q (.panic c) a w:=by exact fun _ _ _ h=>h) (hS:S w:=by assumption):wpAnyH P md ops Q S (fuel+1) listed a w :=
  wpAnyH_take (nth_ops hi) hs hf hr hQ (.inr ⟨hw,rfl⟩) hS (ha ▸ h)
/-- Number i is carried out: it alone may come up. -/
theorem cl (i : Nat) (hi : nth ops.toList i = some oi)
    (h:∀ K:Act→World→Prop,Shut (∀ a w,S w→(S w→wpAnyH P md ops Q S fuel (listed.setIfInBounds i true) a w)→K a w)→if Region.wanted oi (yielded ops a.tmps)=true then Oper.wp P oi a w K Q else K (a.put oi.dst undef) w)
    (hr:Region.ready md ops listed=[i]:=by kernel_rfl):wpAnyH P md ops Q S (fuel+1) listed a w :=
  wpAnyH_ready hr (List.cons_ne_nil _ _) (AllReadyH.cons (nth_ops hi) h AllReadyH.nil)
end
instance:Coe Nat Value:=⟨fun n=>.int .u64 n⟩
instance:Coe Int Value:=⟨fun n=>.int .i64 n⟩
instance:CoeDep Bool true Obj:=⟨.cells #[.int .i64 0,.int .u64 0,.int .u64 0,.int .u64 0,.slice none 0 0,.slice none 0 0] 193⟩
instance:CoeDep Bool false Obj:=⟨.cells #[.int .u64 0,.int .u64 0,.int .u64 0,.slice none 0 0,.slice none 0 0] 37⟩
end Go.Proofs.YtgakcdcfblgagaaGreatDoor
namespace Go.Proofs.YtgakcdcfblgagaaGreatDoor.Num

def isDig (b:UInt8):Bool:=decide (48≤b.toNat∧b.toNat≤57)
def run:List UInt8→Nat
 | []=>0
 | b :: r=>if isDig b then run r+1 else 0
def valFrom (v:Nat) (l:List UInt8):Nat:=l.foldl (fun v b=>10 * v+(b.toNat - 48)) v
theorem valFrom_nil (v:Nat):valFrom v []=v:=rfl
theorem valFrom_cons (v:Nat) (b:UInt8) (r:List UInt8):valFrom v (b :: r)=valFrom (10 * v+(b.toNat - 48)) r:=by
 unfold valFrom; rw [List.foldl_cons]
def val (l:List UInt8):Nat:=valFrom 0 l
def maxField:Nat:=9223372036854775807
theorem isDig_iff (b:UInt8):isDig b=true↔48≤b.toNat∧b.toNat≤57:=by simp [isDig]
theorem run_skip (l:List UInt8) (k:Nat) (hk:k≤l.length) (h:∀ j,j<k→isDig (l.getD j 0)=true):run l=k+run (l.drop k):=by
 induction k generalizing l with
 | zero=>simp
 | succ k ih =>
  cases l with
  | nil=>simp at hk
  | cons b r =>
   have h0:isDig b=true:=by simpa using h 0 (by omega)
   have:=ih r (by simpa using hk) (fun j hj=>by simpa using h (j+1) (by omega))
   simp only [run,h0,if_true,List.drop_succ_cons]; omega
theorem run_stop (l:List UInt8) (k:Nat) (hk:k≤l.length) (h:∀ j,j<k→isDig (l.getD j 0)=true) (he:k=l.length∨isDig (l.getD k 0)=false):run l=k:=by
 rw [run_skip l k hk h]
 rcases he with he | he
 ·subst he; simp [run]
 ·rcases Nat.lt_or_ge k l.length with hlt | hge
  ·have e:l.drop k=l.getD k 0 :: l.drop (k+1):=by
    rw [List.drop_eq_getElem_cons hlt]; simp [List.getD,List.getElem?_eq_getElem hlt]
   rw [e,run,he]; simp
  ·rw [List.drop_eq_nil_of_le hge]; simp [run]
theorem run_dig (l:List UInt8):∀ j,j<run l→isDig (l.getD j 0)=true:=by
 induction l with
 | nil=>intro j hj; simp [run] at hj
 | cons b r ih =>
  intro j hj
  rw [run] at hj
  split at hj
  ·rename_i hb
   cases j with
   | zero=>simpa using hb
   | succ j=>simpa using ih j (by omega)
  ·omega
def AllDig (l:List UInt8):Prop:=∀ b ∈ l,isDig b=true
theorem allDig_cons {b:UInt8} {r:List UInt8}:AllDig (b :: r)↔isDig b=true∧AllDig r:=by simp [AllDig]
theorem allDig_take_run (l:List UInt8):AllDig (l.take (run l)):=by
 induction l with
 | nil=>simp [AllDig]
 | cons b r ih =>
  rw [run]
  split
  ·rename_i hb; rw [List.take_succ_cons]; exact allDig_cons.2 ⟨hb,ih⟩
  ·simp [AllDig]
theorem run_all {l:List UInt8} (h:AllDig l):run l=l.length:=by
 induction l with
 | nil=>rfl
 | cons b r ih=>rw [allDig_cons] at h; simp [run,h.1,ih h.2]
theorem all_of_run {l:List UInt8} (h:run l=l.length):AllDig l:=by
 have:=allDig_take_run l; rwa [h,List.take_length] at this
theorem valFrom_append (v:Nat) (l r:List UInt8):valFrom v (l ++ r)=valFrom (valFrom v l) r:=by
 simp [valFrom]
theorem val_snoc (l:List UInt8) (b:UInt8):val (l ++ [b])=10 * val l+(b.toNat - 48):=by
 rw [val,valFrom_append]; rfl
theorem valFrom_eq (v:Nat) (l:List UInt8):valFrom v l=v * 10 ^ l.length+val l:=by
 induction l generalizing v with
 | nil=>simp [valFrom_nil,val]
 | cons b r ih =>
  have e1:val (b :: r)=(b.toNat - 48) * 10 ^ r.length+val r:=by
   rw [val,valFrom_cons,ih]; simp
  rw [valFrom_cons]
  have e2:10 * v * 10 ^ r.length=v * (10 ^ r.length * 10):=by rw [Nat.mul_comm 10 v,Nat.mul_assoc,Nat.mul_comm 10]
  rw [ih,e1,List.length_cons,Nat.pow_succ,Nat.add_mul,e2]
  omega
theorem val_cons (b:UInt8) (r:List UInt8):val (b :: r)=(b.toNat - 48) * 10 ^ r.length+val r:=by
 rw [val,valFrom_cons,valFrom_eq]; simp
theorem val_lt {l:List UInt8} (h:AllDig l):val l<10 ^ l.length:=by
 induction l with
 | nil=>simp [val,valFrom_nil]
 | cons b r ih =>
  rw [allDig_cons,isDig_iff] at h
  have h2:=ih h.2
  rw [val_cons,List.length_cons,Nat.pow_succ]
  have h3:b.toNat - 48≤9:=by omega
  have h4:(b.toNat - 48) * 10 ^ r.length≤9 * 10 ^ r.length:=Nat.mul_le_mul_right _ h3
  omega
theorem le_val {b:UInt8} {r:List UInt8} (h:49≤b.toNat):10 ^ r.length≤val (b :: r):=by
 rw [val_cons]
 have h4:1 * 10 ^ r.length≤(b.toNat - 48) * 10 ^ r.length:=Nat.mul_le_mul_right _ (by omega)
 omega
def pad (l:List UInt8):Bool:=decide (1<l.length∧(l.getD 0 0).toNat=48)
theorem pad_iff (l:List UInt8):pad l=true↔1<l.length∧(l.getD 0 0).toNat=48:=by simp [pad]
theorem pad_no (l:List UInt8):pad l=false↔¬ (1<l.length∧(l.getD 0 0).toNat=48):=by
 rw [← pad_iff]; cases pad l <;> simp
def parse (l:List UInt8) (p:Int):Nat × Nat × Nat :=
 if p<0∨(l.length:Int)<p then (0,0,1)
 else
  let r:=l.drop p.toNat
  let d:=r.take (run r)
  if d.length=0 then (0,0,2)
  else if pad d=true then (0,0,3)
  else if maxField<val d then (0,0,4)
  else (val d,d.length,0)
theorem parse_end (l:List UInt8) (p:Nat) (hp:p≤l.length):p+(parse l p).2.1≤l.length:=by
 have h1:((l.drop p).take (run (l.drop p))).length≤l.length - p:=by
  rw [List.length_take,List.length_drop]; omega
 unfold parse
 rw [if_neg (by omega),Int.toNat_natCast]
 simp only
 split
 ·simpa using hp
 ·split
  ·simpa using hp
  ·split
   ·simpa using hp
   ·simp only; omega
theorem parse_at (l:List UInt8) (p:Nat) (hp:p≤l.length) (d:List UInt8) (hd:(l.drop p).take (run (l.drop p))=d) :
  parse l p=if d.length=0 then (0,0,2) else if pad d=true then (0,0,3) else if maxField<val d then (0,0,4) else (val d,d.length,0):=by
 subst hd; unfold parse; rw [if_neg (by omega),Int.toNat_natCast]
end Go.Proofs.YtgakcdcfblgagaaGreatDoor.Num
namespace Go.Proofs.YtgakcdcfblgagaaGreatDoor.Semver
open Go.RowKit

theorem run_eq3 (n0 n1 n2 m0 m1 m2:Int) (w:World) :
  (Op.equalIn 10000 163 (.agg #[.int .u64 n0,.int .u64 n1,.int .u64 n2]) (.agg #[.int .u64 m0,.int .u64 m1,.int .u64 m2])).run Tryz.prog w=.ok (n0 == m0 && (n1 == m1 && n2 == m2)) w:=by
 obtain ⟨i,hi⟩:=Option.isSome_iff_exists.1 (show (Tryz.prog.info? 34).isSome=true by kernel_rfl)
 have hc:Tryz.prog.cellsOf 34=1:=by kernel_rfl
 have hp:Tryz.prog.plainKey 34=true:=by kernel_rfl
 have q0:=run_part_plain (P:=Tryz.prog) w hp (xs:=#[.int .u64 n0,.int .u64 n1,.int .u64 n2]) (off:=0) rfl
 have q1:=run_part_plain (P:=Tryz.prog) w hp (xs:=#[.int .u64 n0,.int .u64 n1,.int .u64 n2]) (off:=1) rfl
 have q2:=run_part_plain (P:=Tryz.prog) w hp (xs:=#[.int .u64 n0,.int .u64 n1,.int .u64 n2]) (off:=2) rfl
 have p0:=run_part_plain (P:=Tryz.prog) w hp (xs:=#[.int .u64 m0,.int .u64 m1,.int .u64 m2]) (off:=0) rfl
 have p1:=run_part_plain (P:=Tryz.prog) w hp (xs:=#[.int .u64 m0,.int .u64 m1,.int .u64 m2]) (off:=1) rfl
 have p2:=run_part_plain (P:=Tryz.prog) w hp (xs:=#[.int .u64 m0,.int .u64 m1,.int .u64 m2]) (off:=2) rfl
 have e:=fun a b:Int=>run_equalIn_int (P:=Tryz.prog) w 9998 34 .u64 .u64 a b Tryz.underlying34
 rw [run_equalIn_array w 9999 _ _ Tryz.underlying163 hi,hc,show List.range 3=[0,1,2] from rfl]
 simp only [Op.eqItems,Sem.run_bind,Nat.mul_one,q0,p0,Result.andThen_ok]
 cases h0:n0 == m0 <;> cases h1:n1 == m1 <;> cases h2:n2 == m2 <;> simp [q1,q2,p1,p2,e,h0,h1,h2]
end Go.Proofs.YtgakcdcfblgagaaGreatDoor.Semver
namespace Go.Proofs.YtgakcdcfblgagaaGreatDoor.Prec
open Go.RowKit

theorem run_eq3 (n0 n1 n2 m0 m1 m2:Int) (w:World) :
  (Op.equalIn 10000 250 (.agg #[.int .u64 n0,.int .u64 n1,.int .u64 n2]) (.agg #[.int .u64 m0,.int .u64 m1,.int .u64 m2])).run Tryz.prog w=.ok (n0 == m0 && (n1 == m1 && n2 == m2)) w:=by
 obtain ⟨i,hi⟩:=Option.isSome_iff_exists.1 (show (Tryz.prog.info? 34).isSome=true by kernel_rfl)
 have hc:Tryz.prog.cellsOf 34=1:=by kernel_rfl
 have hp:Tryz.prog.plainKey 34=true:=by kernel_rfl
 have q0:=run_part_plain (P:=Tryz.prog) w hp (xs:=#[.int .u64 n0,.int .u64 n1,.int .u64 n2]) (off:=0) rfl
 have q1:=run_part_plain (P:=Tryz.prog) w hp (xs:=#[.int .u64 n0,.int .u64 n1,.int .u64 n2]) (off:=1) rfl
 have q2:=run_part_plain (P:=Tryz.prog) w hp (xs:=#[.int .u64 n0,.int .u64 n1,.int .u64 n2]) (off:=2) rfl
 have p0:=run_part_plain (P:=Tryz.prog) w hp (xs:=#[.int .u64 m0,.int .u64 m1,.int .u64 m2]) (off:=0) rfl
 have p1:=run_part_plain (P:=Tryz.prog) w hp (xs:=#[.int .u64 m0,.int .u64 m1,.int .u64 m2]) (off:=1) rfl
 have p2:=run_part_plain (P:=Tryz.prog) w hp (xs:=#[.int .u64 m0,.int .u64 m1,.int .u64 m2]) (off:=2) rfl
 have e:=fun a b:Int=>run_equalIn_int (P:=Tryz.prog) w 9998 34 .u64 .u64 a b Tryz.underlying34
 rw [run_equalIn_array w 9999 _ _ Tryz.underlying250 hi,hc,show List.range 3=[0,1,2] from rfl]
 simp only [Op.eqItems,Sem.run_bind,Nat.mul_one,q0,p0,Result.andThen_ok]
 cases h0:n0 == m0 <;> cases h1:n1 == m1 <;> cases h2:n2 == m2 <;> simp [q1,q2,p1,p2,e,h0,h1,h2]
end Go.Proofs.YtgakcdcfblgagaaGreatDoor.Prec
namespace Go.Proofs.YtgakcdcfblgagaaGreatDoor.Num
open Go.RowKit

def byteAt (l:List UInt8) (j:Nat):Int:=((l.getD j 0).toNat:Int)
theorem byteAt_bd (l:List UInt8) (j:Nat):0≤byteAt l j∧byteAt l j≤255:=by
 have:=(l.getD j 0).toNat_lt; unfold byteAt; omega
theorem isDig_at (l:List UInt8) (j:Nat):isDig (l.getD j 0)=true↔48≤byteAt l j∧byteAt l j≤57:=by
 rw [isDig_iff]; unfold byteAt; omega

def Row (w:World) (A:Option Addr) (n:Nat) (l:List UInt8):Prop :=
 l.length=n∧n≤maxLen∧(0<n→∃ b o,A=some ⟨b,o,none⟩∧b<w.heap.size∧∀ j,j<n→w.cell? ⟨b,o+j,none⟩=some (.int .u8 (byteAt l j)))

theorem wp_scope_back {P:Program} {a:Act} {w:World} {Q:Exit→Act→World→Prop} {c rest:Code} (l:Nat) (J:Act→World→Prop) (μ:Act→World→Nat) (hf:findLabel c l=some (Code.skip.seq rest))
  (pass:∀ a w,J a w→rest.wp P (Exit.jump l (fun a' w'=>J a' w'∧μ a' w'<μ a w) Q) a w)
  (first:Hid (∀ a w,J a w→rest.wp P (Exit.jump l J Q) a w)→c.wp P (Exit.jump l J Q) a w):(Code.scope c).wp P Q a w :=
 wp_scope_jumps l J μ hf (first fun a w h=>wp_mono (pass a w h) (fun e _ _ hq=>by cases e <;> first | exact hq | exact ⟨hq.1,hq.2.1⟩)) (fun a w h=>wp_seq (wp_skip (pass a w h)))

theorem ret_int {k:IntKind} {a b:Int} (h:a=b):Ending.returned (.int k a)=.returned (.int k b):=by rw [h]

theorem Row.piece {w:World} {A A':Option Addr} {n:Nat} {l:List UInt8} (h:Row w A n l) (p m:Nat) (hp:p+m≤n)
  (hA:0<m→∀ b o,A=some ⟨b,o,none⟩→A'=some ⟨b,o+p,none⟩):Row w A' m ((l.drop p).take m):=by
 obtain ⟨hl,hm,hc⟩:=h
 refine ⟨by rw [List.length_take,List.length_drop]; omega,by omega,fun h0=>?_⟩
 obtain ⟨b,o,e,hb,hcell⟩:=hc (by omega)
 refine ⟨b,o+p,hA h0 b o e,hb,fun j hj=>?_⟩
 have e1:byteAt ((l.drop p).take m) j=byteAt l (p+j):=by
  unfold byteAt; simp [List.getD,hj]
 rw [e1,Nat.add_assoc]; exact hcell (p+j) (by omega)

theorem map_add (p:Nat) (A:Option Addr) (b o:Nat) (e:A=some ⟨b,o,none⟩):A.map (fun x=>x.add p)=some ⟨b,o+p,none⟩:=by
 subst e
 by_cases h:p=0
 ·subst h; simp [Addr.add]
 ·simp [Addr.add,h]


theorem size_alloc (w:World) (o:Obj):(w.alloc o).heap.size=w.heap.size+1:=by simp



def cells (l:List UInt8):List Value:=l.map fun b=>Value.int .u8 b.toNat

theorem add_none (b o j:Nat):(⟨b,o,none⟩:Addr).add j=⟨b,o+j,none⟩:=by
 by_cases h:j=0
 ·subst h; simp [Addr.add]
 ·simp [Addr.add,h]









structure BelowD (B:Nat) (w w':World):Prop extends Below B w w' where
 drawn:w.drawn≤w'.drawn
theorem BelowD.refl (B:Nat) (w:World):BelowD B w w:=⟨Below.refl B w,Nat.le_refl _⟩
theorem BelowD.trans {B:Nat} {a b c:World} (h:BelowD B a b) (k:BelowD B b c):BelowD B a c:=⟨h.toBelow.trans k.toBelow,Nat.le_trans h.drawn k.drawn⟩
theorem BelowD.mono {B B':Nat} {w w':World} (h:BelowD B w w') (hB:B'≤B):BelowD B' w w':=⟨h.toBelow.mono hB,h.drawn⟩
theorem BelowD.drew {B:Nat} {a w:World} (h:BelowD B a w):BelowD B a w.drew:=⟨h.toBelow.drew,Nat.le_trans h.drawn (Nat.le_succ _)⟩
theorem BelowD.alloc {B:Nat} {a w:World} (h:BelowD B a w) (hB:B≤w.heap.size) (o:Obj):BelowD B a (w.alloc o):=⟨h.toBelow.alloc hB o,h.drawn⟩
theorem dropD {P:Program} {f:FuncId} {args:Array Value} {w:World} {B:Nat} {R:Ending→Prop} (h:Calls P f args w fun e w'=>R e∧BelowD B w w'):Calls P f args w fun e w'=>R e∧Below B w w' :=
 h.mono fun _ _ k=>⟨k.1,k.2.toBelow⟩
theorem at_text (t:ByteArray) (k:Nat) (h:k<t.size):(t[k].toNat:Int)=byteAt t.data.toList k:=by
 have h2:k<t.data.toList.length:=by rw [← Lib.size_eq]; exact h
 unfold byteAt
 rw [List.getD,List.getElem?_eq_getElem h2]
 rfl
end Go.Proofs.YtgakcdcfblgagaaGreatDoor.Num
namespace Go.Proofs.YtgakcdcfblgagaaGreatDoor.Num

theorem less_val:∀ (x y:List UInt8),AllDig x→AllDig y→x.length=y.length→(Op.bytesLess x y=true↔val x<val y):=by
 intro x
 induction x with
 | nil =>
  intro y _ _ h
  have:y=[]:=List.eq_nil_of_length_eq_zero (by simpa using h.symm)
  subst this
  simp [Op.bytesLess]
 | cons a x ih =>
  intro y hx hy h
  cases y with
  | nil=>simp at h
  | cons b y =>
   rw [allDig_cons] at hx hy
   have hl:x.length=y.length:=by simpa using h
   have h1:=ih y hx.2 hy.2 hl
   have ha:=(isDig_iff a).1 hx.1
   have hb:=(isDig_iff b).1 hy.1
   have vx:=val_lt hx.2
   have vy:=val_lt hy.2
   rw [val_cons,val_cons,← hl]
   rw [← hl] at vy
   unfold Op.bytesLess
   rw [Bool.or_eq_true,Bool.and_eq_true,h1,decide_eq_true_eq,beq_iff_eq,UInt8.lt_iff_toNat_lt]
   rcases Nat.lt_trichotomy a.toNat b.toNat with hab | hab | hab
   ·have h5:(a.toNat - 48+1) * 10 ^ x.length≤(b.toNat - 48) * 10 ^ x.length:=Nat.mul_le_mul_right _ (by omega)
    rw [Nat.add_mul] at h5
    exact ⟨fun _=>by omega,fun _=>.inl hab⟩
   ·have e:a=b:=UInt8.toNat_inj.1 hab
    subst e
    exact ⟨fun hh=>by rcases hh with hh | hh <;> omega,fun hh=>.inr ⟨rfl,by omega⟩⟩
   ·have h5:(b.toNat - 48+1) * 10 ^ x.length≤(a.toNat - 48) * 10 ^ x.length:=Nat.mul_le_mul_right _ (by omega)
    rw [Nat.add_mul] at h5
    refine ⟨fun hh=>?_,fun hh=>by omega⟩
    rcases hh with hh | ⟨rfl,_⟩ <;> omega

theorem val_inj:∀ (x y:List UInt8),AllDig x→AllDig y→x.length=y.length→val x=val y→x=y:=by
 intro x
 induction x with
 | nil=>intro y _ _ h _; exact (List.eq_nil_of_length_eq_zero (by simpa using h.symm)).symm
 | cons a x ih =>
  intro y hx hy h hv
  cases y with
  | nil=>simp at h
  | cons b y =>
   rw [allDig_cons] at hx hy
   have hl:x.length=y.length:=by simpa using h
   have ha:=(isDig_iff a).1 hx.1
   have hb:=(isDig_iff b).1 hy.1
   have vx:=val_lt hx.2
   have vy:=val_lt hy.2
   rw [val_cons,val_cons,← hl] at hv
   rw [← hl] at vy
   rcases Nat.lt_trichotomy a.toNat b.toNat with hab | hab | hab
   ·have h5:(a.toNat - 48+1) * 10 ^ x.length≤(b.toNat - 48) * 10 ^ x.length:=Nat.mul_le_mul_right _ (by omega)
    rw [Nat.add_mul] at h5; omega
   ·have e:a=b:=UInt8.toNat_inj.1 hab
    subst e
    rw [ih y hx.2 hy.2 hl (by omega)]
   ·have h5:(b.toNat - 48+1) * 10 ^ x.length≤(a.toNat - 48) * 10 ^ x.length:=Nat.mul_le_mul_right _ (by omega)
    rw [Nat.add_mul] at h5; omega


end Go.Proofs.YtgakcdcfblgagaaGreatDoor.Num
namespace Go.Proofs.YtgakcdcfblgagaaGreatDoor.Name
open Go.RowKit Num
def fstB (x:Int):Bool:=decide ((97≤x∧x≤122)∨(48≤x∧x≤57))
def okB (k:Nat) (x:Int):Bool:=fstB x || (decide (0<k) && decide (x=45∨x=95∨x=46))
theorem fstB_iff (x:Int):fstB x=true↔(97≤x∧x≤122)∨(48≤x∧x≤57):=by simp [fstB]
theorem fstB_no {x:Int} (h:¬ ((97≤x∧x≤122)∨(48≤x∧x≤57))):fstB x=false:=by rw [← Bool.not_eq_true,fstB_iff]; exact h
theorem okB_iff (k:Nat) (x:Int):okB k x=true↔fstB x=true∨(0<k∧(x=45∨x=95∨x=46)):=by simp [okB]
theorem okB_no {k:Nat} {x:Int} (h:fstB x=false) (h2:k=0∨¬ (x=45∨x=95∨x=46)):okB k x=false:=by
 rw [← Bool.not_eq_true,okB_iff,h]
 rintro (h3 | ⟨h3,h4⟩)
 ·cases h3
 ·rcases h2 with h2 | h2
  ·omega
  ·exact h2 h4
def nrun:Nat→List UInt8→Nat
 | _,[]=>0
 | k,b :: l=>if okB k b.toNat=true then nrun (k+1) l+1 else 0
theorem nrun_le:∀ (k:Nat) (l:List UInt8),nrun k l≤l.length
 | _,[]=>Nat.le_refl _
 | k,b :: l=>by
   rw [nrun]; split
   ·exact Nat.succ_le_succ (nrun_le (k+1) l)
   ·exact Nat.zero_le _
theorem nrun_stop:∀ (l:List UInt8) (k m:Nat),m≤l.length→(∀ j,j<m→okB (k+j) (byteAt l j)=true)→(m=l.length∨okB (k+m) (byteAt l m)=false)→nrun k l=m
 | [],k,m,h,_,_=>by
   have:m=0:=by simpa using h
   subst this; rfl
 | b :: l,k,0,_,_,h=>by
   rcases h with h | h
   ·cases h
   ·rw [nrun,if_neg]; rw [Bool.not_eq_true]; exact h
 | b :: l,k,m+1,h,ha,h2=>by
   have h0:okB k b.toNat=true:=ha 0 (Nat.succ_pos _)
   rw [nrun,if_pos h0,nrun_stop l (k+1) m (by simpa using h) (fun j hj=>by rw [Nat.add_assoc,Nat.add_comm 1 j]; exact ha (j+1) (Nat.succ_lt_succ hj)) (by
    rcases h2 with h2 | h2
    ·exact .inl (by simpa using h2)
    ·exact .inr (by rw [Nat.add_assoc,Nat.add_comm 1 m]; exact h2))]
theorem nrun_ok:∀ (l:List UInt8) (k j:Nat),j<nrun k l→okB (k+j) (byteAt l j)=true
 | [],_,_,h=>by simp [nrun] at h
 | b :: l,k,j,h=>by
   rw [nrun] at h
   split at h
   next h0 =>
    cases j with
    | zero=>exact h0
    | succ j =>
     have:=nrun_ok l (k+1) j (by omega)
     rw [Nat.add_assoc,Nat.add_comm 1 j] at this
     exact this
   next=>omega
def nlen (l:List UInt8):Nat:=nrun 0 l
def nscan (l:List UInt8) (at_:Int):Int × Int :=
 if at_<0∨(l.length:Int)<at_ then (0,1)
 else if nlen (l.drop at_.toNat)=0∨255<nlen (l.drop at_.toNat) then (0,12) else ((nlen (l.drop at_.toNat):Nat),0)
def isName (s:List UInt8):Bool:=decide (nlen s=s.length∧0<s.length∧s.length≤255)
theorem isName_iff (s:List UInt8):isName s=true↔nlen s=s.length∧0<s.length∧s.length≤255:=by simp [isName]
theorem nscan_arg {l:List UInt8} {p:Int} (h:p<0∨(l.length:Int)<p):nscan l p=(0,1):=if_pos h
theorem nscan_bad {l:List UInt8} {p:Int} (h:¬ (p<0∨(l.length:Int)<p)) (h2:nlen (l.drop p.toNat)=0∨255<nlen (l.drop p.toNat)):nscan l p=(0,12):=by
 unfold nscan; rw [if_neg h,if_pos h2]
theorem nscan_good {l:List UInt8} {p:Int} (h:¬ (p<0∨(l.length:Int)<p)) (h2:¬ (nlen (l.drop p.toNat)=0∨255<nlen (l.drop p.toNat))):nscan l p=(((nlen (l.drop p.toNat):Nat):Int),0):=by
 unfold nscan; rw [if_neg h,if_neg h2]
theorem nscan_whole (s:List UInt8):((nscan s 0).2=0∧(nscan s 0).1=s.length)↔isName s=true:=by
 have h0:¬ ((0:Int)<0∨(s.length:Int)<0):=by omega
 rw [isName_iff]
 by_cases h:nlen (s.drop (0:Int).toNat)=0∨255<nlen (s.drop (0:Int).toNat)
 ·rw [nscan_bad h0 h]
  rw [show (0:Int).toNat=0 from rfl,List.drop_zero] at h
  constructor
  ·rintro ⟨h1,_⟩; simp at h1
  ·rintro ⟨h1,h2,h3⟩; omega
 ·rw [nscan_good h0 h]
  rw [show (0:Int).toNat=0 from rfl,List.drop_zero] at h ⊢
  constructor
  ·rintro ⟨_,h1⟩
   have h1:nlen s=s.length:=by simp at h1; omega
   omega
  ·rintro ⟨h1,h2,h3⟩; exact ⟨rfl,by simp [h1]⟩
theorem byteAt_drop (l:List UInt8) (p j:Nat):byteAt (l.drop p) j=byteAt l (p+j):=by simp [byteAt]
theorem nlen_stop (l:List UInt8) (p m:Nat) (h:p+m≤l.length) (ha:∀ j,j<m→okB j (byteAt l (p+j))=true) (h2:p+m=l.length∨okB m (byteAt l (p+m))=false):nlen (l.drop p)=m:=by
 refine nrun_stop _ 0 m (by rw [List.length_drop]; omega) (fun j hj=>?_) ?_
 ·rw [Nat.zero_add,byteAt_drop]; exact ha j hj
 ·rw [Nat.zero_add,byteAt_drop,List.length_drop]
  rcases h2 with h2 | h2
  ·exact .inl (by omega)
  ·exact .inr h2
theorem getD_pre {α:Type} (x y:List α) (d:α) (k:Nat) (h:k<x.length):(x ++ y).getD k d=x.getD k d:=by
 rw [List.getD_eq_getElem?_getD,List.getElem?_append_left h,← List.getD_eq_getElem?_getD]
def find:List (List UInt8)→List UInt8→Nat
 | [],_=>0
 | t :: x,s=>if t=s then 0 else find x s+1
theorem find_stop:∀ (x:List (List UInt8)) (s:List UInt8) (k:Nat),k≤x.length→(∀ j,j<k→x.getD j []≠s)→(k=x.length∨x.getD k []=s)→find x s=k
 | [],_,k,h,_,_=>by
   have:k=0:=by simpa using h
   subst this; rfl
 | t :: x,s,0,_,_,h=>by
   rcases h with h | h
   ·cases h
   ·exact if_pos h
 | t :: x,s,k+1,h,ha,h2=>by
   have h0:t≠s:=ha 0 (Nat.succ_pos _)
   rw [find,if_neg h0,find_stop x s k (by simpa using h) (fun j hj=>ha (j+1) (Nat.succ_lt_succ hj)) (by simpa using h2)]
theorem find_at:∀ {x:List (List UInt8)} {s:List UInt8},find x s<x.length→x.getD (find x s) []=s
 | [],_,h=>by simp [find] at h
 | t :: x,s,h=>by
   rw [find] at h ⊢
   split at h
   next e=>rw [if_pos e]; exact e
   next e=>rw [if_neg e]; exact find_at (x:=x) (by simpa using h)
theorem find_lt {x:List (List UInt8)} {s:List UInt8}:find x s<x.length↔s ∈ x:=by
 induction x with
 | nil=>simp [find]
 | cons t x ih =>
  rw [find]
  split
  next e=>simp [e]
  next e=>simp [ih,Ne.symm e]
theorem find_before:∀ {x:List (List UInt8)} {s:List UInt8} (j:Nat),j<find x s→x.getD j []≠s
 | [],_,_,h=>by simp [find] at h
 | t :: x,s,j,h=>by
   rw [find] at h
   split at h
   ·omega
   next e =>
    cases j with
    | zero=>exact e
    | succ j=>exact find_before (x:=x) j (by omega)
theorem find_of {x:List (List UInt8)} (hn:x.Nodup) (k:Nat) (hk:k<x.length):find x (x.getD k [])=k:=by
 refine find_stop _ _ _ (Nat.le_of_lt hk) (fun j hj e=>?_) (.inr rfl)
 rw [List.getD_eq_getElem?_getD,List.getElem?_eq_getElem (by omega),List.getD_eq_getElem?_getD,List.getElem?_eq_getElem hk] at e
 exact List.pairwise_iff_getElem.1 hn j k (by omega) hk hj (by simpa using e)
theorem find_snoc_old {x:List (List UInt8)} {s t:List UInt8} (h:find x s<x.length):find (x ++ [t]) s=find x s:=by
 refine find_stop _ _ _ (by simp; omega) (fun j hj=>?_) (.inr ?_)
 ·rw [getD_pre _ _ _ _ (by omega)]; exact find_before j hj
 ·rw [getD_pre _ _ _ _ h]; exact find_at h
theorem find_snoc_new {x:List (List UInt8)} {s:List UInt8} (h:s ∉ x):find (x ++ [s]) s=x.length:=by
 refine find_stop _ _ _ (by simp) (fun j hj e=>h ?_) (.inr (by simp))
 rw [getD_pre _ _ _ _ hj,List.getD_eq_getElem?_getD,List.getElem?_eq_getElem hj] at e
 rw [← e]; exact List.getElem_mem hj
structure Ordered (x:List (List UInt8)) (o:List Nat):Prop where
 perm:o.Perm (List.range x.length)
 up:o.Pairwise fun a b=>x.getD a []<x.getD b []
end Go.Proofs.YtgakcdcfblgagaaGreatDoor.Name
namespace Go.Proofs.YtgakcdcfblgagaaGreatDoor.Num
open Go.RowKit
def DigJ (w:World) (A:Option Addr) (n c:Nat) (l:List UInt8) (a':Act) (w':World):Prop :=
 w=w'∧∃ (k:Nat) (u4 u5 u6 u7 u8 u9 u10 u11 u12 u13 u14 u15 u16 u17 u18 u19 u20 u21 u22 u23 u24:Value),k≤n∧(∀ j,j<k→isDig (l.getD j 0)=true)∧a'={ tmps:=#[.slice A n c,undef,.int .i64 0,.int .i64 k,u4,u5,u6,u7,u8,u9,u10,u11,u12,u13,u14,u15,u16,u17,u18,u19,u20,u21,u22,u23,u24],defers:=[] }
def DigM (n:Nat) (a':Act) (_:World):Nat:=n - (intOf (a'.tmps.getD 3 undef)).toNat

theorem digits_any (A:Option Addr) (n c:Nat) (l:List UInt8) (w:World) (h:Row w A n l) :
  Calls Tryz.prog 275 #[.slice A n c] w fun e w'=>e=.returned (.int .i64 (run l))∧w=w':=by
 obtain ⟨hl,hm,hc⟩:=h
 unfold maxLen at hm
 have HC:=Lib.hid hc; clear hc
 have HL:=Lib.hid hl; clear hl
 go_enter Tryz.func275,Tryz.ntmps275
 go_wp2
 refine wp_scope_back 0 (DigJ w A n c l) (DigM n) rfl ?_ ?_
 ·rintro a' w' ⟨rfl,k,u4,u5,u6,u7,u8,u9,u10,u11,u12,u13,u14,u15,u16,u17,u18,u19,u20,u21,u22,u23,u24,hk,hd,rfl⟩
  have HD:=Lib.hid hd; clear hd
  by_cases hlt:k<n
  ·obtain ⟨b,o,rfl,hb,hcell⟩:=HC.out (by omega)
   have hx:=hcell k hlt
   clear hcell HC
   have hbd:=byteAt_bd l k
   have HI:=Lib.hid (isDig_at l k)
   generalize byteAt l k=x at hx hbd HI
   have HS:Hid (¬ (48≤x∧x≤57)→run l=k):=fun hn=>run_stop l k (by rw [HL.out]; omega) HD.out (.inr (by rw [← HI.out] at hn; simpa using hn))
   by_cases h1:48≤x
   ·by_cases h2:x≤57
    ·go_wp2
     go_step3
     rw [show ((k:Int)+1)=((k+1:Nat):Int) from rfl]
     refine ⟨rfl,⟨rfl,k+1,_,_,_,_,_,_,_,_,_,_,_,_,_,_,_,_,_,_,_,_,_,by omega,?_,rfl⟩,?_⟩
     ·intro j hj
      rcases Nat.lt_or_ge j k with hj1 | hj1
      ·exact HD.out j hj1
      ·obtain rfl:j=k:=by omega
       exact HI.out.2 ⟨h1,h2⟩
     ·simp [DigM,intOf]; omega
    ·go_wp2
     simp only [Exit.jump]
     go_ret
     exact ⟨ret_int (by rw [HS.out (by omega)]),rfl⟩
   ·go_wp2
    simp only [Exit.jump]
    go_ret
    exact ⟨ret_int (by rw [HS.out (by omega)]),rfl⟩
  ·have HS:Hid (run l=k):=run_stop l k (by rw [HL.out]; omega) HD.out (.inl (by rw [HL.out]; omega))
   go_wp2
   simp only [Exit.jump]
   go_ret
   exact ⟨ret_int (by rw [HS.out]),rfl⟩
 ·intro HP
  go_wp2
  go_step3
  rename_i hK
  exact hK _ _ (HP.out _ _ ⟨rfl,0,_,_,_,_,_,_,_,_,_,_,_,_,_,_,_,_,_,_,_,_,_,by omega,(fun j hj=>by omega),rfl⟩)

theorem padded_any (A:Option Addr) (n c:Nat) (l:List UInt8) (w:World) (h:Row w A n l) :
  Calls Tryz.prog 276 #[.slice A n c] w fun e w'=>e=.returned (.bool (pad l))∧w=w':=by
 obtain ⟨hl,hm,hc⟩:=h
 unfold maxLen at hm
 by_cases hlt:1<n
 ·obtain ⟨b,o,rfl,hb,hcell⟩:=hc (by omega)
  have hx:=hcell 0 (by omega)
  simp only [Nat.add_zero] at hx
  have HI:Hid (byteAt l 0=48↔(l.getD 0 0).toNat=48):=by unfold Hid byteAt; omega
  have HL:=Lib.hid hl
  clear hcell hc hl
  generalize byteAt l 0=x at hx HI
  by_cases h48:x=48
  ·have HF:Hid (pad l=true):=(pad_iff l).2 ⟨by rw [HL.out]; exact hlt,HI.out.1 h48⟩
   have hb1:(x == 48)=true:=by simp [h48]
   have H48:=Lib.hid h48; clear h48
   go_enter Tryz.func276,Tryz.ntmps276
   go_wp2
   go_ret
   exact ⟨by rw [HF.out]; rfl,rfl⟩
  ·have HF:Hid (pad l=false):=(pad_no l).2 fun hh=>h48 (HI.out.2 hh.2)
   have hb1:(x == 48)=false:=by simp [h48]
   go_enter Tryz.func276,Tryz.ntmps276
   go_wp2
   go_ret
   exact ⟨by rw [HF.out]; rfl,rfl⟩
 ·have HF:Hid (pad l=false):=(pad_no l).2 fun hh=>hlt (by rw [← hl]; exact hh.1)
  clear hc hl
  go_enter Tryz.func276,Tryz.ntmps276
  go_wp2
  go_ret
  exact ⟨by rw [HF.out]; rfl,rfl⟩

end Go.Proofs.YtgakcdcfblgagaaGreatDoor.Num
namespace Go.Proofs.YtgakcdcfblgagaaGreatDoor.Num
open Go.RowKit

theorem run_bytesD (w:World) (s:ByteArray) (hs:s.size≤maxLen):∃ c W,s.size≤c ∧
  (convert 9 22 (.string s)).run Tryz.prog w=.ok (.slice (some ⟨w.heap.size,0,none⟩) s.size c) W∧Row W (some ⟨w.heap.size,0,none⟩) s.size s.data.toList∧BelowD w.heap.size w W:=by
 refine ⟨_,_,grownCap_ge w s.size 0 5,Lib.run_convert_string_bytes (P:=Tryz.prog) w 9 22 5 s Tryz.underlying9 Tryz.underlying22 Tryz.underlying5,?_,?_⟩
 ·refine ⟨(Lib.size_eq s).symm,hs,fun h0=>⟨w.heap.size,0,rfl,by rw [Lib.bytesWorld_size]; omega,fun j hj=>?_⟩⟩
  rw [Nat.zero_add,Lib.bytesWorld_cell w 5 s j hj]; rfl
 ·exact ⟨⟨by simp [Lib.bytesWorld,World.freeze]; rfl,by simp [Lib.bytesWorld,World.freeze],by simp [Lib.bytesWorld,World.freeze]; rfl,by rw [Lib.bytesWorld_size]; omega,fun k hk=>Lib.bytesWorld_at_old w 5 s k hk⟩,by simp [Lib.bytesWorld,World.freeze]⟩

theorem run_bytes (w:World) (s:ByteArray) (hs:s.size≤maxLen):∃ c W,s.size≤c ∧
  (convert 9 22 (.string s)).run Tryz.prog w=.ok (.slice (some ⟨w.heap.size,0,none⟩) s.size c) W∧Row W (some ⟨w.heap.size,0,none⟩) s.size s.data.toList∧Below w.heap.size w W:=by
 obtain ⟨c,W,h1,h2,h3,h4⟩:=run_bytesD w s hs
 exact ⟨c,W,h1,h2,h3,h4.toBelow⟩



end Go.Proofs.YtgakcdcfblgagaaGreatDoor.Num
