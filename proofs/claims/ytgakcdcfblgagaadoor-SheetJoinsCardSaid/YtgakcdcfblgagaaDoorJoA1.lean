/-
  What the theorem of the last text needs of these: Tk, NumMath, NumMem, NumOrder, NaMath, NumDigits, NumBytes. Conditions: as each theorem states.
-/
import Derived.Deep.QuietTactic
import Derived.Deep.RegionHeld3
import Derived.OrdersHeld
import Derived.ProofKit
import Derived.Test.YtgakcdcfblgagaaDoorProg
import Derived.WalkKit
import Derived.Test.YtgakcdcfblgagaaDoorChecked
import Derived.WalkMore
import Derived.ScopeJumps
import Derived.Outline
import Derived.IntWalk
import Derived.Lib.Hide
import Derived.WalkLawsBesides
import Derived.Lib.SlBytesConst
import Derived.Lib.Strings
import Derived.Maps.AppendAt
import Derived.OwnWalk
import Derived.Laws.AppendOwnNone
import Derived.ArgAppend
import Derived.Lib.ConvBytes
import Derived.Lib.Bytealg
import Derived.WalkSpells
set_option maxRecDepth 100000
set_option maxHeartbeats 25600000
namespace Go.Proofs.YtgakcdcfblgagaaDoor
open Go.RowKit
/-- The i-th of some operations. -/
def nth:List Oper→Nat→Option Oper
  | [],_=>none
  | o :: _,0=>some o
  | _ :: l,i+1=>nth l i
theorem nth_get:∀ (l:List Oper) (i:Nat),nth l i=l[i]?
  | [],_=>by simp [nth]
  | o :: l,0=>by simp [nth]
  | o :: l,i+1=>by simp [nth,nth_get l i]
theorem nth_ops {ops:Array Oper} {i:Nat} {o:Oper} (h:nth ops.toList i=some o):ops[i]?=some o:=by
  rw [nth_get,Array.getElem?_toList] at h; exact h
theorem p1 {α:Type} (l:List α) (i:Nat) (x:α):l.toArray.setIfInBounds i x=(l.set i x).toArray:=by simp
theorem p2 {α:Type} (y:α) (l:List α) (x:α):(y :: l).set 0 x=x :: l:=List.set_cons_zero
theorem p3 {α:Type} (y:α) (l:List α) (i:Nat) (x:α):(y :: l).set (i+1) x=y :: l.set i x:=List.set_cons_succ
section
variable {P:Program} {ops:Array Oper} {Q:Exit→Act→World→Prop} {S:World→Prop} {md:Region.Mode} {fuel:Nat} {listed:Array Bool} {a a':Act} {w:World} {oi:Oper}
/-- Take number i first. -/
theorem tk (i : Nat) (hi : nth ops.toList i = some oi) (v : Value) (h : wpAnyH P md ops Q S fuel (listed.setIfInBounds i true) a' w)
    (hv:∀ w',S w'→(execOp a.eval oi).run P w'=.ok (.value v) w':=by intro w' hS'; go_simp)
    (hw:Region.wanted oi (yielded ops a.tmps)=true:=by rfl)
    (ha:a.put oi.dst v=a':=by simp only [Act.put,p1,p2,p3]; exact rfl)
    (hs:Region.noSelect ops=true:=by kernel_rfl) (hf:Region.free md ops listed i=true:=by kernel_rfl) (hr:(Region.ready md ops listed).contains i=true:=by kernel_rfl)
    (hQ:∀ c a w,Q (.panic c) (a.put oi.dst v) w→Q (.panic c) a w:=by exact fun _ _ _ h=>h) (hS:S w:=by assumption):wpAnyH P md ops Q S (fuel+1) listed a w :=
  wpAnyH_take (nth_ops hi) hs hf hr hQ (.inl ⟨hw,hv⟩) hS (ha ▸ h)
/-- Number i isn't wanted. -/
theorem sk (i : Nat) (hi : nth ops.toList i = some oi) (h : wpAnyH P md ops Q S fuel (listed.setIfInBounds i true) a' w)
    (hw:Region.wanted oi (yielded ops a.tmps)=false:=by rfl)
    (ha:a.put oi.dst undef=a':=by simp only [Act.put,p1,p2,p3]; exact rfl)
    (hs:Region.noSelect ops=true:=by kernel_rfl) (hf:Region.free md ops listed i=true:=by kernel_rfl) (hr:(Region.ready md ops listed).contains i=true:=by kernel_rfl)
    (hQ:∀ c a w,Q (.panic c) (a.put oi.dst undef) w→Q (.panic c) a w:=by exact fun _ _ _ h=>h) (hS:S w:=by assumption):wpAnyH P md ops Q S (fuel+1) listed a w :=
  wpAnyH_take (nth_ops hi) hs hf hr hQ (.inr ⟨hw,rfl⟩) hS (ha ▸ h)
/-- Number i is carried out: it alone may come up. -/
theorem cl (i : Nat) (hi : nth ops.toList i = some oi)
    (h:∀ K:Act→World→Prop,Shut (∀ a w,S w→(S w→wpAnyH P md ops Q S fuel (listed.setIfInBounds i true) a w)→K a w)→if Region.wanted oi (yielded ops a.tmps)=true then Oper.wp P oi a w K Q else K (a.put oi.dst undef) w)
    (hr:Region.ready md ops listed=[i]:=by kernel_rfl):wpAnyH P md ops Q S (fuel+1) listed a w :=
  wpAnyH_ready hr (List.cons_ne_nil _ _) (AllReadyH.cons (nth_ops hi) h AllReadyH.nil)
end
instance:Coe Nat Value:=⟨fun n=>.int .u64 n⟩
instance:Coe Int Value:=⟨fun n=>.int .i64 n⟩
instance:CoeDep Unit () Obj:=⟨.cells #[.int .i64 0,.int .u64 0,.int .u64 0,.int .u64 0,.slice none 0 0,.slice none 0 0,.slice none 0 0] 51⟩
instance:CoeDep Bool false Obj:=⟨.cells #[.int .u64 0,.int .u64 0,.int .u64 0,.slice none 0 0,.slice none 0 0] 45⟩
end Go.Proofs.YtgakcdcfblgagaaDoor
namespace Go.Proofs.YtgakcdcfblgagaaDoor.Num

def isDig (b:UInt8):Bool:=decide (48≤b.toNat∧b.toNat≤57)
def run:List UInt8→Nat
 | []=>0
 | b :: r=>if isDig b then run r+1 else 0
def valFrom (v:Nat) (l:List UInt8):Nat:=l.foldl (fun v b=>10 * v+(b.toNat - 48)) v
theorem valFrom_nil (v:Nat):valFrom v []=v:=rfl
theorem valFrom_cons (v:Nat) (b:UInt8) (r:List UInt8):valFrom v (b :: r)=valFrom (10 * v+(b.toNat - 48)) r:=by
 unfold valFrom; rw [List.foldl_cons]
def val (l:List UInt8):Nat:=valFrom 0 l
def maxField:Nat:=9223372036854775807
theorem isDig_iff (b:UInt8):isDig b=true↔48≤b.toNat∧b.toNat≤57:=by simp [isDig]
theorem run_le (l:List UInt8):run l≤l.length:=by
 induction l with
 | nil=>simp [run]
 | cons b r ih=>simp only [run,List.length_cons]; split <;> omega
theorem run_skip (l:List UInt8) (k:Nat) (hk:k≤l.length) (h:∀ j,j<k→isDig (l.getD j 0)=true):run l=k+run (l.drop k):=by
 induction k generalizing l with
 | zero=>simp
 | succ k ih =>
  cases l with
  | nil=>simp at hk
  | cons b r =>
   have h0:isDig b=true:=by simpa using h 0 (by omega)
   have:=ih r (by simpa using hk) (fun j hj=>by simpa using h (j+1) (by omega))
   simp only [run,h0,if_true,List.drop_succ_cons]; omega
theorem run_stop (l:List UInt8) (k:Nat) (hk:k≤l.length) (h:∀ j,j<k→isDig (l.getD j 0)=true) (he:k=l.length∨isDig (l.getD k 0)=false):run l=k:=by
 rw [run_skip l k hk h]
 rcases he with he | he
 ·subst he; simp [run]
 ·rcases Nat.lt_or_ge k l.length with hlt | hge
  ·have e:l.drop k=l.getD k 0 :: l.drop (k+1):=by
    rw [List.drop_eq_getElem_cons hlt]; simp [List.getD,List.getElem?_eq_getElem hlt]
   rw [e,run,he]; simp
  ·rw [List.drop_eq_nil_of_le hge]; simp [run]
def AllDig (l:List UInt8):Prop:=∀ b ∈ l,isDig b=true
theorem allDig_cons {b:UInt8} {r:List UInt8}:AllDig (b :: r)↔isDig b=true∧AllDig r:=by simp [AllDig]
theorem allDig_take_run (l:List UInt8):AllDig (l.take (run l)):=by
 induction l with
 | nil=>simp [AllDig]
 | cons b r ih =>
  rw [run]
  split
  ·rename_i hb; rw [List.take_succ_cons]; exact allDig_cons.2 ⟨hb,ih⟩
  ·simp [AllDig]
theorem run_all {l:List UInt8} (h:AllDig l):run l=l.length:=by
 induction l with
 | nil=>rfl
 | cons b r ih=>rw [allDig_cons] at h; simp [run,h.1,ih h.2]
theorem all_of_run {l:List UInt8} (h:run l=l.length):AllDig l:=by
 have:=allDig_take_run l; rwa [h,List.take_length] at this
theorem allDig_getD {l:List UInt8} (h:AllDig l) {j:Nat} (hj:j<l.length):isDig (l.getD j 0)=true:=by
 have e:l.getD j 0=l[j]:=by simp [List.getD,List.getElem?_eq_getElem hj]
 rw [e]; exact h _ (List.getElem_mem hj)
theorem valFrom_append (v:Nat) (l r:List UInt8):valFrom v (l ++ r)=valFrom (valFrom v l) r:=by
 simp [valFrom]
theorem val_snoc (l:List UInt8) (b:UInt8):val (l ++ [b])=10 * val l+(b.toNat - 48):=by
 rw [val,valFrom_append]; rfl
theorem take_snoc (l:List UInt8) (k:Nat) (h:k<l.length):l.take (k+1)=l.take k ++ [l.getD k 0]:=by
 rw [List.take_succ_eq_append_getElem h]; simp [List.getD,List.getElem?_eq_getElem h]
theorem le_valFrom (v:Nat) (l:List UInt8):v≤valFrom v l:=by
 induction l generalizing v with
 | nil=>exact Nat.le_refl _
 | cons b r ih=>rw [valFrom_cons]; exact Nat.le_trans (by omega) (ih _)
theorem val_take_le (l:List UInt8) (k:Nat):val (l.take k)≤val l:=by
 have e:val l=valFrom (val (l.take k)) (l.drop k):=by
  rw [val,val,← valFrom_append,List.take_append_drop]
 rw [e]; exact le_valFrom _ _
theorem valFrom_eq (v:Nat) (l:List UInt8):valFrom v l=v * 10 ^ l.length+val l:=by
 induction l generalizing v with
 | nil=>simp [valFrom_nil,val]
 | cons b r ih =>
  have e1:val (b :: r)=(b.toNat - 48) * 10 ^ r.length+val r:=by
   rw [val,valFrom_cons,ih]; simp
  rw [valFrom_cons]
  have e2:10 * v * 10 ^ r.length=v * (10 ^ r.length * 10):=by rw [Nat.mul_comm 10 v,Nat.mul_assoc,Nat.mul_comm 10]
  rw [ih,e1,List.length_cons,Nat.pow_succ,Nat.add_mul,e2]
  omega
theorem val_cons (b:UInt8) (r:List UInt8):val (b :: r)=(b.toNat - 48) * 10 ^ r.length+val r:=by
 rw [val,valFrom_cons,valFrom_eq]; simp
theorem val_lt {l:List UInt8} (h:AllDig l):val l<10 ^ l.length:=by
 induction l with
 | nil=>simp [val,valFrom_nil]
 | cons b r ih =>
  rw [allDig_cons,isDig_iff] at h
  have h2:=ih h.2
  rw [val_cons,List.length_cons,Nat.pow_succ]
  have h3:b.toNat - 48≤9:=by omega
  have h4:(b.toNat - 48) * 10 ^ r.length≤9 * 10 ^ r.length:=Nat.mul_le_mul_right _ h3
  omega
theorem le_val {b:UInt8} {r:List UInt8} (h:49≤b.toNat):10 ^ r.length≤val (b :: r):=by
 rw [val_cons]
 have h4:1 * 10 ^ r.length≤(b.toNat - 48) * 10 ^ r.length:=Nat.mul_le_mul_right _ (by omega)
 omega
def pad (l:List UInt8):Bool:=decide (1<l.length∧(l.getD 0 0).toNat=48)
theorem pad_iff (l:List UInt8):pad l=true↔1<l.length∧(l.getD 0 0).toNat=48:=by simp [pad]
theorem pad_no (l:List UInt8):pad l=false↔¬ (1<l.length∧(l.getD 0 0).toNat=48):=by
 rw [← pad_iff]; cases pad l <;> simp
def parse (l:List UInt8) (p:Int):Nat × Nat × Nat :=
 if p<0∨(l.length:Int)<p then (0,0,1)
 else
  let r:=l.drop p.toNat
  let d:=r.take (run r)
  if d.length=0 then (0,0,2)
  else if pad d=true then (0,0,3)
  else if maxField<val d then (0,0,4)
  else (val d,d.length,0)
theorem parse_place_at (a b:List UInt8) (p:Nat) (hp:p≤b.length):parse (a ++ b) ((a.length+p:Nat):Int)=parse b p:=by
 have h3:(a ++ b).drop (a.length+p)=b.drop p:=by
  rw [List.drop_append,List.drop_eq_nil_of_le (by omega),show a.length+p - a.length=p by omega]; rfl
 have h1:¬ (((a.length+p:Nat):Int)<0∨((a ++ b).length:Int)<((a.length+p:Nat):Int)):=by simp only [List.length_append]; omega
 have h2:¬ ((p:Int)<0∨(b.length:Int)<(p:Int)):=by omega
 unfold parse
 rw [if_neg h1,if_neg h2,Int.toNat_natCast,Int.toNat_natCast,h3]
theorem parse_end (l:List UInt8) (p:Nat) (hp:p≤l.length):p+(parse l p).2.1≤l.length:=by
 have h1:((l.drop p).take (run (l.drop p))).length≤l.length - p:=by
  rw [List.length_take,List.length_drop]; omega
 unfold parse
 rw [if_neg (by omega),Int.toNat_natCast]
 simp only
 split
 ·simpa using hp
 ·split
  ·simpa using hp
  ·split
   ·simpa using hp
   ·simp only; omega
theorem parse_at (l:List UInt8) (p:Nat) (hp:p≤l.length) (d:List UInt8) (hd:(l.drop p).take (run (l.drop p))=d) :
  parse l p=if d.length=0 then (0,0,2) else if pad d=true then (0,0,3) else if maxField<val d then (0,0,4) else (val d,d.length,0):=by
 subst hd; unfold parse; rw [if_neg (by omega),Int.toNat_natCast]
end Go.Proofs.YtgakcdcfblgagaaDoor.Num
namespace Go.Proofs.YtgakcdcfblgagaaDoor.Num
open Go.RowKit

def byteAt (l:List UInt8) (j:Nat):Int:=((l.getD j 0).toNat:Int)
theorem byteAt_bd (l:List UInt8) (j:Nat):0≤byteAt l j∧byteAt l j≤255:=by
 have:=(l.getD j 0).toNat_lt; unfold byteAt; omega
theorem isDig_at (l:List UInt8) (j:Nat):isDig (l.getD j 0)=true↔48≤byteAt l j∧byteAt l j≤57:=by
 rw [isDig_iff]; unfold byteAt; omega

def Row (w:World) (A:Option Addr) (n:Nat) (l:List UInt8):Prop :=
 l.length=n∧n≤maxLen∧(0<n→∃ b o,A=some ⟨b,o,none⟩∧b<w.heap.size∧∀ j,j<n→w.cell? ⟨b,o+j,none⟩=some (.int .u8 (byteAt l j)))

theorem wp_scope_back {P:Program} {a:Act} {w:World} {Q:Exit→Act→World→Prop} {c rest:Code} (l:Nat) (J:Act→World→Prop) (μ:Act→World→Nat) (hf:findLabel c l=some (Code.skip.seq rest))
  (pass:∀ a w,J a w→rest.wp P (Exit.jump l (fun a' w'=>J a' w'∧μ a' w'<μ a w) Q) a w)
  (first:Hid (∀ a w,J a w→rest.wp P (Exit.jump l J Q) a w)→c.wp P (Exit.jump l J Q) a w):(Code.scope c).wp P Q a w :=
 wp_scope_jumps l J μ hf (first fun a w h=>wp_mono (pass a w h) (fun e _ _ hq=>by cases e <;> first | exact hq | exact ⟨hq.1,hq.2.1⟩)) (fun a w h=>wp_seq (wp_skip (pass a w h)))

theorem ret_int {k:IntKind} {a b:Int} (h:a=b):Ending.returned (.int k a)=.returned (.int k b):=by rw [h]

theorem Row.piece {w:World} {A A':Option Addr} {n:Nat} {l:List UInt8} (h:Row w A n l) (p m:Nat) (hp:p+m≤n)
  (hA:0<m→∀ b o,A=some ⟨b,o,none⟩→A'=some ⟨b,o+p,none⟩):Row w A' m ((l.drop p).take m):=by
 obtain ⟨hl,hm,hc⟩:=h
 refine ⟨by rw [List.length_take,List.length_drop]; omega,by omega,fun h0=>?_⟩
 obtain ⟨b,o,e,hb,hcell⟩:=hc (by omega)
 refine ⟨b,o+p,hA h0 b o e,hb,fun j hj=>?_⟩
 have e1:byteAt ((l.drop p).take m) j=byteAt l (p+j):=by
  unfold byteAt; simp [List.getD,hj]
 rw [e1,Nat.add_assoc]; exact hcell (p+j) (by omega)

theorem map_add (p:Nat) (A:Option Addr) (b o:Nat) (e:A=some ⟨b,o,none⟩):A.map (fun x=>x.add p)=some ⟨b,o+p,none⟩:=by
 subst e
 by_cases h:p=0
 ·subst h; simp [Addr.add]
 ·simp [Addr.add,h]


theorem size_alloc (w:World) (o:Obj):(w.alloc o).heap.size=w.heap.size+1:=by simp

theorem Row.new (w:World) (l:List UInt8) (C:Array Value) (t:TypeId) (fr:Nat × Nat) (hC:C.toList=l.map (fun b=>Value.int .u8 b.toNat)) (hm:l.length≤maxLen) :
  Row (w.alloc (.cells C t fr)) (some ⟨w.heap.size,0,none⟩) l.length l:=by
 refine ⟨rfl,hm,fun _=>⟨w.heap.size,0,rfl,by simp,fun j hj=>?_⟩⟩
 have hh:(w.alloc (.cells C t fr)).heap[w.heap.size]?=some (.cells C t fr):=by
  show (w.heap.push _)[w.heap.size]?=_
  simp
 have e1:(w.alloc (.cells C t fr)).cell? ⟨w.heap.size,0+j,none⟩=C[0+j]?:=cell_of_row _ _ _ C t fr hh
 rw [e1,Nat.zero_add,← Array.getElem?_toList,hC]
 unfold byteAt
 simp [List.getElem?_eq_getElem hj]


def cells (l:List UInt8):List Value:=l.map fun b=>Value.int .u8 b.toNat
theorem cells_length (l:List UInt8):(cells l).length=l.length:=by simp [cells]
theorem cells_append (l r:List UInt8):cells (l ++ r)=cells l ++ cells r:=by simp [cells]
theorem cells_one (l:List UInt8):∀ u ∈ cells l,u.oneCell'=true:=by
 intro u hu
 simp only [cells,List.mem_map] at hu
 obtain ⟨b,_,rfl⟩:=hu
 rfl
theorem cells_at (l:List UInt8) (j:Nat) (hj:j<l.length):(cells l)[j]?=some (.int .u8 (byteAt l j)):=by
 unfold byteAt; simp [cells,List.getElem?_eq_getElem hj]

theorem add_none (b o j:Nat):(⟨b,o,none⟩:Addr).add j=⟨b,o+j,none⟩:=by
 by_cases h:j=0
 ·subst h; simp [Addr.add]
 ·simp [Addr.add,h]

theorem Row.news {w:World} {ad:Addr} {n:Nat} {l:List UInt8} (h:Row w (some ad) n l):∀ j u,(cells l)[j]?=some u→w.cell? (ad.add j)=some u:=by
 intro j u hu
 have hj:j<l.length:=by
  have:=(List.getElem?_eq_some_iff.1 hu).1
  rwa [cells_length] at this
 obtain ⟨b,o,e,_,hc⟩:=h.2.2 (by have:=h.1; omega)
 injection e with e
 subst e
 rw [cells_at l j hj] at hu
 injection hu with hu
 rw [add_none,hc j (by rw [← h.1]; exact hj),hu]

theorem Row.nil {w:World} {n:Nat} {l:List UInt8} (h:Row w none n l):n=0∧l=[]:=by
 rcases Nat.eq_zero_or_pos n with h0 | h0
 ·exact ⟨h0,List.eq_nil_of_length_eq_zero (by rw [h.1]; exact h0)⟩
 ·obtain ⟨b,o,e,_⟩:=h.2.2 h0
  cases e

theorem Row.of_own {w:World} {base:Nat} {e:TypeId} {v:Value} {n:Nat} {l:List UInt8} (h:w.ownsRow base e 1 v n (cells l)) :
  ∃ A c,v=.slice A n c∧n≤c∧Row w A n l:=by
 have hl:l.length=n:=by have:=h.1; rw [cells_length] at this; omega
 have hcs:=fun g=>h.cells (g:=g)
 rcases h.2 with ⟨rfl,rfl⟩ | ⟨g,cap,cur,rfl,_,hg,hnc,hcm,_,_⟩
 ·exact ⟨none,0,rfl,Nat.le_refl _,hl,by unfold maxLen; omega,fun h0=>by omega⟩
 ·refine ⟨_,cap,rfl,hnc,hl,by omega,fun h0=>⟨g,0,rfl,(Array.getElem?_eq_some_iff.1 hg).1,fun j hj=>?_⟩⟩
  have:=hcs g rfl j _ (cells_at l j (by omega))
  rwa [add_none] at this

theorem Row.kept {w w':World} {A:Option Addr} {n:Nat} {l:List UInt8} (h:Row w A n l) (hb:Below w.heap.size w w'):Row w' A n l:=by
 refine ⟨h.1,h.2.1,fun h0=>?_⟩
 obtain ⟨b,o,e,hlt,hc⟩:=h.2.2 h0
 exact ⟨b,o,e,Nat.lt_of_lt_of_le hlt hb.size,fun j hj=>(hb.cell (p:=⟨b,o+j,none⟩) hlt).trans (hc j hj)⟩


theorem byteInfo:(Tryd.prog.info? 5).map (fun i=>(i.zero,i.size,i.bytes))=some (some (.int .u8 0),1,1):=by kernel_rfl

theorem run_append_row (w:World) (ty:TypeId) (base:Nat) (v:Value) (n:Nat) (l:List UInt8) (hown:w.ownsRow base 5 1 v n (cells l))
  (A:Option Addr) (m c:Nat) (r:List UInt8) (hr:Row w A m r) (hnil:A=none→c=0) (hb:n+m≤140737488355328) (hbase:base≤w.heap.size) :
  ∃ v' w',(Builtin.append_ #[22,22] ty #[v,.slice A m c]).run Tryd.prog w=.ok v' w'∧w'.ownsRow base 5 1 v' (n+m) (cells (l ++ r))∧w.grownBy w' v.ownBlock:=by
 obtain ⟨i,hi,hz,hs,hby⟩:=info_parts byteInfo
 cases A with
 | none =>
  obtain ⟨rfl,rfl⟩:=hr.nil
  obtain rfl:=hnil rfl
  exact ⟨v,w,run_append_owned_none (P:=Tryd.prog) (w:=w) base 22 ty 5 i 1 Tryd.underlying22 hi v n _ hown,by simpa using hown,World.grownBy.refl w _⟩
 | some ad =>
  obtain ⟨v',w',h1,h2,h3,_⟩:=run_append_own (P:=Tryd.prog) w base 22 ty 5 i (.int .u8 0) 1 1 Tryd.underlying22 hi hz hs hby rfl (by omega) v n _ hown ad m c (cells r)
   (by rw [cells_length,hr.1]; omega) hr.news (cells_one r) (by unfold maxLen; omega) (by omega) hbase
  exact ⟨v',w',h1,by rw [cells_append]; exact h2,h3⟩

theorem wpList_append_row (w:World) {ops:Array Oper} {rest:List Oper} {o:Oper} {a:Act} {Q:Exit→Act→World→Prop} (hgd:o.guard=none) (s x:Operand)
  (ho:o.op=.call { callee:=.builtin .append,args:=#[s,x],argTypes:=#[22,22] })
  (base:Nat) (v:Value) (n:Nat) (l:List UInt8) (hs:a.eval s=v) (hown:w.ownsRow base 5 1 v n (cells l))
  (A:Option Addr) (m c:Nat) (r:List UInt8) (hx:a.eval x=.slice A m c) (hr:Row w A m r) (hnil:A=none→c=0) (hb:n+m≤140737488355328) (hbase:base≤w.heap.size)
  (h:∀ A' c' w',n+m≤c'→Row w' A' (n+m) (l ++ r)→w'.ownsRow base 5 1 (.slice A' (n+m) c') (n+m) (cells (l ++ r))→Below base w w'→wpList Tryd.prog ops Q rest (a.put o.dst (.slice A' (n+m) c')) w'):wpList Tryd.prog ops Q (o :: rest) a w:=by
 refine wpList_plain hgd fun K hK=>?_
 obtain ⟨v',w',hrun,h2,h3⟩:=run_append_row w o.type base v n l hown A m c r hr hnil hb hbase
 obtain ⟨A',c',rfl,h4,h5⟩:=Row.of_own h2
 unfold Oper.wp execOp
 simp only [ho,resolve,invoke,builtin,Sem.run_bind,Sem.run_pure,Result.andThen_ok,List.map_toArray,List.map_cons,List.map_nil,hs,hx,hrun]
 exact hK _ _ (h A' c' w' h4 h5 h2 ((Below.refl base w).grown h3 hbase fun k hk=>(hown.lt k hk).1))

theorem Row.of_came {w:World} {a:Option Addr} {len cap:Nat} {zs:List Int}
  (h:(a=none∧len=0∧cap=0∧zs=[])∨∃ x,a=some x∧len≤cap∧cap≤maxLen∧zs.length=cap∧(∀ i,i<zs.length→w.cell? (x.add i)=some (.int .u8 (zs.getD i 0)))∧∀ n ∈ zs,(Lit.int .u8 n).wf=true) :
  ∃ l,Row w a len l∧len≤cap∧(a=none→cap=0):=by
 rcases h with ⟨rfl,rfl,rfl,rfl⟩ | ⟨x,rfl,hl,hm,hz,hc,hw⟩
 ·exact ⟨[],⟨rfl,by unfold maxLen; omega,fun h0=>by omega⟩,Nat.le_refl _,fun _=>rfl⟩
 ·refine ⟨(zs.take len).map fun z=>UInt8.ofNat z.toNat,⟨by rw [List.length_map,List.length_take]; omega,by omega,fun h0=>?_⟩,hl,fun e=>by cases e⟩
  obtain ⟨b,o,spot⟩:=x
  have h0c:=hc 0 (by omega)
  have hspot:spot=none:=by simpa [Addr.add] using World.cell?_spot h0c
  subst hspot
  refine ⟨b,o,rfl,?_,fun j hj=>?_⟩
  ·have:=World.block_lt_of_cell? w _ h0c
   rwa [add_none] at this
  ·have hj2:j<zs.length:=by omega
   have e:=hc j hj2
   rw [add_none] at e
   rw [e]
   have hg:zs.getD j 0=zs[j]:=by simp [List.getD,List.getElem?_eq_getElem hj2]
   have hwf:=hw _ (List.getElem_mem hj2)
   have hbd:0≤zs[j]∧zs[j]≤255:=by simpa [Lit.wf,IntKind.min,IntKind.max,IntKind.signed,IntKind.bits] using hwf
   have e2:byteAt ((zs.take len).map fun z=>UInt8.ofNat z.toNat) j=zs[j]:=by
    unfold byteAt
    simp [hj,List.getElem?_eq_getElem hj2]
    omega
   rw [e2,hg]
structure BelowD (B:Nat) (w w':World):Prop extends Below B w w' where
 drawn:w.drawn≤w'.drawn
theorem dropD {P:Program} {f:FuncId} {args:Array Value} {w:World} {B:Nat} {R:Ending→Prop} (h:Calls P f args w fun e w'=>R e∧BelowD B w w'):Calls P f args w fun e w'=>R e∧Below B w w' :=
 h.mono fun _ _ k=>⟨k.1,k.2.toBelow⟩
theorem at_text (t:ByteArray) (k:Nat) (h:k<t.size):(t[k].toNat:Int)=byteAt t.data.toList k:=by
 have h2:k<t.data.toList.length:=by rw [← Lib.size_eq]; exact h
 unfold byteAt
 rw [List.getD,List.getElem?_eq_getElem h2]
 rfl
end Go.Proofs.YtgakcdcfblgagaaDoor.Num
namespace Go.Proofs.YtgakcdcfblgagaaDoor.Num

theorem less_val:∀ (x y:List UInt8),AllDig x→AllDig y→x.length=y.length→(Op.bytesLess x y=true↔val x<val y):=by
 intro x
 induction x with
 | nil =>
  intro y _ _ h
  have:y=[]:=List.eq_nil_of_length_eq_zero (by simpa using h.symm)
  subst this
  simp [Op.bytesLess]
 | cons a x ih =>
  intro y hx hy h
  cases y with
  | nil=>simp at h
  | cons b y =>
   rw [allDig_cons] at hx hy
   have hl:x.length=y.length:=by simpa using h
   have h1:=ih y hx.2 hy.2 hl
   have ha:=(isDig_iff a).1 hx.1
   have hb:=(isDig_iff b).1 hy.1
   have vx:=val_lt hx.2
   have vy:=val_lt hy.2
   rw [val_cons,val_cons,← hl]
   rw [← hl] at vy
   unfold Op.bytesLess
   rw [Bool.or_eq_true,Bool.and_eq_true,h1,decide_eq_true_eq,beq_iff_eq,UInt8.lt_iff_toNat_lt]
   rcases Nat.lt_trichotomy a.toNat b.toNat with hab | hab | hab
   ·have h5:(a.toNat - 48+1) * 10 ^ x.length≤(b.toNat - 48) * 10 ^ x.length:=Nat.mul_le_mul_right _ (by omega)
    rw [Nat.add_mul] at h5
    exact ⟨fun _=>by omega,fun _=>.inl hab⟩
   ·have e:a=b:=UInt8.toNat_inj.1 hab
    subst e
    exact ⟨fun hh=>by rcases hh with hh | hh <;> omega,fun hh=>.inr ⟨rfl,by omega⟩⟩
   ·have h5:(b.toNat - 48+1) * 10 ^ x.length≤(a.toNat - 48) * 10 ^ x.length:=Nat.mul_le_mul_right _ (by omega)
    rw [Nat.add_mul] at h5
    refine ⟨fun hh=>?_,fun hh=>by omega⟩
    rcases hh with hh | ⟨rfl,_⟩ <;> omega

theorem val_inj:∀ (x y:List UInt8),AllDig x→AllDig y→x.length=y.length→val x=val y→x=y:=by
 intro x
 induction x with
 | nil=>intro y _ _ h _; exact (List.eq_nil_of_length_eq_zero (by simpa using h.symm)).symm
 | cons a x ih =>
  intro y hx hy h hv
  cases y with
  | nil=>simp at h
  | cons b y =>
   rw [allDig_cons] at hx hy
   have hl:x.length=y.length:=by simpa using h
   have ha:=(isDig_iff a).1 hx.1
   have hb:=(isDig_iff b).1 hy.1
   have vx:=val_lt hx.2
   have vy:=val_lt hy.2
   rw [val_cons,val_cons,← hl] at hv
   rw [← hl] at vy
   rcases Nat.lt_trichotomy a.toNat b.toNat with hab | hab | hab
   ·have h5:(a.toNat - 48+1) * 10 ^ x.length≤(b.toNat - 48) * 10 ^ x.length:=Nat.mul_le_mul_right _ (by omega)
    rw [Nat.add_mul] at h5; omega
   ·have e:a=b:=UInt8.toNat_inj.1 hab
    subst e
    rw [ih y hx.2 hy.2 hl (by omega)]
   ·have h5:(b.toNat - 48+1) * 10 ^ x.length≤(a.toNat - 48) * 10 ^ x.length:=Nat.mul_le_mul_right _ (by omega)
    rw [Nat.add_mul] at h5; omega


end Go.Proofs.YtgakcdcfblgagaaDoor.Num
namespace Go.Proofs.YtgakcdcfblgagaaDoor.Name
open Go.RowKit Num
def fstB (x:Int):Bool:=decide ((97≤x∧x≤122)∨(48≤x∧x≤57))
def okB (k:Nat) (x:Int):Bool:=fstB x || (decide (0<k) && decide (x=45∨x=95∨x=46))
theorem fstB_iff (x:Int):fstB x=true↔(97≤x∧x≤122)∨(48≤x∧x≤57):=by simp [fstB]
theorem fstB_no {x:Int} (h:¬ ((97≤x∧x≤122)∨(48≤x∧x≤57))):fstB x=false:=by rw [← Bool.not_eq_true,fstB_iff]; exact h
theorem okB_iff (k:Nat) (x:Int):okB k x=true↔fstB x=true∨(0<k∧(x=45∨x=95∨x=46)):=by simp [okB]
theorem okB_no {k:Nat} {x:Int} (h:fstB x=false) (h2:k=0∨¬ (x=45∨x=95∨x=46)):okB k x=false:=by
 rw [← Bool.not_eq_true,okB_iff,h]
 rintro (h3 | ⟨h3,h4⟩)
 ·cases h3
 ·rcases h2 with h2 | h2
  ·omega
  ·exact h2 h4
def nrun:Nat→List UInt8→Nat
 | _,[]=>0
 | k,b :: l=>if okB k b.toNat=true then nrun (k+1) l+1 else 0
theorem nrun_le:∀ (k:Nat) (l:List UInt8),nrun k l≤l.length
 | _,[]=>Nat.le_refl _
 | k,b :: l=>by
   rw [nrun]; split
   ·exact Nat.succ_le_succ (nrun_le (k+1) l)
   ·exact Nat.zero_le _
theorem nrun_stop:∀ (l:List UInt8) (k m:Nat),m≤l.length→(∀ j,j<m→okB (k+j) (byteAt l j)=true)→(m=l.length∨okB (k+m) (byteAt l m)=false)→nrun k l=m
 | [],k,m,h,_,_=>by
   have:m=0:=by simpa using h
   subst this; rfl
 | b :: l,k,0,_,_,h=>by
   rcases h with h | h
   ·cases h
   ·rw [nrun,if_neg]; rw [Bool.not_eq_true]; exact h
 | b :: l,k,m+1,h,ha,h2=>by
   have h0:okB k b.toNat=true:=ha 0 (Nat.succ_pos _)
   rw [nrun,if_pos h0,nrun_stop l (k+1) m (by simpa using h) (fun j hj=>by rw [Nat.add_assoc,Nat.add_comm 1 j]; exact ha (j+1) (Nat.succ_lt_succ hj)) (by
    rcases h2 with h2 | h2
    ·exact .inl (by simpa using h2)
    ·exact .inr (by rw [Nat.add_assoc,Nat.add_comm 1 m]; exact h2))]
theorem nrun_ok:∀ (l:List UInt8) (k j:Nat),j<nrun k l→okB (k+j) (byteAt l j)=true
 | [],_,_,h=>by simp [nrun] at h
 | b :: l,k,j,h=>by
   rw [nrun] at h
   split at h
   next h0 =>
    cases j with
    | zero=>exact h0
    | succ j =>
     have:=nrun_ok l (k+1) j (by omega)
     rw [Nat.add_assoc,Nat.add_comm 1 j] at this
     exact this
   next=>omega
def nlen (l:List UInt8):Nat:=nrun 0 l
def nscan (l:List UInt8) (at_:Int):Int × Int :=
 if at_<0∨(l.length:Int)<at_ then (0,1)
 else if nlen (l.drop at_.toNat)=0∨255<nlen (l.drop at_.toNat) then (0,12) else ((nlen (l.drop at_.toNat):Nat),0)
def isName (s:List UInt8):Bool:=decide (nlen s=s.length∧0<s.length∧s.length≤255)
theorem isName_iff (s:List UInt8):isName s=true↔nlen s=s.length∧0<s.length∧s.length≤255:=by simp [isName]
theorem nscan_arg {l:List UInt8} {p:Int} (h:p<0∨(l.length:Int)<p):nscan l p=(0,1):=if_pos h
theorem nscan_bad {l:List UInt8} {p:Int} (h:¬ (p<0∨(l.length:Int)<p)) (h2:nlen (l.drop p.toNat)=0∨255<nlen (l.drop p.toNat)):nscan l p=(0,12):=by
 unfold nscan; rw [if_neg h,if_pos h2]
theorem nscan_good {l:List UInt8} {p:Int} (h:¬ (p<0∨(l.length:Int)<p)) (h2:¬ (nlen (l.drop p.toNat)=0∨255<nlen (l.drop p.toNat))):nscan l p=(((nlen (l.drop p.toNat):Nat):Int),0):=by
 unfold nscan; rw [if_neg h,if_neg h2]
theorem nscan_whole (s:List UInt8):((nscan s 0).2=0∧(nscan s 0).1=s.length)↔isName s=true:=by
 have h0:¬ ((0:Int)<0∨(s.length:Int)<0):=by omega
 rw [isName_iff]
 by_cases h:nlen (s.drop (0:Int).toNat)=0∨255<nlen (s.drop (0:Int).toNat)
 ·rw [nscan_bad h0 h]
  rw [show (0:Int).toNat=0 from rfl,List.drop_zero] at h
  constructor
  ·rintro ⟨h1,_⟩; simp at h1
  ·rintro ⟨h1,h2,h3⟩; omega
 ·rw [nscan_good h0 h]
  rw [show (0:Int).toNat=0 from rfl,List.drop_zero] at h ⊢
  constructor
  ·rintro ⟨_,h1⟩
   have h1:nlen s=s.length:=by simp at h1; omega
   omega
  ·rintro ⟨h1,h2,h3⟩; exact ⟨rfl,by simp [h1]⟩
theorem byteAt_drop (l:List UInt8) (p j:Nat):byteAt (l.drop p) j=byteAt l (p+j):=by simp [byteAt]
theorem nlen_stop (l:List UInt8) (p m:Nat) (h:p+m≤l.length) (ha:∀ j,j<m→okB j (byteAt l (p+j))=true) (h2:p+m=l.length∨okB m (byteAt l (p+m))=false):nlen (l.drop p)=m:=by
 refine nrun_stop _ 0 m (by rw [List.length_drop]; omega) (fun j hj=>?_) ?_
 ·rw [Nat.zero_add,byteAt_drop]; exact ha j hj
 ·rw [Nat.zero_add,byteAt_drop,List.length_drop]
  rcases h2 with h2 | h2
  ·exact .inl (by omega)
  ·exact .inr h2
structure Ordered (x:List (List UInt8)) (o:List Nat):Prop where
 perm:o.Perm (List.range x.length)
 up:o.Pairwise fun a b=>x.getD a []<x.getD b []
end Go.Proofs.YtgakcdcfblgagaaDoor.Name
namespace Go.Proofs.YtgakcdcfblgagaaDoor.Num
open Go.RowKit
def DigJ (w:World) (A:Option Addr) (n c:Nat) (l:List UInt8) (a':Act) (w':World):Prop :=
 w=w'∧∃ (k:Nat) (u4 u5 u6 u7 u8 u9 u10 u11 u12 u13 u14 u15 u16 u17 u18 u19 u20 u21 u22 u23 u24:Value),k≤n∧(∀ j,j<k→isDig (l.getD j 0)=true)∧a'={ tmps:=#[.slice A n c,undef,.int .i64 0,.int .i64 k,u4,u5,u6,u7,u8,u9,u10,u11,u12,u13,u14,u15,u16,u17,u18,u19,u20,u21,u22,u23,u24],defers:=[] }
def DigM (n:Nat) (a':Act) (_:World):Nat:=n - (intOf (a'.tmps.getD 3 undef)).toNat

theorem digits_any (A:Option Addr) (n c:Nat) (l:List UInt8) (w:World) (h:Row w A n l) :
  Calls Tryd.prog 80 #[.slice A n c] w fun e w'=>e=.returned (.int .i64 (run l))∧w=w':=by
 obtain ⟨hl,hm,hc⟩:=h
 unfold maxLen at hm
 have HC:=Lib.hid hc; clear hc
 have HL:=Lib.hid hl; clear hl
 go_enter Tryd.func80,Tryd.ntmps80
 go_wp2
 refine wp_scope_back 0 (DigJ w A n c l) (DigM n) rfl ?_ ?_
 ·rintro a' w' ⟨rfl,k,u4,u5,u6,u7,u8,u9,u10,u11,u12,u13,u14,u15,u16,u17,u18,u19,u20,u21,u22,u23,u24,hk,hd,rfl⟩
  have HD:=Lib.hid hd; clear hd
  by_cases hlt:k<n
  ·obtain ⟨b,o,rfl,hb,hcell⟩:=HC.out (by omega)
   have hx:=hcell k hlt
   clear hcell HC
   have hbd:=byteAt_bd l k
   have HI:=Lib.hid (isDig_at l k)
   generalize byteAt l k=x at hx hbd HI
   have HS:Hid (¬ (48≤x∧x≤57)→run l=k):=fun hn=>run_stop l k (by rw [HL.out]; omega) HD.out (.inr (by rw [← HI.out] at hn; simpa using hn))
   by_cases h1:48≤x
   ·by_cases h2:x≤57
    ·go_wp2
     go_step3
     rw [show ((k:Int)+1)=((k+1:Nat):Int) from rfl]
     refine ⟨rfl,⟨rfl,k+1,_,_,_,_,_,_,_,_,_,_,_,_,_,_,_,_,_,_,_,_,_,by omega,?_,rfl⟩,?_⟩
     ·intro j hj
      rcases Nat.lt_or_ge j k with hj1 | hj1
      ·exact HD.out j hj1
      ·obtain rfl:j=k:=by omega
       exact HI.out.2 ⟨h1,h2⟩
     ·simp [DigM,intOf]; omega
    ·go_wp2
     simp only [Exit.jump]
     go_ret
     exact ⟨ret_int (by rw [HS.out (by omega)]),rfl⟩
   ·go_wp2
    simp only [Exit.jump]
    go_ret
    exact ⟨ret_int (by rw [HS.out (by omega)]),rfl⟩
  ·have HS:Hid (run l=k):=run_stop l k (by rw [HL.out]; omega) HD.out (.inl (by rw [HL.out]; omega))
   go_wp2
   simp only [Exit.jump]
   go_ret
   exact ⟨ret_int (by rw [HS.out]),rfl⟩
 ·intro HP
  go_wp2
  go_step3
  rename_i hK
  exact hK _ _ (HP.out _ _ ⟨rfl,0,_,_,_,_,_,_,_,_,_,_,_,_,_,_,_,_,_,_,_,_,_,by omega,(fun j hj=>by omega),rfl⟩)

theorem padded_any (A:Option Addr) (n c:Nat) (l:List UInt8) (w:World) (h:Row w A n l) :
  Calls Tryd.prog 81 #[.slice A n c] w fun e w'=>e=.returned (.bool (pad l))∧w=w':=by
 obtain ⟨hl,hm,hc⟩:=h
 unfold maxLen at hm
 by_cases hlt:1<n
 ·obtain ⟨b,o,rfl,hb,hcell⟩:=hc (by omega)
  have hx:=hcell 0 (by omega)
  simp only [Nat.add_zero] at hx
  have HI:Hid (byteAt l 0=48↔(l.getD 0 0).toNat=48):=by unfold Hid byteAt; omega
  have HL:=Lib.hid hl
  clear hcell hc hl
  generalize byteAt l 0=x at hx HI
  by_cases h48:x=48
  ·have HF:Hid (pad l=true):=(pad_iff l).2 ⟨by rw [HL.out]; exact hlt,HI.out.1 h48⟩
   have hb1:(x == 48)=true:=by simp [h48]
   have H48:=Lib.hid h48; clear h48
   go_enter Tryd.func81,Tryd.ntmps81
   go_wp2
   go_ret
   exact ⟨by rw [HF.out]; rfl,rfl⟩
  ·have HF:Hid (pad l=false):=(pad_no l).2 fun hh=>h48 (HI.out.2 hh.2)
   have hb1:(x == 48)=false:=by simp [h48]
   go_enter Tryd.func81,Tryd.ntmps81
   go_wp2
   go_ret
   exact ⟨by rw [HF.out]; rfl,rfl⟩
 ·have HF:Hid (pad l=false):=(pad_no l).2 fun hh=>hlt (by rw [← hl]; exact hh.1)
  clear hc hl
  go_enter Tryd.func81,Tryd.ntmps81
  go_wp2
  go_ret
  exact ⟨by rw [HF.out]; rfl,rfl⟩

end Go.Proofs.YtgakcdcfblgagaaDoor.Num
namespace Go.Proofs.YtgakcdcfblgagaaDoor.Num
open Go.RowKit

theorem run_bytesD (w:World) (s:ByteArray) (hs:s.size≤maxLen):∃ c W,s.size≤c ∧
  (convert 9 22 (.string s)).run Tryd.prog w=.ok (.slice (some ⟨w.heap.size,0,none⟩) s.size c) W∧Row W (some ⟨w.heap.size,0,none⟩) s.size s.data.toList∧BelowD w.heap.size w W:=by
 refine ⟨_,_,grownCap_ge w s.size 0 5,Lib.run_convert_string_bytes (P:=Tryd.prog) w 9 22 5 s Tryd.underlying9 Tryd.underlying22 Tryd.underlying5,?_,?_⟩
 ·refine ⟨(Lib.size_eq s).symm,hs,fun h0=>⟨w.heap.size,0,rfl,by rw [Lib.bytesWorld_size]; omega,fun j hj=>?_⟩⟩
  rw [Nat.zero_add,Lib.bytesWorld_cell w 5 s j hj]; rfl
 ·exact ⟨⟨by simp [Lib.bytesWorld,World.freeze]; rfl,by simp [Lib.bytesWorld,World.freeze],by simp [Lib.bytesWorld,World.freeze]; rfl,by rw [Lib.bytesWorld_size]; omega,fun k hk=>Lib.bytesWorld_at_old w 5 s k hk⟩,by simp [Lib.bytesWorld,World.freeze]⟩

theorem run_bytes (w:World) (s:ByteArray) (hs:s.size≤maxLen):∃ c W,s.size≤c ∧
  (convert 9 22 (.string s)).run Tryd.prog w=.ok (.slice (some ⟨w.heap.size,0,none⟩) s.size c) W∧Row W (some ⟨w.heap.size,0,none⟩) s.size s.data.toList∧Below w.heap.size w W:=by
 obtain ⟨c,W,h1,h2,h3,h4⟩:=run_bytesD w s hs
 exact ⟨c,W,h1,h2,h3,h4.toBelow⟩



end Go.Proofs.YtgakcdcfblgagaaDoor.Num
