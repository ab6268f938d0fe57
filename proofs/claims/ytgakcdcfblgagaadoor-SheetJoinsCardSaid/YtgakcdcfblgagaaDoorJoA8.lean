/-
  What the theorem of the last text needs of these: SpCopied, SpHas, RgLt, RgTail, RgStep, SpSweepJ, RgGood, KRow, RgOp, RgWeak, NmPlain, NmGood, MoHeap. Conditions: as each theorem states.
-/
import Derived.Test.YtgakcdcfblgagaaDoorJoA1
import Derived.Test.YtgakcdcfblgagaaDoorJoA2
import Derived.Test.YtgakcdcfblgagaaDoorJoA3
import Derived.Test.YtgakcdcfblgagaaDoorJoA4
import Derived.Test.YtgakcdcfblgagaaDoorJoA7
import Derived.Deep.CutBlock
import Derived.Deep.DeepCutAuto
import Derived.Test.YtgakcdcfblgagaaDoorChecked
import Derived.WalkKit
import Derived.ChangeKeysEq
import Derived.Laws.StructEq
import Derived.StillTailTactics
import Derived.Deep.RegionHeld3
import Derived.RegionTactic
import Derived.ChangeAlike
import Derived.WalkSmall
import Derived.Laws.OwnMore
import Derived.Deep.QuietTactic
import Derived.BigQuiet
import Derived.SizedLaws
set_option maxRecDepth 100000
set_option maxHeartbeats 25600000
namespace Go.Proofs.YtgakcdcfblgagaaDoor.Span
open Go.RowKit Num Ident Semver Prec

structure OwnC (w:World) (B:Nat) (r:RCut):Prop where
 own:w.ownsRow B 9 1 (.slice r.A r.v.pre.length r.c) r.v.pre.length (strs r.v.pre)
 rb:r.B=none
 rd:r.d=0
 build:r.v.build=[]
 fit:Fit r.v.pre

end Go.Proofs.YtgakcdcfblgagaaDoor.Span
namespace Go.Proofs.YtgakcdcfblgagaaDoor.Span
open Go.RowKit Num Ident Semver Prec


structure LaidS (w:World) where
 s:RSp
 h:LiesS w s
end Go.Proofs.YtgakcdcfblgagaaDoor.Span
namespace Go.Proofs.YtgakcdcfblgagaaDoor.Range
open Go.RowKit Num Ident Semver
def LtB (B g:Nat):Prop:=g<B
end Go.Proofs.YtgakcdcfblgagaaDoor.Range
namespace Go.Proofs.YtgakcdcfblgagaaDoor.Range
open Num Ident Semver

structure Tail (T T0:List UInt8):Prop where
 head:∃ b t,T=b :: t∧(b=32∨b=9)
 rest:blanks T=T0
 shut:T0=[]∨∃ t,T0=41 :: t

theorem pread_ok {l:List UInt8}:(pread l).1=0↔(exprF (pone 64) (blanks l)).1=0∧(exprF (pone 64) (blanks l)).2.1=[]:=by
 have hp:=((exprF_piece (pone_piece 64) (blanks l)).trans (Piece.blanks l)).len
 have e:pparse l 0=((exprF (pone 64) (blanks l)).1,l.length - (exprF (pone 64) (blanks l)).2.1.length,(exprF (pone 64) (blanks l)).2.2):=by
  unfold pparse; rw [if_neg (by omega)]; rfl
 unfold pread
 rw [e]
 generalize exprF (pone 64) (blanks l)=t at hp ⊢
 obtain ⟨f,s,r⟩:=t
 simp only at hp ⊢
 by_cases h0:f≠0
 ·rw [if_pos h0]
  exact ⟨fun h=>absurd h h0,fun h=>absurd h.1 h0⟩
 ·rw [if_neg h0]
  have h0':f=0:=by simpa using h0
  by_cases h1:l.length - s.length≠l.length
  ·rw [if_pos h1]
   refine ⟨fun h=>absurd h (show (13:Nat)≠0 by decide),fun h=>?_⟩
   have:=h.2
   subst this
   exact absurd rfl h1
  ·rw [if_neg h1]
   exact ⟨fun _=>⟨h0',List.eq_nil_of_length_eq_zero (by omega)⟩,fun _=>rfl⟩
theorem pread_range {l:List UInt8} (h:(pread l).1=0):pread l=(0,0,(exprF (pone 64) (blanks l)).2.2):=by
 have h1:=pread_ok.1 h
 have e:pparse l 0=((exprF (pone 64) (blanks l)).1,l.length - (exprF (pone 64) (blanks l)).2.1.length,(exprF (pone 64) (blanks l)).2.2):=by
  unfold pparse; rw [if_neg (by omega)]; rfl
 unfold pread
 rw [e,h1.1,h1.2,if_neg (by simp),if_neg (by simp)]
end Go.Proofs.YtgakcdcfblgagaaDoor.Range
namespace Go.Proofs.YtgakcdcfblgagaaDoor.Range
open Go.RowKit Num Ident Semver

def nums (l:List UInt8):List Int:=l.map fun b=>(b.toNat:Int)
theorem nums_len (l:List UInt8):(nums l).length=l.length:=by simp [nums]
theorem nums_back (l:List UInt8):Lib.bytesOf (nums l)=l:=by
 unfold Lib.bytesOf nums
 rw [List.map_map]
 have:((fun n:Int=>UInt8.ofNat n.toNat) ∘ fun b:UInt8=>(b.toNat:Int))=id:=by funext b; simp
 rw [this,List.map_id]
theorem bytes_in {w:World} {A:Option Addr} {n:Nat} {l:List UInt8} (h:Row w A n l):Lib.BytesIn w A n (nums l):=by
 intro h0
 obtain ⟨b,o,e,_,hc⟩:=h.2.2 h0
 refine ⟨b,o,e,fun i hi=>?_⟩
 rw [hc i hi]
 have hl:i<l.length:=by rw [h.1]; exact hi
 unfold byteAt nums
 simp [List.getD,List.getElem?_eq_getElem hl]
theorem has_any (A B:Option Addr) (n c m d:Nat) (l t:List UInt8) (w:World) (h:Row w A n l) (k:Row w B m t) (hc:n≤c) :
  Calls Tryd.prog 93 #[.slice A n c,.slice B m d] w fun e w'=>e=.returned (.bool (stands t l))∧w'=w:=by
 have:=Tryd.bytes_HasPrefix_all A B n c m d (nums l) (nums t) w (by rw [nums_len,h.1]) (by rw [nums_len,k.1]) hc (bytes_in h) (bytes_in k)
 rw [nums_back,nums_back] at this
 exact this
theorem index_mem (l:List UInt8) (c:UInt8):0≤Lib.indexByte l c↔c ∈ l:=by
 induction l with
 | nil=>simp [Lib.indexByte]
 | cons b l ih =>
  have hg:=Lib.indexByte_ge l c
  unfold Lib.indexByte
  by_cases hb:b=c
  ·subst hb; simp
  ·have h1:(b == c)=false:=beq_eq_false_iff_ne.2 hb
   rw [h1,if_neg (by simp),List.mem_cons]
   by_cases h2:Lib.indexByte l c=-1
   ·rw [h2] at ih ⊢
    simp only [beq_self_eq_true,if_true]
    constructor
    ·intro h; omega
    ·rintro (h | h)
     ·exact absurd h.symm hb
     ·have:=ih.2 h; omega
   ·have h3:(Lib.indexByte l c == -1)=false:=beq_eq_false_iff_ne.2 h2
    rw [h3,if_neg (by simp)]
    constructor
    ·intro h; exact .inr (ih.1 (by omega))
    ·intro h; omega
theorem stands_any (b:Nat) (A:Option Addr) (n c p:Nat) (l s t:List UInt8) (w:World) (hR:Rd w b A n c p) (hr:Row w A n l) (hc:n≤c) (hs:Pl l p s) (ht:t.length≤1000) :
  Calls Tryd.prog 79 #[.pointer (some ⟨b,0,none⟩),.string (mk t)] w fun e w'=>e=.returned (.bool (stands t s))∧Rd w' b A n c p∧Moved b w w':=by
 have hm:=hr.2.1
 unfold maxLen at hm
 have hp:p≤n:=by have:=hs.le; rw [hr.1] at this; exact this
 have hcp:n - p≤c - p:=by omega
 obtain ⟨R,hRR⟩:∃ R,(if c=p then A else A.map (fun x=>x.add p))=R:=⟨_,rfl⟩
 obtain ⟨c2,W1,hc2,hcv,hr2,hb2⟩:=run_bytes w.drew (mk t) (by rw [mk_size]; unfold maxLen; omega)
 have HK1:Hid (Rd W1 b A n c p):=hR.drew.kept hb2 hR.lt
 have HM1:Hid (Moved b w W1):=(Moved.refl b w).drew.below hb2 (Nat.le_refl _) hR.lt
 have HRR:Hid (Row W1 R (n - p) s):=by
  have:=Row.from_ hr p c hp hc hRR
  rw [hs.eq]
  exact row_keep this (hR.keep HM1.out)
 obtain ⟨A2,hA2⟩:∃ A2,some (⟨w.drew.heap.size,0,none⟩:Addr)=A2:=⟨_,rfl⟩
 rw [hA2] at hcv hr2
 have HRB:Hid (Row W1 A2 (mk t).size t):=hr2
 have HCV:=Lib.hid hcv
 obtain ⟨_,_,hx0,hx1,_⟩:=hR
 clear hr hs hr2 hcv hb2 hA2
 go_enter Tryd.func79,Tryd.ntmps79
 go_upto_region 1 with (fail)
 refine wp_region_held_drew (S:=fun w'=>w'.cell? ⟨b,0,none⟩=some (.slice A n c)∧w'.cell? ⟨b,1,none⟩=some (.int .i64 p)) (by kernel_rfl) ⟨hx0,hx1⟩ (fun hHeld=>?_)
 refine tk 0 rfl (.pointer (some ⟨b,0,none⟩)) ?_
 refine tk 1 rfl (.pointer (some ⟨b,0,none⟩)) ?_
 refine tk 2 rfl (.pointer (some ⟨b,0,none⟩)) ?_
 refine tk 3 rfl (.slice A n c) ?_ fun w' hS'=>by have x:=hS'.1; go_simp
 refine tk 4 rfl (.pointer (some ⟨b,0,none⟩)) ?_
 refine tk 5 rfl (.pointer (some ⟨b,0,none⟩)) ?_
 refine tk 6 rfl (.pointer (some ⟨b,1,none⟩)) ?_
 refine tk 7 rfl (.int .i64 p) ?_ fun w' hS'=>by have x:=hS'.2; go_simp
 refine tk 8 rfl (.slice R (n - p) (c - p)) ?_
 refine tk 9 rfl (.string (mk t)) ?_
 refine cl 10 rfl fun K hK=>?_
 go_simp
 rw [HCV.out]
 simp only [Result.andThen_ok]
 refine hK.out _ _ ⟨HK1.out.row,HK1.out.at_⟩ (fun hHeld=>?_)
 clear hK K
 try simp only [Act.put,p1,p2,p3]
 refine cl 11 rfl fun K hK=>?_
 go_simp
 refine (has_any R A2 _ _ _ _ _ _ _ HRR.out HRB.out hcp).mono ?_
 rintro e w2 ⟨rfl,rfl⟩
 clear hHeld
 refine hK.out _ _ ⟨HK1.out.row,HK1.out.at_⟩ (fun hHeld=>?_)
 clear hK K
 try simp only [Act.put,p1,p2,p3]
 refine tk 12 rfl (.bool (stands t s)) ?_
 refine wpAnyH_done (by kernel_rfl) ?_ _
 go_wp2
 go_ret
 exact ⟨rfl,HK1.out,HM1.out⟩
theorem oneOf_any (b:Nat) (A:Option Addr) (n c p:Nat) (l s t:List UInt8) (w:World) (hR:Rd w b A n c p) (hr:Row w A n l) (hs:Pl l p s) :
  Calls Tryd.prog 92 #[.pointer (some ⟨b,0,none⟩),.string (mk t)] w fun e w'=>e=.returned (.bool (oneOf t s))∧Rd w' b A n c p∧Moved b w w':=by
 have hm:=hr.2.1
 unfold maxLen at hm
 have HP:=Lib.hid hs
 have HL:=Lib.hid hr.1
 have HR:=Lib.hid hR
 have HRow:=Lib.hid hr
 obtain ⟨_,_,hx0,hx1,_⟩:=hR
 clear hr hs
 by_cases h1:p<n
 ·obtain ⟨g,o,rfl,hg,hcell⟩:=HRow.out.2.2 (by omega)
  have hx:=hcell p h1
  have HT:=Lib.hid (pl_next HP.out (by rw [HL.out]; exact h1))
  have HF:Hid (∀ (x:Int),byteAt l p=x→oneOf t s=decide (0≤Lib.indexByte t x.toNat.toUInt8)):=fun x hx=>by
   rw [HT.out,← hx]
   show decide (l.getD p 0 ∈ t)=_
   have e:(byteAt l p).toNat.toUInt8=l.getD p 0:=by unfold byteAt; simp
   rw [e,decide_eq_decide,index_mem]
  clear hcell
  obtain ⟨x,hxx⟩:∃ x,byteAt l p=x:=⟨_,rfl⟩
  have HF2:=Lib.hid (HF.out x hxx)
  rw [hxx] at hx
  clear hxx HF
  have hk1:(p:Int)<(n:Int):=by omega
  have HI:=Lib.hid (fun W=>Tryd.strings_IndexByte (mk t) x W)
  rw [mk_list] at HI
  generalize Lib.indexByte t x.toNat.toUInt8=y at HF2 HI
  rw [HF2.out]
  go_enter Tryd.func92,Tryd.ntmps92
  go_wp2_with fail
  go_quiet (first | (go_at_call 100; refine Calls.quiet_of_same (HI.out _)))
  go_wp2
  go_ret
  exact ⟨rfl,HR.out.drewN _,(Moved.refl b w).drewN _⟩
 ·have HF:Hid (oneOf t s=false):=by
   have e:s=[]:=by rw [HP.out.eq]; exact List.drop_eq_nil_of_le (by rw [HL.out]; omega)
   unfold Hid; rw [e]; rfl
  have hk1:decide ((p:Int)<(n:Int))=false:=by simp; omega
  rw [HF.out]
  go_enter Tryd.func92,Tryd.ntmps92
  go_wp2_with fail
  go_quiet (fail)
  go_wp2
  go_ret
  exact ⟨rfl,HR.out.drewN _,(Moved.refl b w).drewN _⟩
theorem lack_any (b:Nat) (A:Option Addr) (n c p:Nat) (l s:List UInt8) (w:World) (hR:Rd w b A n c p) (hr:Row w A n l) (hs:Pl l p s) :
  Calls Tryd.prog 99 #[.pointer (some ⟨b,0,none⟩)] w fun e w'=>e=.returned (.int .i64 (lackN s))∧Rd w' b A n c p∧Moved b w w':=by
 have hm:=hr.2.1
 unfold maxLen at hm
 have HP:=Lib.hid hs
 have HL:=Lib.hid hr.1
 have HR:=Lib.hid hR
 have hle:p≤n:=by have:=hs.le; rw [hr.1] at this; exact this
 obtain ⟨_,_,hx0,hx1,_⟩:=hR
 clear hr hs
 by_cases h1:p=n
 ·have HF:Hid (lackN s=5):=by
   have e:s=[]:=by rw [HP.out.eq]; exact List.drop_eq_nil_of_le (by rw [HL.out]; omega)
   unfold Hid; rw [e]; rfl
  have hk1:((p:Int) == (n:Int))=true:=by simp [h1]
  clear h1
  rw [HF.out]
  go_enter Tryd.func99,Tryd.ntmps99
  go_wp2_with fail
  go_quiet (fail)
  go_wp2
  go_ret
  exact ⟨rfl,HR.out.drewN _,(Moved.refl b w).drewN _⟩
 ·have HF:Hid (lackN s=3):=by
   have e:s≠[]:=by
    intro e
    have:=HP.out.len
    rw [e,HL.out,List.length_nil] at this
    omega
   unfold Hid lackN; rw [if_neg e]
  have hk1:((p:Int) == (n:Int))=false:=by simp; omega
  clear h1
  rw [HF.out]
  go_enter Tryd.func99,Tryd.ntmps99
  go_wp2_with fail
  go_quiet (fail)
  go_wp2
  go_ret
  exact ⟨rfl,HR.out.drewN _,(Moved.refl b w).drewN _⟩
end Go.Proofs.YtgakcdcfblgagaaDoor.Range
namespace Go.Proofs.YtgakcdcfblgagaaDoor.Span
open Go.RowKit Num Ident Semver Prec

structure SwFix (w1:World) (re0:List REdge) (A:Option Addr) (n mb:Nat) (m:Int) (ws:World) (re:List REdge):Prop where
 perm:re.Perm re0
 sorted:re.Pairwise fun x y=>stand x.cut.cut y.cut.cut≤0
 len:re.length=n
 small:n≤100000
 lies:∀ e ∈ re,Lies w1 e.cut
 right:∀ e ∈ re,right e.cut.cut=true
 step:∀ e ∈ re,-10≤e.step∧e.step≤10
 cells:0<n→∃ g,A=some ⟨g,0,none⟩∧g<ws.heap.size∧∀ j,j<n→∀ i u,(re.getD j default).vals[i]?=some u→ws.cell? ⟨g,0+j * 7+i,none⟩=some u
 mbl:mb<ws.heap.size
 mbc:ws.cell? ⟨mb,0,none⟩=some (.int .i64 m)
 old:Below w1.heap.size w1 ws

end Go.Proofs.YtgakcdcfblgagaaDoor.Span
namespace Go.Proofs.YtgakcdcfblgagaaDoor.Range
open Go.RowKit Num Ident Semver
theorem wtL_len:∀ l:List Rng,l.length≤wtL l
 | []=>Nat.le_refl _
 | r :: l=>by rw [wtL_cons,wt_eq,List.length_cons]; have:=wtL_len l; omega
theorem wt_mem {x:Rng}:∀ {l:List Rng},x ∈ l→wt x≤wtL l
 | [],h=>by cases h
 | y :: l,h=>by
  rw [wtL_cons]
  rcases List.mem_cons.1 h with rfl | h
  ·omega
  ·have:=wt_mem h; omega
end Go.Proofs.YtgakcdcfblgagaaDoor.Range
namespace Go.Proofs.YtgakcdcfblgagaaDoor.KR
open Go.RowKit Num
open Range (KeepS LtB InS)

def KRow {α:Type} [Inhabited α] (vals:α→List Value) (k:Nat) (w:World) (S:Nat→Prop) (A:Option Addr) (n:Nat) (l:List α):Prop :=
 l.length=n∧(0<n→∃ b o,A=some ⟨b,o,none⟩∧S b∧b<w.heap.size∧∀ j,j<n→∀ i u,(vals (l.getD j default))[i]?=some u→w.cell? ⟨b,o+j * k+i,none⟩=some u)
section
variable {α:Type} [Inhabited α] {vals:α→List Value} {k:Nat} {w w':World} {S:Nat→Prop} {A:Option Addr} {n:Nat} {l:List α}
theorem KRow.none_ (w:World) (S:Nat→Prop) (A:Option Addr):KRow vals k w S A 0 []:=⟨rfl,fun h=>absurd h (Nat.lt_irrefl _)⟩
theorem KRow.keep (h:KRow vals k w S A n l) (q:KeepS S w w'):KRow vals k w' S A n l:=by
 refine ⟨h.1,fun h0=>?_⟩
 obtain ⟨b,o,e,hb,hlt,hc⟩:=h.2 h0
 exact ⟨b,o,e,hb,Nat.lt_of_lt_of_le hlt q.size,fun j hj i u hu=>q.cell _ _ _ hb (hc j hj i u hu)⟩
theorem KRow.mono {S':Nat→Prop} (h:KRow vals k w S A n l) (hS:∀ b,S b→b<w.heap.size→S' b):KRow vals k w S' A n l:=by
 refine ⟨h.1,fun h0=>?_⟩
 obtain ⟨b,o,e,hb,hlt,hc⟩:=h.2 h0
 exact ⟨b,o,e,hS b hb hlt,hlt,hc⟩
theorem KRow.nil (h:KRow vals k w S none n l):n=0∧l=[]:=by
 rcases Nat.eq_zero_or_pos n with h0 | h0
 ·exact ⟨h0,List.eq_nil_of_length_eq_zero (by rw [h.1]; exact h0)⟩
 ·obtain ⟨b,o,e,_⟩:=h.2 h0
  cases e
theorem KRow.at_ (h:KRow vals k w S A n l) {j:Nat} (hj:j<n):∃ b o,A=some ⟨b,o,none⟩∧S b∧b<w.heap.size∧∀ i u,(vals (l.getD j default))[i]?=some u→w.cell? ⟨b,o+j * k+i,none⟩=some u:=by
 obtain ⟨b,o,e,hb,hlt,hc⟩:=h.2 (by omega)
 exact ⟨b,o,e,hb,hlt,hc j hj⟩
theorem KRow.news {ad:Addr} (hk:∀ x,(vals x).length=k) (hk0:0<k) (h:KRow vals k w S (some ad) n l):∀ j u,(l.flatMap vals)[j]?=some u→w.cell? (ad.add j)=some u:=by
 intro j u hu
 have hj:j<l.length * k:=by have:=(List.getElem?_eq_some_iff.1 hu).1; rwa [flat_len vals k hk] at this
 have hd:j / k<l.length:=Nat.div_lt_of_lt_mul (by rw [Nat.mul_comm]; exact hj)
 obtain ⟨b,o,e,_,_,hc⟩:=h.2 (Nat.lt_of_le_of_lt (Nat.zero_le _) (h.1 ▸ hd))
 injection e with e
 subst e
 have hs:j=(j / k) * k+j % k:=by rw [Nat.mul_comm]; exact (Nat.div_add_mod j k).symm
 rw [hs,flat_get vals k hk l (j / k) (j % k) hd (Nat.mod_lt _ hk0)] at hu
 have:=hc (j / k) (by rw [← h.1]; exact hd) (j % k) u hu
 rw [add_none]
 rw [Nat.add_assoc,← hs] at this
 exact this
theorem KRow.of_own {base:Nat} {e:TypeId} {v:Value} (hk:∀ x,(vals x).length=k) (h:w.ownsRow base e k v n (l.flatMap vals)) (hl:l.length=n) (hS:∀ g,base≤g→g<w.heap.size→S g) :
  ∃ A c,v=.slice A n c∧n≤c∧(A=none→c=0)∧KRow vals k w S A n l:=by
 obtain ⟨A,c,h1,h2,h3,h4⟩:=own_cells hk h hl
 refine ⟨A,c,h1,h2,h3,hl,fun h0=>?_⟩
 obtain ⟨g,e1,hg,hlt,_,hc⟩:=h4 h0
 exact ⟨g,0,e1,hS g hg hlt,hlt,hc⟩
end
theorem run_append_k {α:Type} [Inhabited α] {vals:α→List Value} {k bytes:Nat} {T E:TypeId} {z:Value} (hT:Tryd.prog.underlying T=some (.slice E)) (hI:(Tryd.prog.info? E).map (fun i=>(i.zero,i.size,i.bytes))=some (some z,k,bytes)) (hz:z.cells.size=k) (hk:∀ x,(vals x).length=k) (hk0:0<k) (h1:∀ x,∀ u ∈ vals x,u.oneCell'=true)
  (w:World) (ty:TypeId) (base:Nat) (v:Value) (n:Nat) (l:List α) (hown:w.ownsRow base E k v n (l.flatMap vals)) {S:Nat→Prop} (A:Option Addr) (m c:Nat) (r:List α) (hr:KRow vals k w S A m r) (hnil:A=none→c=0) (hm:n+m≤maxLen) (hb:(n+m) * bytes≤140737488355328) (hbase:base≤w.heap.size) :
  ∃ v' w',(Builtin.append_ #[T,T] ty #[v,.slice A m c]).run Tryd.prog w=.ok v' w'∧w'.ownsRow base E k v' (n+m) ((l ++ r).flatMap vals)∧w.grownBy w' v.ownBlock:=by
 obtain ⟨i,hi,hzi,hs,hby⟩:=info_parts hI
 cases A with
 | none =>
  obtain rfl:=hnil rfl
  obtain ⟨rfl,rfl⟩:=hr.nil
  exact ⟨v,w,run_append_owned_none (P:=Tryd.prog) (w:=w) base T ty E i k hT hi v n _ hown,by simpa using hown,World.grownBy.refl w _⟩
 | some ad =>
  obtain ⟨v',w',h3,h4,h5,_⟩:=run_append_own (P:=Tryd.prog) w base T ty E i z k bytes hT hi hzi hs hby hz hk0 v n _ hown ad m c (r.flatMap vals)
   (by rw [flat_len _ k hk,hr.1]) (hr.news hk hk0) (flat_one _ h1 r) hm hb hbase
  exact ⟨v',w',h3,by rw [List.flatMap_append]; exact h4,h5⟩
theorem region_append {T:TypeId} {yl:Nat→Option Bool} {o:Oper} {a:Act} {w w':World} {K:Act→World→Prop} {Q:Exit→Act→World→Prop} {v v' y:Value} (hw:Region.wanted o yl=true) (s x:Operand)
  (ho:o.op=.call { callee:=.builtin .append,args:=#[s,x],argTypes:=#[T,T] }) (hs:a.eval s=v) (hx:a.eval x=y)
  (hrun:(Builtin.append_ #[T,T] o.type #[v,y]).run Tryd.prog w=.ok v' w') (h:K (a.put o.dst v') w'):if Region.wanted o yl=true then Oper.wp Tryd.prog o a w K Q else K (a.put o.dst undef) w:=by
 rw [if_pos hw]
 unfold Oper.wp execOp
 simp only [ho,resolve,invoke,builtin,Sem.run_bind,Sem.run_pure,Result.andThen_ok,List.map_toArray,List.map_cons,List.map_nil,hs,hx,hrun]
 exact h
structure AtV (W:World) (b:Nat) (L:List Value):Prop where
 lt:b<W.heap.size
 fr:∀ o,W.frozen? ⟨b,o,none⟩=false
 at_:∀ i u,L[i]?=some u→W.cell? ⟨b,i,none⟩=some u
theorem AtV.new (w:World) (t:TypeId) (L:List Value):AtV (w.alloc (.cells L.toArray t)) w.heap.size L :=
 ⟨by simp,fun o=>by simp [go_sem],fun i u hu=>by have:=news_new w L t i u hu; rwa [add_none,Nat.zero_add] at this⟩
theorem AtV.kept {W W':World} {b B:Nat} {L:List Value} (h:AtV W b L) (hb:Below B W W') (hB:b<B):AtV W' b L :=
 ⟨Nat.lt_of_lt_of_le h.lt hb.size,fun o=>(hb.frozen (p:=⟨b,o,none⟩) hB).trans (h.fr o),fun i u hu=>(hb.cell (p:=⟨b,i,none⟩) hB).trans (h.at_ i u hu)⟩
end Go.Proofs.YtgakcdcfblgagaaDoor.KR
namespace Go.Proofs.YtgakcdcfblgagaaDoor.Range
open Go.RowKit Num Ident Semver

def OpsTab (w:World):Prop:=∀ i,i<8→w.cell? ⟨1,i,none⟩=some (.string (mk (ops.getD i [])))
theorem OpsTab.keep {w w':World} (h:OpsTab w) (k:Keep w w'):OpsTab w':=fun i hi=>k.cell _ _ _ (h i hi) (.inl fun x e=>by cases e)
theorem opFrom_at (s:List UInt8) (k:Nat) (hk:k<8):opFrom s (ops.drop k) ((k:Int)+1)=if stands (ops.getD k []) s=true then ((k:Int)+1,ops.getD k []) else opFrom s (ops.drop (k+1)) (((k+1:Nat):Int)+1):=by
 have e:ops.drop k=ops.getD k [] :: ops.drop (k+1):=by
  rw [List.drop_eq_getElem_cons (show k<ops.length from hk)]
  simp [List.getD,List.getElem?_eq_getElem (show k<ops.length from hk)]
 rw [e,opFrom]
 rfl
theorem ops_len (k:Nat):(ops.getD k []).length≤1000:=by
 unfold ops
 match k with
 | 0 | 1 | 2 | 3 | 4 | 5 | 6 | 7=>decide
 | k+8=>exact Nat.zero_le _
def OpJ (w:World) (b:Nat) (A:Option Addr) (n c p:Nat) (s:List UInt8) (i:Value) (W:World):Prop :=
 ∃ k:Nat,k≤8∧i=.int .i64 k∧opFrom s (ops.drop k) ((k:Int)+1)=opOf s∧Rd W b A n c p∧Moved b w W
theorem op_any (b:Nat) (A:Option Addr) (n c p:Nat) (l s:List UInt8) (w:World) (hR:Rd w b A n c p) (hr:Row w A n l) (hc:n≤c) (hs:Pl l p s) (ht:OpsTab w) :
  Calls Tryd.prog 88 #[.pointer (some ⟨b,0,none⟩)] w fun e w'=>e=.returned (.tuple #[.int .i64 (opOf s).1,.string (mk (opOf s).2)])∧Rd w' b A n c p∧Moved b w w':=by
 have HR:=Lib.hid hR
 have HRow:=Lib.hid hr
 have HP:=Lib.hid hs
 have HT:=Lib.hid ht
 clear hR hr hs ht
 go_enter Tryd.func88,Tryd.ntmps88
 go_wp2
 go_loopw [5] (fun i W=>OpJ w b A n c p s i W) (fun i _=>8 - (intOf i).toNat)
 case atStart=>exact ⟨0,by omega,rfl,rfl,HR.out,Moved.refl _ _⟩
 case round =>
  obtain ⟨k,hk,rfl,hop,hR1,hM1⟩:=hrel
  have HR1:=Lib.hid hR1
  have HM1:=Lib.hid hM1
  have HOp:=Lib.hid hop
  have HK:=Lib.hid (HR.out.keep hM1)
  have HT1:=Lib.hid (HT.out.keep HK.out)
  have HRow1:=Lib.hid (row_keep HRow.out HK.out)
  clear hR1 hM1 hop
  by_cases hlt:k<8
  ·have hx:=HT1.out k hlt
   have HSt:=Lib.hid (opFrom_at s k hlt)
   have HC:=Lib.hid (fun W (h1:Rd W b A n c p) (h2:Row W A n l)=>stands_any b A n c p l s (ops.getD k []) W h1 h2 hc HP.out (ops_len k))
   generalize ops.getD k []=t at hx HSt HC
   go_wp2_with fail
   refine (HC.out _ HR1.out HRow1.out).mono ?_
   rintro e w2 ⟨rfl,hR2,hM2⟩
   have HR2:=Lib.hid hR2
   have hx2:w2.cell? ⟨1,k,none⟩=some (.string (mk t)):=(HR1.out.keep hM2).cell _ _ _ hx (.inl fun x e=>by cases e)
   have HM2:=Lib.hid (HM1.out.trans hM2)
   clear hR2 hM2
   cases hst:stands t s with
   | true =>
    have HF:Hid (opOf s=(1+(k:Int),t)):=by
     have:=HSt.out
     rw [hst,if_pos rfl] at this
     rw [Int.add_comm]; exact HOp.out.symm.trans this
    clear HSt hx
    go_wp2_with fail
    go_quiet (fail)
    go_wp2
    go_ret2
    rw [HF.out]
    exact ⟨rfl,HR2.out.drewN _,HM2.out.drewN _⟩
   | false =>
    have HF:Hid (opFrom s (ops.drop (k+1)) (((k+1:Nat):Int)+1)=opOf s):=by
     have:=HSt.out
     rw [hst,if_neg (by simp)] at this
     exact this.symm.trans HOp.out
    clear HSt hx
    go_wp2
    exact ⟨⟨k+1,by omega,by go_num,HF.out,HR2.out,HM2.out⟩,by simp [intOf]; omega⟩
  ·have HF:Hid (opOf s=(5,[])):=by
    have h8:k=8:=by omega
    have:=HOp.out
    rw [h8] at this
    exact this.symm
   have hk8:k=8:=by omega
   subst hk8
   go_wp2
   go_ret2
   rw [HF.out]
   exact ⟨rfl,HR1.out,HM1.out⟩
def FurPost (b:Nat) (A:Option Addr) (n c p:Nat) (l:List UInt8) (w:World) (f:Option (List UInt8)) (e:Ending) (w':World):Prop :=
 Moved b w w'∧match f with
  | some s'=>e=.returned (.bool true)∧∃ q,Pl l q s'∧Rd w' b A n c q
  | none=>e=.returned (.bool false)∧Rd w' b A n c p
theorem furE_any (b:Nat) (A:Option Addr) (n c p:Nat) (l s:List UInt8) (w:World) (hR:Rd w b A n c p) (hr:Row w A n l) (hc:n≤c) (hs:Pl l p s) :
  Calls Tryd.prog 68 #[.pointer (some ⟨b,0,none⟩)] w (FurPost b A n c p l w (furE s)):=by
 have HR:=Lib.hid hR
 have HRow:=Lib.hid hr
 have HP:=Lib.hid hs
 have HFU:Hid (furE s=if stands [124,124] s=true then some (blanks (s.drop 2)) else none):=rfl
 have HLen:=Lib.hid (fun h=>stands_len (t:=[124,124]) (s:=s) h)
 clear hR hr hs
 go_enter Tryd.func68,Tryd.ntmps68
 go_wp2_with fail
 refine (stands_any b A n c p l s [124,124] _ HR.out HRow.out hc HP.out (by decide)).mono ?_
 rintro e w1 ⟨rfl,hR1,hM1⟩
 have HR1:=Lib.hid hR1
 have HM1:=Lib.hid hM1
 have HRow1:=Lib.hid (row_keep HRow.out (HR.out.keep hM1))
 clear hR1 hM1
 cases hst:stands [124,124] s with
 | true =>
  rw [hst] at HFU
  have HF:Hid (furE s=some (blanks (s.drop 2))):=HFU.out
  have h2:=HLen.out hst
  rw [HP.out.len,HRow.out.1] at h2
  have hpn:=HP.out.le
  rw [HRow.out.1] at hpn
  have hk:p+2≤n:=by simp at h2; omega
  clear h2
  go_wp2_with fail
  refine (pass_any b A n c p 2 l s _ HR1.out HRow1.out HP.out hk).mono ?_
  rintro e w2 ⟨rfl,q,hq,hR2,hM2⟩
  go_wp2
  go_ret
  rw [HF.out]
  exact ⟨HM1.out.trans hM2,rfl,q,hq,hR2⟩
 | false =>
  rw [hst] at HFU
  have HF:Hid (furE s=none):=HFU.out
  go_wp2
  go_ret
  rw [HF.out]
  exact ⟨HM1.out,rfl,HR1.out⟩
theorem furO_any (b:Nat) (A:Option Addr) (n c p:Nat) (l s:List UInt8) (w:World) (hR:Rd w b A n c p) (hr:Row w A n l) (hc:n≤c) (hs:Pl l p s) :
  Calls Tryd.prog 78 #[.pointer (some ⟨b,0,none⟩)] w (FurPost b A n c p l w (furO s)):=by
 have HR:=Lib.hid hR
 have HRow:=Lib.hid hr
 have HP:=Lib.hid hs
 have HFU:Hid (furO s=if stands [44] s=true then some (blanks (s.drop 1)) else if oneOf starts s=true then some s else none):=rfl
 have HLen:=Lib.hid (fun h=>stands_len (t:=[44]) (s:=s) h)
 clear hR hr hs
 go_enter Tryd.func78,Tryd.ntmps78
 go_wp2_with fail
 refine (stands_any b A n c p l s [44] _ HR.out HRow.out hc HP.out (by decide)).mono ?_
 rintro e w1 ⟨rfl,hR1,hM1⟩
 have HR1:=Lib.hid hR1
 have HM1:=Lib.hid hM1
 have HRow1:=Lib.hid (row_keep HRow.out (HR.out.keep hM1))
 clear hR1 hM1
 cases hst:stands [44] s with
 | true =>
  rw [hst] at HFU
  have HF:Hid (furO s=some (blanks (s.drop 1))):=HFU.out
  have h2:=HLen.out hst
  rw [HP.out.len,HRow.out.1] at h2
  have hpn:=HP.out.le
  rw [HRow.out.1] at hpn
  have hk:p+1≤n:=by simp at h2; omega
  clear h2
  go_wp2_with fail
  refine (pass_any b A n c p 1 l s _ HR1.out HRow1.out HP.out hk).mono ?_
  rintro e w2 ⟨rfl,q,hq,hR2,hM2⟩
  go_wp2
  go_ret
  rw [HF.out]
  exact ⟨HM1.out.trans hM2,rfl,q,hq,hR2⟩
 | false =>
  rw [hst] at HFU
  have HFU2:Hid (furO s=if oneOf starts s=true then some s else none):=HFU.out
  clear HFU
  go_wp2_with fail
  refine (oneOf_any b A n c p l s starts _ HR1.out HRow1.out HP.out).mono ?_
  rintro e w2 ⟨rfl,hR2,hM2⟩
  have HM2:=Lib.hid (HM1.out.trans hM2)
  have HR2:=Lib.hid hR2
  clear hR2 hM2
  generalize oneOf starts s=x at HFU2
  go_wp2
  go_ret
  rw [HFU2.out]
  cases x with
  | true=>exact ⟨HM2.out,rfl,p,HP.out,HR2.out⟩
  | false=>exact ⟨HM2.out,rfl,HR2.out⟩
end Go.Proofs.YtgakcdcfblgagaaDoor.Range
namespace Go.Proofs.YtgakcdcfblgagaaDoor.Range
open Go.RowKit Num Ident Semver
inductive Weak (w:World) (S:Nat→Prop):Rng→RV→Prop
 | mk (x:RV) (l:List Rng) (f:Nat→RV) (hn:x.n=l.length) (pre:SRow w x.A x.v.pre.length x.v.pre) (build:SRow w x.B x.v.build.length x.v.build) (ip:InS S x.A x.v.pre.length) (ib:InS S x.B x.v.build.length)
   (fp:x.v.pre.length≤maxLen) (fb:x.v.build.length≤maxLen)
   (cells:0<x.n→∃ b o,x.L=some ⟨b,o,none⟩∧S b∧∀ j,j<x.n→CellsAt w b (o+j * 7) (f j)) (subs:∀ j,j<x.n→Weak w S (l.getD j noRng) (f j)):Weak w S (.mk x.kind x.v l) x
theorem Lies.weak {w:World} {S:Nat→Prop} {r:Rng} {x:RV} (h:Lies w S r x):Weak w S r x:=by
 induction h with
 | mk x l f hn he pre build ip ib cp cb fit nil cells _ ih=>exact Weak.mk x l f hn pre build ip ib fit.pre fit.build cells ih
theorem Weak.keep {w w':World} {S:Nat→Prop} {r:Rng} {x:RV} (h:Weak w S r x) (k:KeepS S w w'):Weak w' S r x:=by
 induction h with
 | mk x l f hn pre build ip ib fp fb cells _ ih =>
  refine Weak.mk x l f hn (srow_keepS pre k ip) (srow_keepS build k ib) ip ib fp fb (fun h0=>?_) ih
  obtain ⟨b,o,e,hb,hc⟩:=cells h0
  exact ⟨b,o,e,hb,fun j hj=>(hc j hj).keep k hb⟩
def WRow (w:World) (S:Nat→Prop) (L:Option Addr) (n:Nat) (l:List Rng):Prop :=
 ∃ f:Nat→RV,l.length=n∧(0<n→∃ b o,L=some ⟨b,o,none⟩∧S b∧∀ j,j<n→CellsAt w b (o+j * 7) (f j))∧∀ j,j<n→Weak w S (l.getD j noRng) (f j)
theorem WRow.one {w:World} {S:Nat→Prop} {L:Option Addr} {n:Nat} {l:List Rng} (h:WRow w S L n l) {j:Nat} (hj:j<n):∃ b o x,L=some ⟨b,o,none⟩∧S b∧CellsAt w b (o+j * 7) x∧Weak w S (l.getD j noRng) x:=by
 obtain ⟨f,_,h2,h3⟩:=h
 obtain ⟨b,o,e,hb,hc⟩:=h2 (by omega)
 exact ⟨b,o,f j,e,hb,hc j hj,h3 j hj⟩
structure WSays (w:World) (S:Nat→Prop) (r:Rng) (x:RV):Prop where
 kind:r.kind=x.kind
 ver:r.ver=x.v
 pre:SRow w x.A x.v.pre.length x.v.pre
 build:SRow w x.B x.v.build.length x.v.build
 fp:x.v.pre.length≤maxLen
 fb:x.v.build.length≤maxLen
 subs:WRow w S x.L x.n r.subs
theorem Weak.says {w:World} {S:Nat→Prop} {r:Rng} {x:RV} (h:Weak w S r x):WSays w S r x:=by
 cases h with
 | mk x l f hn pre build ip ib fp fb cells subs=>exact ⟨rfl,rfl,pre,build,fp,fb,⟨f,hn.symm,cells,subs⟩⟩
end Go.Proofs.YtgakcdcfblgagaaDoor.Range
namespace Go.Proofs.YtgakcdcfblgagaaDoor.Nrm
open Go.RowKit Num Ident Semver Prec Span
open Range (Rng noRng goodR goodL fits wt wtL)

def loPart (c:Cut):List Rng:=if c.kind=1 then [.mk 1 c.v []] else if c.kind=2 then [.mk 2 c.v []] else []
def hiPart (c:Cut):List Rng:=if c.kind=1 then [.mk 4 c.v []] else if c.kind=2 then [.mk 3 c.v []] else []
def neOf (s:Sp):Rng:=.mk 6 s.hi.v []
def lastOf (l:List Sp):Sp:=l.getD (l.length - 1) default
def parts (l:List Sp):List Rng:=loPart (l.getD 0 default).lo ++ hiPart (lastOf l).hi ++ (l.take (l.length - 1)).map neOf



theorem zero_good {d:Nat} (hd:d≤64):goodR noRng d=true:=by
 show goodR (.mk 0 noVer []) d=true
 rw [Range.goodR_eq,Bool.and_eq_true,Bool.and_eq_true,decide_eq_true_eq]
 exact ⟨⟨hd,by decide⟩,rfl⟩
theorem last_snoc (l:List Sp) (s:Sp):lastOf (l ++ [s])=s:=by unfold lastOf; simp

end Go.Proofs.YtgakcdcfblgagaaDoor.Nrm
namespace Go.Proofs.YtgakcdcfblgagaaDoor.Range
open Go.RowKit Num Ident Semver
theorem fits_ver {k:Int} {v:Ver} {n:Nat} (h:ofVersion k=true):fits k v n=(goodV v && decide (n=0)):=by unfold fits; rw [if_pos h]
theorem fits_un {k:Int} {v:Ver} {n:Nat} (h:ofVersion k=false) (h2:sameV v noVer=false):fits k v n=false:=by unfold fits; rw [if_neg (by simp [h]),if_pos h2]
theorem goodL_at {o:Int} {l:List Rng} {d:Nat}:goodL o l d=true↔∀ j,j<l.length→goodR (l.getD j noRng) (d+opens o (l.getD j noRng).kind)=true:=by
 induction l with
 | nil=>exact ⟨fun _ j hj=>by simp at hj,fun _=>rfl⟩
 | cons y l ih =>
  rw [goodL_cons,Bool.and_eq_true,ih]
  constructor
  ·rintro ⟨h1,h2⟩ j hj
   cases j with
   | zero=>exact h1
   | succ j=>exact h2 j (by simpa using hj)
  ·intro h
   exact ⟨h 0 (by simp),fun j hj=>h (j+1) (by simpa using hj)⟩
inductive LenOk:Rng→Prop
 | mk (k:Int) (v:Ver) (l:List Rng) (h:l.length≤9223372036854775807) (hl:∀ y ∈ l,LenOk y):LenOk (.mk k v l)
theorem LenOk.here {r:Rng} (h:LenOk r):r.subs.length≤9223372036854775807:=by cases h with | mk k v l h _=>exact h
theorem LenOk.sub {r y:Rng} (h:LenOk r) (hy:y ∈ r.subs):LenOk y:=by cases h with | mk k v l _ hl=>exact hl y hy
theorem LenOk.of_wt:∀ (m:Nat) (r:Rng),wt r≤m→m≤9223372036854775807→LenOk r
 | 0,r,h,_=>by rw [wt_eq] at h; omega
 | m+1,r,h,hM=>by
  obtain ⟨k,v,l⟩:=r
  rw [wt_eq] at h
  have h2:wtL l≤m:=by have:wtL (Rng.mk k v l).subs=wtL l:=rfl; omega
  exact .mk k v l (by have:=wtL_len l; omega) fun y hy=>LenOk.of_wt m y (Nat.le_trans (wt_mem hy) h2) (by omega)
end Go.Proofs.YtgakcdcfblgagaaDoor.Range
namespace Go.Proofs.YtgakcdcfblgagaaDoor.Copy
open Go.RowKit Num Ident Semver Fr
open Range (Rng noRng RV Lies RgRow CellsAt KeepS LtB InS FitV wt wtL)

abbrev Ghost:=Nat→Option (List Rng)
def Txt (W:World) (B g:Nat):Prop:=g<B∨∃ cur,W.heap[g]?=some (.cells cur 9 (0,0))
theorem keep_but {T S:Nat→Prop} {w w':World} (h:But T w w') (hn:∀ g,S g→¬ T g):KeepS S w w' :=
 ⟨h.size,fun _ _ _ hg hc=>(h.cell (Range.block_lt hc) (hn _ hg)).trans hc⟩
structure Ok1 (W:World) (B:Nat) (G:Ghost) (r:Rng) (x:RV):Prop where
 kind:r.kind=x.kind
 ver:r.ver=x.v
 pre:SRow W x.A x.v.pre.length x.v.pre
 build:SRow W x.B x.v.build.length x.v.build
 ip:InS (Txt W B) x.A x.v.pre.length
 ib:InS (Txt W B) x.B x.v.build.length
 cp:x.v.pre.length≤x.c
 cb:x.v.build.length≤x.d
 fit:FitV x.v
 nil:x.L=none→x.e=0
 cap:x.n≤x.e
 subs:r.subs.length=x.n
 at_:RgRow W (LtB B) x.L x.n r.subs∨∃ g,x.L=some ⟨g,0,none⟩∧G g=some r.subs
def Typed (W:World) (B:Nat) (G:Ghost):Prop :=
 ∀ g rs,G g=some rs→∃ (c:Nat) (xs:List RV),xs.length=rs.length∧W.ownsRow B 51 7 (.slice (some ⟨g,0,none⟩) rs.length c) rs.length (xs.flatMap RV.vals)∧∀ j,j<rs.length→Ok1 W B G (rs.getD j noRng) (xs.getD j default)
structure Cur (W:World) (B:Nat) (G:Ghost) (g:Nat) (rs:List Rng) (j:Nat) (x:RV):Prop where
 typed:Typed W B G
 told:G g=some rs
 lt:j<rs.length
 here:∃ (c:Nat) (xs:List RV),xs.length=rs.length∧W.ownsRow B 51 7 (.slice (some ⟨g,0,none⟩) rs.length c) rs.length (xs.flatMap RV.vals)∧(∀ j,j<rs.length→Ok1 W B G (rs.getD j noRng) (xs.getD j default))∧xs.getD j default=x
end Go.Proofs.YtgakcdcfblgagaaDoor.Copy
