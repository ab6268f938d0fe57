/-
  What the theorem of the last text needs of these: MoRefSolves, MoPinsW, MoSorted. Conditions: as each theorem states.
-/
import Derived.Test.YtnpjklaaokiikaaGreatDoorPlA1
import Derived.Test.YtnpjklaaokiikaaGreatDoorPlA3
import Derived.Test.YtnpjklaaokiikaaGreatDoorPlA6
import Derived.Test.YtnpjklaaokiikaaGreatDoorPlA7
import Derived.Test.YtnpjklaaokiikaaGreatDoorPlA8
import Derived.Test.YtnpjklaaokiikaaGreatDoorPlA10
import Derived.Test.YtnpjklaaokiikaaGreatDoorPlA11
import Derived.Test.YtnpjklaaokiikaaGreatDoorPlA14
import Derived.Test.YtnpjklaaokiikaaGreatDoorPlA16
import Derived.Test.YtnpjklaaokiikaaGreatDoorPlA20
import Derived.Test.YtnpjklaaokiikaaGreatDoorPlA21
import Derived.Test.YtnpjklaaokiikaaGreatDoorPlA22
import Derived.Test.YtnpjklaaokiikaaGreatDoorPlA23
import Derived.Test.YtnpjklaaokiikaaGreatDoorPlA24
import Derived.Test.YtnpjklaaokiikaaGreatDoorPlA25
import Derived.Deep.QuietTactic
import Derived.BigQuiet
set_option maxRecDepth 100000
set_option maxHeartbeats 25600000
namespace Go.Proofs.YtnpjklaaokiikaaGreatDoor.Model
open Go.RowKit Num Ident Semver
open Range (Rng noRng RV KeepS LtB LenOk goodR wt)
open KR (KRow AtV)

theorem firstG_some {α β:Type} (f:Nat→α→Option β):∀ (l:List α) (m:Nat) (q:Nat × β),firstG f m l=some q→∃ j a,f j a=some q.2
 | [],_,_,h=>by cases h
 | a :: l,m,q,h=>by
  rw [firstG] at h
  split at h
  ·next b hb=>injection h with h; subst h; exact ⟨m,a,hb⟩
  ·exact firstG_some f l (m+1) q h
theorem toO_ne {e d:Int} (h:toO e=some d):d≠0:=by
 unfold toO at h
 split at h
 ·cases h
 ·next h0=>injection h with h; rw [← h]; exact h0
theorem rel_ne {pn:List UInt8} {l:List PRel} {k:Nat} {r:PRel} {q:Int × Int} (h:relF pn l k r=some q):q.2≠0:=by
 unfold relF at h
 split at h
 ·injection h with h; subst h; decide
 ·split at h
  ·injection h with h; subst h; decide
  ·obtain ⟨y,hy,rfl⟩:=Option.map_eq_some_iff.1 h
   obtain ⟨j,a,hj⟩:=firstG_some _ _ _ _ hy
   exact toO_ne hj
theorem pack_ne {x:List PPack} {k:Nat} {p:PPack} {q:Int × Int × Int} (h:packF x k p=some q):q.2.2≠0:=by
 unfold packF at h
 split at h
 ·injection h with h; subst h; decide
 ·split at h
  ·injection h with h; subst h; decide
  ·obtain ⟨y,hy,rfl⟩:=Option.map_eq_some_iff.1 h
   obtain ⟨j,a,hj⟩:=firstG_some _ _ _ _ hy
   exact rel_ne hj
theorem check_zero {x:List PPack}:(out4 (checkF x)).2.2.2=0→checkF x=none:=fun h=>by
 cases hq:checkF x with
 | none=>rfl
 | some q =>
  rw [hq] at h
  have h:q.2.2.2=0:=h
  unfold checkF at hq
  split at hq
  ·injection hq with hq; subst hq; cases h
  ·obtain ⟨y,hy,rfl⟩:=Option.map_eq_some_iff.1 hq
   obtain ⟨j,a,hj⟩:=firstG_some _ _ _ _ hy
   exact absurd h (pack_ne hj)
section
variable {x:List MPack} {s:List MPin} {p:MPin} {r:MRel}
theorem findRel_mem {name:List UInt8} {v:Ver} (h:findRel x name v=some r):∃ q ∈ x,r ∈ q.rels:=by
 unfold findRel at h
 rw [Option.bind_eq_some_iff] at h
 obtain ⟨q,h1,h2⟩:=h
 exact ⟨q,List.mem_of_find?_eq_some h1,List.mem_of_find?_eq_some h2⟩
end
structure SolAt (w:World) (ib:Nat) (A:Option Addr) (n c:Nat) (W:World):Prop where
 ix:AtV W ib [.slice A n c]
 bel:Below w.heap.size w W
structure SolR (w:World) (ib rb:Nat) (A:Option Addr) (n c:Nat) (L:List Value) (W:World):Prop where
 ix:AtV W ib [.slice A n c]
 rel:AtV W rb L
 bel:Below w.heap.size w W
section
variable {w:World} {ib rb:Nat} {A:Option Addr} {n c:Nat} {L:List Value} {W W':World}
theorem SolAt.kept (h:SolAt w ib A n c W) (hb:Below W.heap.size W W'):SolAt w ib A n c W':=⟨h.ix.kept hb h.ix.lt,h.bel.trans (hb.mono h.bel.size)⟩
end
end Go.Proofs.YtnpjklaaokiikaaGreatDoor.Model
namespace Go.Proofs.YtnpjklaaokiikaaGreatDoor.Model
open Go.RowKit Num Ident Semver Fr
open Range (Rng noRng RV KeepS LtB LenOk goodR wt)
open KR (KRow AtV)
open Name (isName)

def pinK (x:List (List UInt8)) (p:PPin):Int:=if isName p.name=false then 12 else if goodV p.v=false then 3 else if p.name ∈ x then 6 else 0
theorem pinK_name {x:List (List UInt8)} {p:PPin} (h:isName p.name=false):pinK x p=12:=by unfold pinK; rw [if_pos h]
theorem pinK_ver {x:List (List UInt8)} {p:PPin} (h:isName p.name=true) (g:goodV p.v=false):pinK x p=3:=by unfold pinK; rw [if_neg (by rw [h]; decide),if_pos g]
theorem pinK_there {x:List (List UInt8)} {p:PPin} (h:isName p.name=true) (g:goodV p.v=true) (q:p.name ∈ x):pinK x p=6:=by unfold pinK; rw [if_neg (by rw [h]; decide),if_neg (by rw [g]; decide),if_pos q]
theorem pinK_good {x:List (List UInt8)} {p:PPin} (h:isName p.name=true) (g:goodV p.v=true) (q:p.name ∉ x):pinK x p=0:=by unfold pinK; rw [if_neg (by rw [h]; decide),if_neg (by rw [g]; decide),if_neg q]
def SeenPost (x:List (List UInt8)) (s:List UInt8) (mb:Nat) (k:Int) (w:World) (e:Ending) (w':World):Prop :=
 e=.returned (.int .i64 k)∧(k=0→SeenAt w' mb (x ++ [s]))∧But (fun b=>b=mb) w w'
theorem pin1_any (p:MPin) (nb mb:Nat) (x:List (List UInt8)) (B:Nat) (w:World) (hp:PinOk w (LtB B) p) (hc:AtV w nb [.map (some mb)]) (hs:SeenAt w mb x) (hx:x.length≤1000) (hne:nb≠mb) (hB:B≤w.heap.size) (hm:B≤mb) :
  Calls Tryz.prog 122 #[p.agg,.pointer (some ⟨nb,0,none⟩)] w (SeenPost x p.name mb (pinK x p.p) w):=by
 have HP:=Lib.hid hp
 have HC:=Lib.hid hc
 have HS:=Lib.hid hs
 have HNE:=Lib.hid hne
 have HM:=Lib.hid hm
 have HE1:=Lib.hid (fun h=>pinK_name (x:=x) (p:=p.p) h)
 have HE2:=Lib.hid (fun h g=>pinK_ver (x:=x) (p:=p.p) h g)
 have HE3:=Lib.hid (fun h g q=>pinK_there (x:=x) (p:=p.p) h g q)
 have HE4:=Lib.hid (fun h g q=>pinK_good (x:=x) (p:=p.p) h g q)
 clear hp hc hs hne hm
 obtain ⟨W0,hW,hav,hb0⟩:∃ W,W=w.alloc (.cells #[.string (Ident.mk p.name),p.ver.v.a,p.ver.v.b,p.ver.v.c,.slice p.ver.A p.ver.v.pre.length p.ver.c,.slice p.ver.B p.ver.v.build.length p.ver.d] 62)∧AtV W w.heap.size [.string (Ident.mk p.name),.int .u64 p.ver.v.a,.int .u64 p.ver.v.b,.int .u64 p.ver.v.c,.slice p.ver.A p.ver.v.pre.length p.ver.c,.slice p.ver.B p.ver.v.build.length p.ver.d]∧Below w.heap.size w W:=⟨_,rfl,AtV.new w _ _,(Below.refl _ _).alloc (Nat.le_refl _) _⟩
 have HAV:=Lib.hid hav
 have HB0:Hid (But (fun b=>b=mb) w W0):=But.of_same hb0 _
 have HP0:Hid (PinOk W0 (LtB B) p):=HP.out.keep (KeepS.of_below hb0)
 have HC0:Hid (AtV W0 nb [.map (some mb)]):=HC.out.kept hb0 HC.out.lt
 have HS0:Hid (SeenAt W0 mb x):=HS.out.kept hb0 HS.out.lt
 have HLB:Hid (B≤W0.heap.size):=Nat.le_trans hB hb0.size
 clear hav hb0 HP HC HS
 obtain ⟨bd,hbd⟩:∃ bd,w.heap.size=bd:=⟨_,rfl⟩
 unfold MPin.agg
 go_enter Tryz.func122,Tryz.ntmps122
 go_upto_region 1 with (fail)
 rw [← hW]
 clear hW
 rw [hbd] at HAV
 clear hbd hB
 have c0:=HAV.out.at_ 0 _ rfl
 go_wp2_with fail
 refine (Name.good_any (Ident.mk p.name) _ (by rw [mk_size]; exact HP0.out.short)).mono ?_
 rw [mk_list]
 rintro e W1 ⟨rfl,hb⟩
 have HAV1:=Lib.hid (HAV.out.kept hb HAV.out.lt)
 have HB1:=Lib.hid (HB0.out.then_same hb)
 have HP1:=Lib.hid (HP0.out.keep (KeepS.of_below (S:=LtB B) hb))
 have HC1:=Lib.hid (HC0.out.kept hb HC0.out.lt)
 have HS1:=Lib.hid (HS0.out.kept hb HS0.out.lt)
 clear hb c0
 cases hnm:isName p.name
 ·have HF:=Lib.hid (HE1.out hnm)
  clear hnm
  go_wp2
  go_ret
  exact ⟨by rw [HF.out]; rfl,(fun h=>by rw [HF.out] at h; cases h),HB1.out⟩
 ·have HNM:=Lib.hid hnm
  clear hnm
  have c1:=HAV1.out.at_ 1 _ rfl
  have c2:=HAV1.out.at_ 2 _ rfl
  have c3:=HAV1.out.at_ 3 _ rfl
  have c4:=HAV1.out.at_ 4 _ rfl
  have c5:=HAV1.out.at_ 5 _ rfl
  go_wp2_with fail
  refine (vgood_any p.ver.v p.ver.A p.ver.c p.ver.B p.ver.d _ HP1.out.ver.pre HP1.out.ver.build HP1.out.ver.fit.pre HP1.out.ver.fit.build HP1.out.ver.fit.pres HP1.out.ver.fit.builds).mono ?_
  rintro e W2 ⟨rfl,hb⟩
  have HAV2:=Lib.hid (HAV1.out.kept hb HAV1.out.lt)
  have HB2:=Lib.hid (HB1.out.then_same hb)
  have HP2:=Lib.hid (HP1.out.keep (KeepS.of_below (S:=LtB B) hb))
  have HC2:=Lib.hid (HC1.out.kept hb HC1.out.lt)
  have HS2:=Lib.hid (HS1.out.kept hb HS1.out.lt)
  clear hb c1 c2 c3 c4 c5
  cases hg:goodV p.ver.v
  ·have HF:=Lib.hid (HE2.out HNM.out hg)
   clear hg
   go_wp2
   go_ret
   exact ⟨by rw [HF.out]; rfl,(fun h=>by rw [HF.out] at h; cases h),HB2.out⟩
  ·have HG:=Lib.hid hg
   clear hg
   have c0:=HAV2.out.at_ 0 _ rfl
   have d0:=HC2.out.at_ 0 _ rfl
   go_wp2_with fail
   refine (again_any mb x (Ident.mk p.name) _ HS2.out (by rw [mk_size]; exact HP2.out.short) (by omega)).mono ?_
   rw [mk_list]
   rintro e W3 ⟨rfl,hs3,hb⟩
   have HS3:=Lib.hid hs3
   have HB3:=Lib.hid (HB2.out.then_ hb)
   clear hb hs3 c0 d0
   by_cases hq:p.name ∈ x
   ·have HF:=Lib.hid (HE3.out HNM.out HG.out hq)
    rw [decide_eq_true hq]
    clear hq
    go_wp2
    go_ret
    exact ⟨by rw [HF.out]; rfl,(fun h=>by rw [HF.out] at h; cases h),HB3.out⟩
   ·have HF:=Lib.hid (HE4.out HNM.out HG.out hq)
    rw [decide_eq_false hq]
    clear hq
    go_wp2
    go_ret
    exact ⟨by rw [HF.out]; rfl,(fun _=>HS3.out),HB3.out⟩
theorem nameB_iff {α:Type} [Inhabited α] (nm:α→List UInt8) (l:List α) (k:Nat):nameB nm l k=true↔nm (l.getD k default) ∈ (l.take k).map nm:=by
 unfold nameB
 simp only [List.any_eq_true,beq_iff_eq,List.mem_map]
theorem pinE_K (s:List PPin) (k:Nat):pinE s k (s.getD k default)=pinK ((s.take k).map PPin.name) (s.getD k default):=by
 unfold pinE pinK
 by_cases h:nameB PPin.name s k=true
 ·rw [if_pos h,if_pos ((nameB_iff _ _ _).1 h)]
 ·rw [if_neg h,if_neg (fun g=>h ((nameB_iff _ _ _).2 g))]
theorem take_map_snoc {α β:Type} [Inhabited α] (f:α→β) (l:List α) {k:Nat} (h:k<l.length):(l.take (k+1)).map f=(l.take k).map f ++ [f (l.getD k default)]:=by
 rw [List.take_succ_eq_append_getElem h,List.map_append,List.getD_eq_getElem?_getD,List.getElem?_eq_getElem h]; rfl
theorem seen_made (w:World) (t:TypeId):∃ W,W=(w.alloc (.map #[] 0)).alloc (.cells #[.map (some w.heap.size)] t)∧SeenAt W w.heap.size []∧AtV W (w.heap.size+1) [.map (some w.heap.size)]∧Below w.heap.size w W:=by
 refine ⟨_,rfl,?_,?_,?_⟩
 ·exact (SeenAt.made w).kept ((Below.refl _ _).alloc (Nat.le_refl _) _) (by simp)
 ·have h:=AtV.new (w.alloc (.map #[] 0)) t [.map (some w.heap.size)]
  rwa [size_alloc] at h
 ·exact ((Below.refl _ _).alloc (Nat.le_refl _) _).alloc (by simp) _
theorem pins_any (A:Option Addr) (n c:Nat) (l:List MPin) (B:Nat) (w:World) (h:SPRow w (LtB B) A n l) (hB:B≤w.heap.size) (hn:n≤1000) :
  Calls Tryz.prog 63 #[.slice A n c] w fun e w'=>e=.returned (out2V (pinsF (l.map MPin.p)))∧Below w.heap.size w w':=by
 obtain ⟨W,hW,hs,ha,hb⟩:=seen_made w 94
 obtain ⟨mb,hmb⟩:∃ mb,w.heap.size=mb:=⟨_,rfl⟩
 have HB:=Lib.hid hb
 have HL:=Lib.hid h.row.1
 have HBM:Hid (B≤mb):=by rw [← hmb]; exact hB
 have hfst:Calls Tryz.prog 121 #[.slice A n c,.func (.func 122) #[] #[.pointer (some ⟨mb+1,0,none⟩)]] W (FirstPost n (fun k=>pinE (l.map MPin.p) k ((l.map MPin.p).getD k default)) (fun k W'=>SeenAt W' mb (((l.map MPin.p).take k).map PPin.name)∧But (fun b=>b=mb) W W') (fun _ W'=>But (fun b=>b=mb) W W')):=by
  rw [hmb] at hs ha
  have hrow:∀ W',But (fun b=>b=mb) W W'→SPRow W' (LtB B) A n l:=fun W' hw=>(h.keep (KeepS.of_below hb)).keep (keepS_but hw fun g hg e=>by have:=HBM.out; have hg:g<B:=hg; omega)
  refine firstPin_any 122 #[.pointer (some ⟨mb+1,0,none⟩)] (enters_of Tryz.func122 (by kernel_rfl) rfl) A n c l _ _ _ (LtB B) W (by unfold maxLen; omega)
   (fun k W' _ hI=>hrow W' hI.2) (fun k W' hk hI=>?_) ⟨hs,But.refl _ _⟩
  have hkl:k<l.length:=by rw [HL.out]; exact hk
  have hx:=pinE_K (l.map MPin.p) k
  rw [map_at MPin.p l hkl] at hx ⊢
  rw [hx]
  refine (pin1_any (l.getD k default) (mb+1) mb (((l.map MPin.p).take k).map PPin.name) B W' ((hrow W' hI.2).ok _ (h.row.mem hk)) (ha.but hI.2 (by omega)) hI.1 (by simp; omega) (by omega) (by have:=HB.out.size; have:=hI.2.size; omega) HBM.out).mono ?_
  rintro e w' ⟨he,h1,h2⟩
  refine ⟨he,fun h0=>⟨?_,hI.2.then_ h2⟩,fun _=>hI.2.then_ h2⟩
  rw [take_map_snoc PPin.name (l.map MPin.p) (by rw [List.length_map]; exact hkl),map_at MPin.p l hkl]
  exact h1 h0
 have HP:Hid (∀ e w',FirstPost n (fun k=>pinE (l.map MPin.p) k ((l.map MPin.p).getD k default)) (fun k W'=>SeenAt W' mb (((l.map MPin.p).take k).map PPin.name)∧But (fun b=>b=mb) W W') (fun _ W'=>But (fun b=>b=mb) W W') e w'→e=.returned (out2V (pinsF (l.map MPin.p)))∧Below w.heap.size w w'):=fun e w' hp=>by
  have hq:=first_out (l.map MPin.p) _ _ _ (by rw [List.length_map,HL.out]; exact hp) (fun k p=>pinE (l.map MPin.p) k p) (fun k _=>rfl)
  refine ⟨hq.1,?_⟩
  have hbt:But (fun b=>b=mb) W w':=by rcases hq.2 with ⟨k,_,hb,_⟩ | ⟨hb,_⟩; exact hb; exact hb.2
  exact HB.out.trans (hbt.to_below HB.out.size (by omega))
 clear h hs ha hb
 have hmm:=@run_makeMap Tryz.prog
 rw [hmb] at hW
 go_enter Tryz.func63,Tryz.ntmps63
 go_upto_region 2 with (fail)
 rw [← hW]
 clear hW hmb hmm
 go_wp2_with fail
 refine hfst.mono ?_
 intro e w' hp
 obtain ⟨he,hb⟩:=HP.out e w' hp
 subst he
 clear hp
 have HB2:=Lib.hid hb
 clear hb
 obtain ⟨r,hr⟩:∃ r,pinsF (l.map MPin.p)=r:=⟨_,rfl⟩
 have HR:=Lib.hid hr
 rw [hr]
 clear hr
 unfold out2V
 go_wp2
 go_ret2
 exact ⟨by rw [HR.out]; rfl,HB2.out⟩
end Go.Proofs.YtnpjklaaokiikaaGreatDoor.Model
namespace Go.Proofs.YtnpjklaaokiikaaGreatDoor.Model
open Go.RowKit Num Ident Semver Fr
open Range (Rng noRng RV KeepS LtB LenOk goodR wt)
open KR (KRow AtV)
open Name (isName)

theorem cmp_less:∀ (a b:List UInt8),Lib.compareBytes a b<0↔a<b
 | [],[]=>by simp [Lib.compareBytes]
 | [],y :: b=>by simp [Lib.compareBytes]
 | x :: a,[]=>by simp [Lib.compareBytes]
 | x :: a,y :: b=>by
  rw [List.cons_lt_cons_iff]
  unfold Lib.compareBytes
  by_cases h1:x<y
  ·rw [if_pos h1]; simp [h1]
  ·rw [if_neg h1]
   by_cases h2:y<x
   ·rw [if_pos h2]
    have h3:x≠y:=fun e=>by subst e; exact h1 h2
    simp [h1,h3]
   ·rw [if_neg h2,cmp_less a b]
    have h3:x=y:=by
     have a1:¬ x.toNat<y.toNat:=fun h=>h1 (UInt8.lt_iff_toNat_lt.2 h)
     have a2:¬ y.toNat<x.toNat:=fun h=>h2 (UInt8.lt_iff_toNat_lt.2 h)
     exact UInt8.toNat_inj.1 (by omega)
    simp [h3,UInt8.lt_irrefl]
theorem sortedPin_any (A:Option Addr) (n c:Nat) (l:List MPin) (g:Nat) (cb:Array Value) (eg:∀ args w,(callFunc g args).run Tryz.prog w=.ok (.enter g args) w) (cf:MPin→MPin→Int) (S:Nat→Prop) (w:World) (hr:KRow MPin.vals 6 w S A n l) (hn:n≤100000)
  (hp:∀ (W:World) (x y:MPin),x ∈ l→y ∈ l→Below w.heap.size w W→Calls Tryz.prog g (#[x.agg,y.agg] ++ cb) W fun e w'=>e=.returned (.int .i64 (cf x y))∧Below W.heap.size W w') :
  Calls Tryz.prog 64 #[.slice A n c,.func (.func g) #[] cb] w fun e w'=>e=.returned (.bool (chainB (fun a b=>decide (0≤cf b a)) l))∧Below w.heap.size w w':=by
 have HR:=Lib.hid hr
 have HL:=Lib.hid hr.1
 have HP:=Lib.hid hp
 clear hr hp
 have hw0:IntKind.i64.wrap ((n:Int) - 1)=(n:Int) - 1:=by rw [IntKind.wrap_i64] <;> omega
 go_enter Tryz.func64,Tryz.ntmps64
 go_wp2
 clear hw0
 go_loopw [5] (fun y W=>∃ k:Int,-1≤k∧k≤(n:Int) - 1∧y=.int .i64 k∧Hid (∀ j:Nat,k≤(j:Int)→j+1<n→decide (0≤cf (l.getD (j+1) default) (l.getD j default))=true)∧Hid (Below w.heap.size w W)) (fun y _=>(intOf y+1).toNat)
 case atStart=>exact ⟨(n:Int) - 1,by omega,by omega,rfl,(fun j h1 h2=>by omega),Below.refl _ _⟩
 case round =>
  rename World=>wk
  obtain ⟨k,hk0,hk1,rfl,HD,HW⟩:=hrel
  by_cases hlt:0<k
  ·obtain ⟨j,rfl⟩:∃ j:Nat,k=(j:Int)+1:=⟨(k - 1).toNat,by omega⟩
   have hjn:j+1<n:=by omega
   have hjn0:j<n:=by omega
   have hw1:IntKind.i64.wrap ((j:Int)+1 - 1)=(j:Int):=by rw [IntKind.wrap_i64] <;> omega
   have hw2:IntKind.i64.wrap (j:Int)=(j:Int):=by rw [IntKind.wrap_i64] <;> omega
   have hn1:¬ (n:Int)≤(j:Int)+1:=by omega
   have hn2:¬ (n:Int)≤(j:Int):=by omega
   have hb1:¬ ((j:Int)+1<0):=by omega
   have hz1:((j:Int)+1).toNat=j+1:=by omega
   have hrow:=HR.out.keep (KeepS.of_below (S:=S) HW.out)
   obtain ⟨b,o,rfl,_,hb,hcx⟩:=hrow.at_ hjn
   obtain ⟨b',o',e',_,_,hcy⟩:=hrow.at_ hjn0
   injection e' with e'
   injection e' with e1 e2
   subst e1
   subst e2
   have hcl:∀ V:World,Below wk.heap.size wk V→Calls Tryz.prog g (#[(l.getD (j+1) default).agg,(l.getD j default).agg] ++ cb) V fun e w'=>e=.returned (.int .i64 (cf (l.getD (j+1) default) (l.getD j default)))∧Below V.heap.size V w':=fun V hV=>HP.out V _ _ (hrow.mem hjn) (hrow.mem hjn0) (HW.out.trans (hV.mono HW.out.size))
   have HYES:Hid (0≤cf (l.getD (j+1) default) (l.getD j default)→∀ i:Nat,(j:Int)≤(i:Int)→i+1<n→decide (0≤cf (l.getD (i+1) default) (l.getD i default))=true):=fun h i h1 h2=>by
    by_cases e:i=j
    ·subst e; exact decide_eq_true h
    ·exact HD.out i (by omega) h2
   have HNO:Hid (cf (l.getD (j+1) default) (l.getD j default)<0→chainB (fun a b=>decide (0≤cf b a)) l=false):=fun h=>chainB_no (i:=j) (by rw [HL.out]; exact hjn) (decide_eq_false (by omega))
   obtain ⟨x,hx⟩:∃ x,l.getD (j+1) default=x:=⟨_,rfl⟩
   obtain ⟨y,hy⟩:∃ y,l.getD j default=y:=⟨_,rfl⟩
   rw [hx] at hcx hcl HYES HNO
   rw [hy] at hcy hcl HYES HNO
   clear hx hy hrow HD
   have x0:=hcx 0 _ rfl
   have x1:=hcx 1 _ rfl
   have x2:=hcx 2 _ rfl
   have x3:=hcx 3 _ rfl
   have x4:=hcx 4 _ rfl
   have x5:=hcx 5 _ rfl
   have y0:=hcy 0 _ rfl
   have y1:=hcy 1 _ rfl
   have y2:=hcy 2 _ rfl
   have y3:=hcy 3 _ rfl
   have y4:=hcy 4 _ rfl
   have y5:=hcy 5 _ rfl
   clear hcx hcy
   obtain ⟨q,hq⟩:∃ q,cf x y=q:=⟨_,rfl⟩
   rw [hq] at hcl HYES HNO
   clear hq
   unfold MPin.agg at hcl
   go_wp2
   have H0:Hid (Below wk.heap.size wk wk.drew):=(Below.refl _ _).drew
   refine wp_region_held_drew (S:=fun w'=>Below wk.heap.size wk w') (by kernel_rfl) H0.out (fun hHeld=>?_)
   generalize wk.drew=wd at H0 hHeld ⊢
   have hcl:=hcl wd H0.out
   refine tk 0 rfl (.func (.func g) #[] cb) ?_
   refine tk 1 rfl (.slice (some ⟨b,o,none⟩) n c) ?_
   refine tk 2 rfl (.int .i64 ((j:Int)+1)) ?_
   refine tk 3 rfl (.pointer (some ⟨b,o+(j+1) * 6,none⟩)) ?_
   refine tk 4 rfl (.agg #[.string (Ident.mk x.name),x.ver.v.a,x.ver.v.b,x.ver.v.c,.slice x.ver.A x.ver.v.pre.length x.ver.c,.slice x.ver.B x.ver.v.build.length x.ver.d]) ?_ (hv:=fun w' hS'=>by ((have z0:=(hS'.cell (p:=⟨b,o+(j+1) * 6,none⟩) hb).trans x0); (have z1:=(hS'.cell (p:=⟨b,o+(j+1) * 6+1,none⟩) hb).trans x1); (have z2:=(hS'.cell (p:=⟨b,o+(j+1) * 6+2,none⟩) hb).trans x2); (have z3:=(hS'.cell (p:=⟨b,o+(j+1) * 6+3,none⟩) hb).trans x3); (have z4:=(hS'.cell (p:=⟨b,o+(j+1) * 6+4,none⟩) hb).trans x4); (have z5:=(hS'.cell (p:=⟨b,o+(j+1) * 6+5,none⟩) hb).trans x5)); go_simp)
   refine tk 5 rfl (.slice (some ⟨b,o,none⟩) n c) ?_
   refine tk 6 rfl (.int .i64 ((j:Int)+1)) ?_
   refine tk 7 rfl (.int .i64 j) ?_
   refine tk 8 rfl (.pointer (some ⟨b,o+j * 6,none⟩)) ?_
   refine tk 9 rfl (.agg #[.string (Ident.mk y.name),y.ver.v.a,y.ver.v.b,y.ver.v.c,.slice y.ver.A y.ver.v.pre.length y.ver.c,.slice y.ver.B y.ver.v.build.length y.ver.d]) ?_ (hv:=fun w' hS'=>by ((have z0:=(hS'.cell (p:=⟨b,o+j * 6,none⟩) hb).trans y0); (have z1:=(hS'.cell (p:=⟨b,o+j * 6+1,none⟩) hb).trans y1); (have z2:=(hS'.cell (p:=⟨b,o+j * 6+2,none⟩) hb).trans y2); (have z3:=(hS'.cell (p:=⟨b,o+j * 6+3,none⟩) hb).trans y3); (have z4:=(hS'.cell (p:=⟨b,o+j * 6+4,none⟩) hb).trans y4); (have z5:=(hS'.cell (p:=⟨b,o+j * 6+5,none⟩) hb).trans y5)); go_simp)
   refine cl 10 rfl fun K hK=>?_
   go_simp
   refine hcl.mono ?_
   rintro e W2 ⟨rfl,hb2⟩
   have HW2:=Lib.hid (HW.out.trans ((H0.out.trans (hb2.mono H0.out.size)).mono HW.out.size))
   refine hK.out _ _ (H0.out.trans (hb2.mono H0.out.size)) (fun hHeld2=>?_)
   clear hK K hb2 hcl x0 x1 x2 x3 x4 x5 y0 y1 y2 y3 y4 y5
   try simp only [Act.put,p1,p2,p3]
   by_cases hlq:q<0
   ·have hdq:decide (q<0)=true:=decide_eq_true hlq
    have HN:=Lib.hid (HNO.out hlq)
    refine tk 11 rfl (.bool true) ?_
    refine wpAnyH_done (by kernel_rfl) ?_ _
    go_wp2
    go_ret
    exact ⟨by rw [HN.out]; rfl,HW2.out⟩
   ·have hdq:decide (q<0)=false:=decide_eq_false hlq
    have HY:=Lib.hid (HYES.out (by omega))
    refine tk 11 rfl (.bool false) ?_
    refine wpAnyH_done (by kernel_rfl) ?_ _
    go_wp2
    exact ⟨⟨(j:Int),by omega,by omega,rfl,HY.out,HW2.out⟩,by simp [intOf]; omega⟩
  ·have hF:chainB (fun a b=>decide (0≤cf b a)) l=true:=by
    rw [chainB_iff]
    intro i hi
    exact HD.out i (by omega) (by rw [← HL.out]; exact hi)
   have HF:=Lib.hid hF
   clear hF
   go_wp2
   go_ret
   exact ⟨by rw [HF.out]; rfl,HW.out⟩
theorem sortedPack_any (A:Option Addr) (n c:Nat) (l:List MPack) (g:Nat) (cb:Array Value) (eg:∀ args w,(callFunc g args).run Tryz.prog w=.ok (.enter g args) w) (cf:MPack→MPack→Int) (S:Nat→Prop) (w:World) (hr:KRow MPack.vals 2 w S A n l) (hn:n≤100000)
  (hp:∀ (W:World) (x y:MPack),x ∈ l→y ∈ l→Below w.heap.size w W→Calls Tryz.prog g (#[x.agg,y.agg] ++ cb) W fun e w'=>e=.returned (.int .i64 (cf x y))∧Below W.heap.size W w') :
  Calls Tryz.prog 45 #[.slice A n c,.func (.func g) #[] cb] w fun e w'=>e=.returned (.bool (chainB (fun a b=>decide (0≤cf b a)) l))∧Below w.heap.size w w':=by
 have HR:=Lib.hid hr
 have HL:=Lib.hid hr.1
 have HP:=Lib.hid hp
 clear hr hp
 have hw0:IntKind.i64.wrap ((n:Int) - 1)=(n:Int) - 1:=by rw [IntKind.wrap_i64] <;> omega
 go_enter Tryz.func45,Tryz.ntmps45
 go_wp2
 clear hw0
 go_loopw [5] (fun y W=>∃ k:Int,-1≤k∧k≤(n:Int) - 1∧y=.int .i64 k∧Hid (∀ j:Nat,k≤(j:Int)→j+1<n→decide (0≤cf (l.getD (j+1) default) (l.getD j default))=true)∧Hid (Below w.heap.size w W)) (fun y _=>(intOf y+1).toNat)
 case atStart=>exact ⟨(n:Int) - 1,by omega,by omega,rfl,(fun j h1 h2=>by omega),Below.refl _ _⟩
 case round =>
  rename World=>wk
  obtain ⟨k,hk0,hk1,rfl,HD,HW⟩:=hrel
  by_cases hlt:0<k
  ·obtain ⟨j,rfl⟩:∃ j:Nat,k=(j:Int)+1:=⟨(k - 1).toNat,by omega⟩
   have hjn:j+1<n:=by omega
   have hjn0:j<n:=by omega
   have hw1:IntKind.i64.wrap ((j:Int)+1 - 1)=(j:Int):=by rw [IntKind.wrap_i64] <;> omega
   have hw2:IntKind.i64.wrap (j:Int)=(j:Int):=by rw [IntKind.wrap_i64] <;> omega
   have hn1:¬ (n:Int)≤(j:Int)+1:=by omega
   have hn2:¬ (n:Int)≤(j:Int):=by omega
   have hb1:¬ ((j:Int)+1<0):=by omega
   have hz1:((j:Int)+1).toNat=j+1:=by omega
   have hrow:=HR.out.keep (KeepS.of_below (S:=S) HW.out)
   obtain ⟨b,o,rfl,_,hb,hcx⟩:=hrow.at_ hjn
   obtain ⟨b',o',e',_,_,hcy⟩:=hrow.at_ hjn0
   injection e' with e'
   injection e' with e1 e2
   subst e1
   subst e2
   have hcl:∀ V:World,Below wk.heap.size wk V→Calls Tryz.prog g (#[(l.getD (j+1) default).agg,(l.getD j default).agg] ++ cb) V fun e w'=>e=.returned (.int .i64 (cf (l.getD (j+1) default) (l.getD j default)))∧Below V.heap.size V w':=fun V hV=>HP.out V _ _ (hrow.mem hjn) (hrow.mem hjn0) (HW.out.trans (hV.mono HW.out.size))
   have HYES:Hid (0≤cf (l.getD (j+1) default) (l.getD j default)→∀ i:Nat,(j:Int)≤(i:Int)→i+1<n→decide (0≤cf (l.getD (i+1) default) (l.getD i default))=true):=fun h i h1 h2=>by
    by_cases e:i=j
    ·subst e; exact decide_eq_true h
    ·exact HD.out i (by omega) h2
   have HNO:Hid (cf (l.getD (j+1) default) (l.getD j default)<0→chainB (fun a b=>decide (0≤cf b a)) l=false):=fun h=>chainB_no (i:=j) (by rw [HL.out]; exact hjn) (decide_eq_false (by omega))
   obtain ⟨x,hx⟩:∃ x,l.getD (j+1) default=x:=⟨_,rfl⟩
   obtain ⟨y,hy⟩:∃ y,l.getD j default=y:=⟨_,rfl⟩
   rw [hx] at hcx hcl HYES HNO
   rw [hy] at hcy hcl HYES HNO
   clear hx hy hrow HD
   have x0:=hcx 0 _ rfl
   have x1:=hcx 1 _ rfl
   have y0:=hcy 0 _ rfl
   have y1:=hcy 1 _ rfl
   clear hcx hcy
   obtain ⟨q,hq⟩:∃ q,cf x y=q:=⟨_,rfl⟩
   rw [hq] at hcl HYES HNO
   clear hq
   unfold MPack.agg at hcl
   go_wp2
   have H0:Hid (Below wk.heap.size wk wk.drew):=(Below.refl _ _).drew
   refine wp_region_held_drew (S:=fun w'=>Below wk.heap.size wk w') (by kernel_rfl) H0.out (fun hHeld=>?_)
   generalize wk.drew=wd at H0 hHeld ⊢
   have hcl:=hcl wd H0.out
   refine tk 0 rfl (.func (.func g) #[] cb) ?_
   refine tk 1 rfl (.slice (some ⟨b,o,none⟩) n c) ?_
   refine tk 2 rfl (.int .i64 ((j:Int)+1)) ?_
   refine tk 3 rfl (.pointer (some ⟨b,o+(j+1) * 2,none⟩)) ?_
   refine tk 4 rfl (.agg #[.string (Ident.mk x.name),.slice x.R x.rels.length x.rc]) ?_ (hv:=fun w' hS'=>by ((have z0:=(hS'.cell (p:=⟨b,o+(j+1) * 2,none⟩) hb).trans x0); (have z1:=(hS'.cell (p:=⟨b,o+(j+1) * 2+1,none⟩) hb).trans x1)); go_simp)
   refine tk 5 rfl (.slice (some ⟨b,o,none⟩) n c) ?_
   refine tk 6 rfl (.int .i64 ((j:Int)+1)) ?_
   refine tk 7 rfl (.int .i64 j) ?_
   refine tk 8 rfl (.pointer (some ⟨b,o+j * 2,none⟩)) ?_
   refine tk 9 rfl (.agg #[.string (Ident.mk y.name),.slice y.R y.rels.length y.rc]) ?_ (hv:=fun w' hS'=>by ((have z0:=(hS'.cell (p:=⟨b,o+j * 2,none⟩) hb).trans y0); (have z1:=(hS'.cell (p:=⟨b,o+j * 2+1,none⟩) hb).trans y1)); go_simp)
   refine cl 10 rfl fun K hK=>?_
   go_simp
   refine hcl.mono ?_
   rintro e W2 ⟨rfl,hb2⟩
   have HW2:=Lib.hid (HW.out.trans ((H0.out.trans (hb2.mono H0.out.size)).mono HW.out.size))
   refine hK.out _ _ (H0.out.trans (hb2.mono H0.out.size)) (fun hHeld2=>?_)
   clear hK K hb2 hcl x0 x1 y0 y1
   try simp only [Act.put,p1,p2,p3]
   by_cases hlq:q<0
   ·have hdq:decide (q<0)=true:=decide_eq_true hlq
    have HN:=Lib.hid (HNO.out hlq)
    refine tk 11 rfl (.bool true) ?_
    refine wpAnyH_done (by kernel_rfl) ?_ _
    go_wp2
    go_ret
    exact ⟨by rw [HN.out]; rfl,HW2.out⟩
   ·have hdq:decide (q<0)=false:=decide_eq_false hlq
    have HY:=Lib.hid (HYES.out (by omega))
    refine tk 11 rfl (.bool false) ?_
    refine wpAnyH_done (by kernel_rfl) ?_ _
    go_wp2
    exact ⟨⟨(j:Int),by omega,by omega,rfl,HY.out,HW2.out⟩,by simp [intOf]; omega⟩
  ·have hF:chainB (fun a b=>decide (0≤cf b a)) l=true:=by
    rw [chainB_iff]
    intro i hi
    exact HD.out i (by omega) (by rw [← HL.out]; exact hi)
   have HF:=Lib.hid hF
   clear hF
   go_wp2
   go_ret
   exact ⟨by rw [HF.out]; rfl,HW.out⟩
theorem sortedRelease_any (A:Option Addr) (n c:Nat) (l:List MRel) (g:Nat) (cb:Array Value) (eg:∀ args w,(callFunc g args).run Tryz.prog w=.ok (.enter g args) w) (cf:MRel→MRel→Int) (S:Nat→Prop) (w:World) (hr:KRow MRel.vals 8 w S A n l) (hn:n≤100000)
  (hp:∀ (W:World) (x y:MRel),x ∈ l→y ∈ l→Below w.heap.size w W→Calls Tryz.prog g (#[x.agg,y.agg] ++ cb) W fun e w'=>e=.returned (.int .i64 (cf x y))∧Below W.heap.size W w') :
  Calls Tryz.prog 48 #[.slice A n c,.func (.func g) #[] cb] w fun e w'=>e=.returned (.bool (chainB (fun a b=>decide (0≤cf b a)) l))∧Below w.heap.size w w':=by
 have HR:=Lib.hid hr
 have HL:=Lib.hid hr.1
 have HP:=Lib.hid hp
 clear hr hp
 have hw0:IntKind.i64.wrap ((n:Int) - 1)=(n:Int) - 1:=by rw [IntKind.wrap_i64] <;> omega
 go_enter Tryz.func48,Tryz.ntmps48
 go_wp2
 clear hw0
 go_loopw [5] (fun y W=>∃ k:Int,-1≤k∧k≤(n:Int) - 1∧y=.int .i64 k∧Hid (∀ j:Nat,k≤(j:Int)→j+1<n→decide (0≤cf (l.getD (j+1) default) (l.getD j default))=true)∧Hid (Below w.heap.size w W)) (fun y _=>(intOf y+1).toNat)
 case atStart=>exact ⟨(n:Int) - 1,by omega,by omega,rfl,(fun j h1 h2=>by omega),Below.refl _ _⟩
 case round =>
  rename World=>wk
  obtain ⟨k,hk0,hk1,rfl,HD,HW⟩:=hrel
  by_cases hlt:0<k
  ·obtain ⟨j,rfl⟩:∃ j:Nat,k=(j:Int)+1:=⟨(k - 1).toNat,by omega⟩
   have hjn:j+1<n:=by omega
   have hjn0:j<n:=by omega
   have hw1:IntKind.i64.wrap ((j:Int)+1 - 1)=(j:Int):=by rw [IntKind.wrap_i64] <;> omega
   have hw2:IntKind.i64.wrap (j:Int)=(j:Int):=by rw [IntKind.wrap_i64] <;> omega
   have hn1:¬ (n:Int)≤(j:Int)+1:=by omega
   have hn2:¬ (n:Int)≤(j:Int):=by omega
   have hb1:¬ ((j:Int)+1<0):=by omega
   have hz1:((j:Int)+1).toNat=j+1:=by omega
   have hrow:=HR.out.keep (KeepS.of_below (S:=S) HW.out)
   obtain ⟨b,o,rfl,_,hb,hcx⟩:=hrow.at_ hjn
   obtain ⟨b',o',e',_,_,hcy⟩:=hrow.at_ hjn0
   injection e' with e'
   injection e' with e1 e2
   subst e1
   subst e2
   have hcl:∀ V:World,Below wk.heap.size wk V→Calls Tryz.prog g (#[(l.getD (j+1) default).agg,(l.getD j default).agg] ++ cb) V fun e w'=>e=.returned (.int .i64 (cf (l.getD (j+1) default) (l.getD j default)))∧Below V.heap.size V w':=fun V hV=>HP.out V _ _ (hrow.mem hjn) (hrow.mem hjn0) (HW.out.trans (hV.mono HW.out.size))
   have HYES:Hid (0≤cf (l.getD (j+1) default) (l.getD j default)→∀ i:Nat,(j:Int)≤(i:Int)→i+1<n→decide (0≤cf (l.getD (i+1) default) (l.getD i default))=true):=fun h i h1 h2=>by
    by_cases e:i=j
    ·subst e; exact decide_eq_true h
    ·exact HD.out i (by omega) h2
   have HNO:Hid (cf (l.getD (j+1) default) (l.getD j default)<0→chainB (fun a b=>decide (0≤cf b a)) l=false):=fun h=>chainB_no (i:=j) (by rw [HL.out]; exact hjn) (decide_eq_false (by omega))
   obtain ⟨x,hx⟩:∃ x,l.getD (j+1) default=x:=⟨_,rfl⟩
   obtain ⟨y,hy⟩:∃ y,l.getD j default=y:=⟨_,rfl⟩
   rw [hx] at hcx hcl HYES HNO
   rw [hy] at hcy hcl HYES HNO
   clear hx hy hrow HD
   have x0:=hcx 0 _ rfl
   have x1:=hcx 1 _ rfl
   have x2:=hcx 2 _ rfl
   have x3:=hcx 3 _ rfl
   have x4:=hcx 4 _ rfl
   have x5:=hcx 5 _ rfl
   have x6:=hcx 6 _ rfl
   have x7:=hcx 7 _ rfl
   have y0:=hcy 0 _ rfl
   have y1:=hcy 1 _ rfl
   have y2:=hcy 2 _ rfl
   have y3:=hcy 3 _ rfl
   have y4:=hcy 4 _ rfl
   have y5:=hcy 5 _ rfl
   have y6:=hcy 6 _ rfl
   have y7:=hcy 7 _ rfl
   clear hcx hcy
   obtain ⟨q,hq⟩:∃ q,cf x y=q:=⟨_,rfl⟩
   rw [hq] at hcl HYES HNO
   clear hq
   unfold MRel.agg at hcl
   go_wp2
   have H0:Hid (Below wk.heap.size wk wk.drew):=(Below.refl _ _).drew
   refine wp_region_held_drew (S:=fun w'=>Below wk.heap.size wk w') (by kernel_rfl) H0.out (fun hHeld=>?_)
   generalize wk.drew=wd at H0 hHeld ⊢
   have hcl:=hcl wd H0.out
   refine tk 0 rfl (.func (.func g) #[] cb) ?_
   refine tk 1 rfl (.slice (some ⟨b,o,none⟩) n c) ?_
   refine tk 2 rfl (.int .i64 ((j:Int)+1)) ?_
   refine tk 3 rfl (.pointer (some ⟨b,o+(j+1) * 8,none⟩)) ?_
   refine tk 4 rfl (.agg #[x.ver.v.a,x.ver.v.b,x.ver.v.c,.slice x.ver.A x.ver.v.pre.length x.ver.c,.slice x.ver.B x.ver.v.build.length x.ver.d,.bool x.yanked,.slice x.N x.needs.length x.nc,.slice x.B x.bans.length x.bc]) ?_ (hv:=fun w' hS'=>by ((have z0:=(hS'.cell (p:=⟨b,o+(j+1) * 8,none⟩) hb).trans x0); (have z1:=(hS'.cell (p:=⟨b,o+(j+1) * 8+1,none⟩) hb).trans x1); (have z2:=(hS'.cell (p:=⟨b,o+(j+1) * 8+2,none⟩) hb).trans x2); (have z3:=(hS'.cell (p:=⟨b,o+(j+1) * 8+3,none⟩) hb).trans x3); (have z4:=(hS'.cell (p:=⟨b,o+(j+1) * 8+4,none⟩) hb).trans x4); (have z5:=(hS'.cell (p:=⟨b,o+(j+1) * 8+5,none⟩) hb).trans x5); (have z6:=(hS'.cell (p:=⟨b,o+(j+1) * 8+6,none⟩) hb).trans x6); (have z7:=(hS'.cell (p:=⟨b,o+(j+1) * 8+7,none⟩) hb).trans x7)); go_simp)
   refine tk 5 rfl (.slice (some ⟨b,o,none⟩) n c) ?_
   refine tk 6 rfl (.int .i64 ((j:Int)+1)) ?_
   refine tk 7 rfl (.int .i64 j) ?_
   refine tk 8 rfl (.pointer (some ⟨b,o+j * 8,none⟩)) ?_
   refine tk 9 rfl (.agg #[y.ver.v.a,y.ver.v.b,y.ver.v.c,.slice y.ver.A y.ver.v.pre.length y.ver.c,.slice y.ver.B y.ver.v.build.length y.ver.d,.bool y.yanked,.slice y.N y.needs.length y.nc,.slice y.B y.bans.length y.bc]) ?_ (hv:=fun w' hS'=>by ((have z0:=(hS'.cell (p:=⟨b,o+j * 8,none⟩) hb).trans y0); (have z1:=(hS'.cell (p:=⟨b,o+j * 8+1,none⟩) hb).trans y1); (have z2:=(hS'.cell (p:=⟨b,o+j * 8+2,none⟩) hb).trans y2); (have z3:=(hS'.cell (p:=⟨b,o+j * 8+3,none⟩) hb).trans y3); (have z4:=(hS'.cell (p:=⟨b,o+j * 8+4,none⟩) hb).trans y4); (have z5:=(hS'.cell (p:=⟨b,o+j * 8+5,none⟩) hb).trans y5); (have z6:=(hS'.cell (p:=⟨b,o+j * 8+6,none⟩) hb).trans y6); (have z7:=(hS'.cell (p:=⟨b,o+j * 8+7,none⟩) hb).trans y7)); go_simp)
   refine cl 10 rfl fun K hK=>?_
   go_simp
   refine hcl.mono ?_
   rintro e W2 ⟨rfl,hb2⟩
   have HW2:=Lib.hid (HW.out.trans ((H0.out.trans (hb2.mono H0.out.size)).mono HW.out.size))
   refine hK.out _ _ (H0.out.trans (hb2.mono H0.out.size)) (fun hHeld2=>?_)
   clear hK K hb2 hcl x0 x1 x2 x3 x4 x5 x6 x7 y0 y1 y2 y3 y4 y5 y6 y7
   try simp only [Act.put,p1,p2,p3]
   by_cases hlq:q<0
   ·have hdq:decide (q<0)=true:=decide_eq_true hlq
    have HN:=Lib.hid (HNO.out hlq)
    refine tk 11 rfl (.bool true) ?_
    refine wpAnyH_done (by kernel_rfl) ?_ _
    go_wp2
    go_ret
    exact ⟨by rw [HN.out]; rfl,HW2.out⟩
   ·have hdq:decide (q<0)=false:=decide_eq_false hlq
    have HY:=Lib.hid (HYES.out (by omega))
    refine tk 11 rfl (.bool false) ?_
    refine wpAnyH_done (by kernel_rfl) ?_ _
    go_wp2
    exact ⟨⟨(j:Int),by omega,by omega,rfl,HY.out,HW2.out⟩,by simp [intOf]; omega⟩
  ·have hF:chainB (fun a b=>decide (0≤cf b a)) l=true:=by
    rw [chainB_iff]
    intro i hi
    exact HD.out i (by omega) (by rw [← HL.out]; exact hi)
   have HF:=Lib.hid hF
   clear hF
   go_wp2
   go_ret
   exact ⟨by rw [HF.out]; rfl,HW.out⟩
theorem twoPin (w:World) (x y:MPin):∃ W,W=(w.alloc (.cells #[.string (Ident.mk x.name),x.ver.v.a,x.ver.v.b,x.ver.v.c,.slice x.ver.A x.ver.v.pre.length x.ver.c,.slice x.ver.B x.ver.v.build.length x.ver.d] 62)).alloc (.cells #[.string (Ident.mk y.name),y.ver.v.a,y.ver.v.b,y.ver.v.c,.slice y.ver.A y.ver.v.pre.length y.ver.c,.slice y.ver.B y.ver.v.build.length y.ver.d] 62)∧AtV W w.heap.size [.string (Ident.mk x.name),.int .u64 x.ver.v.a,.int .u64 x.ver.v.b,.int .u64 x.ver.v.c,.slice x.ver.A x.ver.v.pre.length x.ver.c,.slice x.ver.B x.ver.v.build.length x.ver.d]∧AtV W (w.heap.size+1) [.string (Ident.mk y.name),.int .u64 y.ver.v.a,.int .u64 y.ver.v.b,.int .u64 y.ver.v.c,.slice y.ver.A y.ver.v.pre.length y.ver.c,.slice y.ver.B y.ver.v.build.length y.ver.d]∧BelowD w.heap.size w W:=by
 refine ⟨_,rfl,(AtV.new w _ _).kept ((Below.refl _ _).alloc (Nat.le_refl _) _) (by simp),?_,((BelowD.refl _ _).alloc (Nat.le_refl _) _).alloc (by simp) _⟩
 have h:=AtV.new (w.alloc (.cells #[.string (Ident.mk x.name),x.ver.v.a,x.ver.v.b,x.ver.v.c,.slice x.ver.A x.ver.v.pre.length x.ver.c,.slice x.ver.B x.ver.v.build.length x.ver.d] 62)) 62 [.string (Ident.mk y.name),.int .u64 y.ver.v.a,.int .u64 y.ver.v.b,.int .u64 y.ver.v.c,.slice y.ver.A y.ver.v.pre.length y.ver.c,.slice y.ver.B y.ver.v.build.length y.ver.d]
 rwa [size_alloc] at h
theorem namesPin_any (x y:MPin) (w:World):Calls Tryz.prog 65 #[x.agg,y.agg] w fun e w'=>e=.returned (.int .i64 (Lib.compareBytes x.name y.name))∧BelowD w.heap.size w w':=by
 obtain ⟨W0,hW,h1,h2,hb⟩:=twoPin w x y
 have H1:=Lib.hid h1
 have H2:=Lib.hid h2
 have HB:=Lib.hid hb
 clear h1 h2 hb
 obtain ⟨xb,hxb⟩:∃ xb,w.heap.size=xb:=⟨_,rfl⟩
 unfold MPin.agg
 go_enter Tryz.func65,Tryz.ntmps65
 go_upto_region 1 with (fail)
 rw [← hW]
 rw [hxb] at H1 H2
 clear hW hxb
 have x0:=H1.out.at_ 0 _ rfl
 have y0:=H2.out.at_ 0 _ rfl
 go_wp2_with fail
 refine (strcmp_any (Ident.mk x.name) (Ident.mk y.name) _).mono ?_
 rw [mk_list,mk_list]
 rintro e w' ⟨rfl,rfl⟩
 obtain ⟨q,hq⟩:∃ q,Lib.compareBytes x.name y.name=q:=⟨_,rfl⟩
 have HQ:=Lib.hid hq
 rw [hq]
 clear hq
 go_wp2
 go_ret
 exact ⟨by rw [HQ.out]; rfl,HB.out⟩
theorem twoPack (w:World) (x y:MPack):∃ W,W=(w.alloc (.cells #[.string (Ident.mk x.name),.slice x.R x.rels.length x.rc] 60)).alloc (.cells #[.string (Ident.mk y.name),.slice y.R y.rels.length y.rc] 60)∧AtV W w.heap.size [.string (Ident.mk x.name),.slice x.R x.rels.length x.rc]∧AtV W (w.heap.size+1) [.string (Ident.mk y.name),.slice y.R y.rels.length y.rc]∧BelowD w.heap.size w W:=by
 refine ⟨_,rfl,(AtV.new w _ _).kept ((Below.refl _ _).alloc (Nat.le_refl _) _) (by simp),?_,((BelowD.refl _ _).alloc (Nat.le_refl _) _).alloc (by simp) _⟩
 have h:=AtV.new (w.alloc (.cells #[.string (Ident.mk x.name),.slice x.R x.rels.length x.rc] 60)) 60 [.string (Ident.mk y.name),.slice y.R y.rels.length y.rc]
 rwa [size_alloc] at h
theorem namesPack_any (x y:MPack) (w:World):Calls Tryz.prog 37 #[x.agg,y.agg] w fun e w'=>e=.returned (.int .i64 (Lib.compareBytes x.name y.name))∧BelowD w.heap.size w w':=by
 obtain ⟨W0,hW,h1,h2,hb⟩:=twoPack w x y
 have H1:=Lib.hid h1
 have H2:=Lib.hid h2
 have HB:=Lib.hid hb
 clear h1 h2 hb
 obtain ⟨xb,hxb⟩:∃ xb,w.heap.size=xb:=⟨_,rfl⟩
 unfold MPack.agg
 go_enter Tryz.func37,Tryz.ntmps37
 go_upto_region 1 with (fail)
 rw [← hW]
 rw [hxb] at H1 H2
 clear hW hxb
 have x0:=H1.out.at_ 0 _ rfl
 have y0:=H2.out.at_ 0 _ rfl
 go_wp2_with fail
 refine (strcmp_any (Ident.mk x.name) (Ident.mk y.name) _).mono ?_
 rw [mk_list,mk_list]
 rintro e w' ⟨rfl,rfl⟩
 obtain ⟨q,hq⟩:∃ q,Lib.compareBytes x.name y.name=q:=⟨_,rfl⟩
 have HQ:=Lib.hid hq
 rw [hq]
 clear hq
 go_wp2
 go_ret
 exact ⟨by rw [HQ.out]; rfl,HB.out⟩
theorem twoRelease (w:World) (x y:MRel):∃ W,W=(w.alloc (.cells #[x.ver.v.a,x.ver.v.b,x.ver.v.c,.slice x.ver.A x.ver.v.pre.length x.ver.c,.slice x.ver.B x.ver.v.build.length x.ver.d,.bool x.yanked,.slice x.N x.needs.length x.nc,.slice x.B x.bans.length x.bc] 36)).alloc (.cells #[y.ver.v.a,y.ver.v.b,y.ver.v.c,.slice y.ver.A y.ver.v.pre.length y.ver.c,.slice y.ver.B y.ver.v.build.length y.ver.d,.bool y.yanked,.slice y.N y.needs.length y.nc,.slice y.B y.bans.length y.bc] 36)∧AtV W w.heap.size [.int .u64 x.ver.v.a,.int .u64 x.ver.v.b,.int .u64 x.ver.v.c,.slice x.ver.A x.ver.v.pre.length x.ver.c,.slice x.ver.B x.ver.v.build.length x.ver.d,.bool x.yanked,.slice x.N x.needs.length x.nc,.slice x.B x.bans.length x.bc]∧AtV W (w.heap.size+1) [.int .u64 y.ver.v.a,.int .u64 y.ver.v.b,.int .u64 y.ver.v.c,.slice y.ver.A y.ver.v.pre.length y.ver.c,.slice y.ver.B y.ver.v.build.length y.ver.d,.bool y.yanked,.slice y.N y.needs.length y.nc,.slice y.B y.bans.length y.bc]∧BelowD w.heap.size w W:=by
 refine ⟨_,rfl,(AtV.new w _ _).kept ((Below.refl _ _).alloc (Nat.le_refl _) _) (by simp),?_,((BelowD.refl _ _).alloc (Nat.le_refl _) _).alloc (by simp) _⟩
 have h:=AtV.new (w.alloc (.cells #[x.ver.v.a,x.ver.v.b,x.ver.v.c,.slice x.ver.A x.ver.v.pre.length x.ver.c,.slice x.ver.B x.ver.v.build.length x.ver.d,.bool x.yanked,.slice x.N x.needs.length x.nc,.slice x.B x.bans.length x.bc] 36)) 36 [.int .u64 y.ver.v.a,.int .u64 y.ver.v.b,.int .u64 y.ver.v.c,.slice y.ver.A y.ver.v.pre.length y.ver.c,.slice y.ver.B y.ver.v.build.length y.ver.d,.bool y.yanked,.slice y.N y.needs.length y.nc,.slice y.B y.bans.length y.bc]
 rwa [size_alloc] at h
theorem byVersion_any (x y:MRel) (S:Nat→Prop) (w:World) (h1:VerOk w S x.ver) (h2:VerOk w S y.ver):Calls Tryz.prog 41 #[x.agg,y.agg] w fun e w'=>e=.returned (.int .i64 (Prec.fullV x.ver.v y.ver.v))∧BelowD w.heap.size w w':=by
 obtain ⟨W0,hW,a1,a2,hb⟩:=twoRelease w x y
 have H1:=Lib.hid a1
 have H2:=Lib.hid a2
 have HB:=Lib.hid hb
 have HX:=Lib.hid (h1.keep (KeepS.of_below hb.toBelow))
 have HY:=Lib.hid (h2.keep (KeepS.of_below hb.toBelow))
 clear h1 h2 hb a1 a2
 obtain ⟨xb,hxb⟩:∃ xb,w.heap.size=xb:=⟨_,rfl⟩
 unfold MRel.agg
 go_enter Tryz.func41,Tryz.ntmps41
 go_upto_region 1 with (fail)
 rw [← hW]
 rw [hxb] at H1 H2
 clear hW hxb
 have x0:=H1.out.at_ 0 _ rfl
 have x1:=H1.out.at_ 1 _ rfl
 have x2:=H1.out.at_ 2 _ rfl
 have x3:=H1.out.at_ 3 _ rfl
 have x4:=H1.out.at_ 4 _ rfl
 have y0:=H2.out.at_ 0 _ rfl
 have y1:=H2.out.at_ 1 _ rfl
 have y2:=H2.out.at_ 2 _ rfl
 have y3:=H2.out.at_ 3 _ rfl
 have y4:=H2.out.at_ 4 _ rfl
 go_wp2_with fail
 refine (Prec.full_anyD x.ver.v y.ver.v x.ver.A x.ver.B y.ver.A y.ver.B x.ver.c x.ver.d y.ver.c y.ver.d _ HX.out.pre HX.out.build HY.out.pre HY.out.build ⟨HX.out.fit.pre,HX.out.fit.pres⟩ ⟨HX.out.fit.build,HX.out.fit.builds⟩ ⟨HY.out.fit.pre,HY.out.fit.pres⟩ ⟨HY.out.fit.build,HY.out.fit.builds⟩).mono ?_
 rintro e w' ⟨rfl,hb⟩
 have HB2:=Lib.hid (HB.out.trans (hb.mono HB.out.size))
 clear hb x0 x1 x2 x3 x4 y0 y1 y2 y3 y4
 obtain ⟨q,hq⟩:∃ q,Prec.fullV x.ver.v y.ver.v=q:=⟨_,rfl⟩
 have HQ:=Lib.hid hq
 rw [hq]
 clear hq
 go_wp2
 go_ret
 exact ⟨by rw [HQ.out]; rfl,HB2.out⟩
end Go.Proofs.YtnpjklaaokiikaaGreatDoor.Model
