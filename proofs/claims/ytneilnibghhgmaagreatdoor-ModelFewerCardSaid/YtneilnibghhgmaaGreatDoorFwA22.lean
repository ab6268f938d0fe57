/-
  What the theorem of the last text needs of these: MoMet, MoSays, MoRels, MoPinOk. Conditions: as each theorem states.
-/
import Derived.Test.YtneilnibghhgmaaGreatDoorFwA1
import Derived.Test.YtneilnibghhgmaaGreatDoorFwA2
import Derived.Test.YtneilnibghhgmaaGreatDoorFwA3
import Derived.Test.YtneilnibghhgmaaGreatDoorFwA4
import Derived.Test.YtneilnibghhgmaaGreatDoorFwA5
import Derived.Test.YtneilnibghhgmaaGreatDoorFwA6
import Derived.Test.YtneilnibghhgmaaGreatDoorFwA9
import Derived.Test.YtneilnibghhgmaaGreatDoorFwA10
import Derived.Test.YtneilnibghhgmaaGreatDoorFwA12
import Derived.Test.YtneilnibghhgmaaGreatDoorFwA13
import Derived.Test.YtneilnibghhgmaaGreatDoorFwA14
import Derived.Test.YtneilnibghhgmaaGreatDoorFwA17
import Derived.Test.YtneilnibghhgmaaGreatDoorFwA18
import Derived.Test.YtneilnibghhgmaaGreatDoorFwA19
import Derived.Test.YtneilnibghhgmaaGreatDoorFwA20
import Derived.Test.YtneilnibghhgmaaGreatDoorFwA21
import Derived.Deep.CutBlock
import Derived.Deep.DeepCutAuto
import Derived.StillTailTactics
import Derived.Deep.QuietTactic
import Derived.BigQuiet
import Derived.Sort.Walk0
set_option maxRecDepth 100000
set_option maxHeartbeats 25600000
namespace Go.Proofs.YtneilnibghhgmaaGreatDoor.Model
open Go.RowKit Num Ident Semver Fr
open Range (Rng noRng RV KeepS LtB LenOk goodR wt)
open KR (KRow AtV)
open Name (isName)
open Go.Maps (Keyed IsMap)
open Nrm (hasR)
def verElem (v:Value):Option (DataW Value × List MemPlace):=some (.held v,[])
def zeroVer:Value:=.agg #[.int .u64 0,.int .u64 0,.int .u64 0,.slice none 0 0,.slice none 0 0]
theorem zeroVer_run (w:World):(zeroValue 47).run Tryz.prog w=.ok zeroVer w:=by unfold zeroVer; kernel_rfl
def ChosenAt (W:World) (mb:Nat) (s:List MPin):Prop :=
 ∃ D:DataW Value,W.ownsMap Tryz.prog 9 verElem mb s.length D∧IsMap D∧(∀ n,Maps.has D (.string n)=decide (n ∈ s.map MPin.name))∧∀ p ∈ s,∀ z,D.atKey (.string p.name) z=.held p.ver.agg
theorem ChosenAt.lt {W:World} {mb:Nat} {s:List MPin} (h:ChosenAt W mb s):mb<W.heap.size:=by obtain ⟨D,h,_⟩:=h; exact h.lt
theorem ChosenAt.made (w:World):ChosenAt (w.alloc (.map #[] 0)) w.heap.size [] :=
 ⟨.map [],World.ownsMap_made (H:=Value) w _ _ _,Go.Maps.isMap_empty,(fun s=>by simp [Maps.has]),fun p h=>by cases h⟩
theorem ChosenAt.but {T:Nat→Prop} {W W':World} {mb:Nat} {s:List MPin} (h:ChosenAt W mb s) (hb:But T W W') (hn:¬ T mb):ChosenAt W' mb s:=by
 obtain ⟨D,h1,h2⟩:=h
 exact ⟨D,map_but h1 hb hn,h2⟩
theorem ChosenAt.kept {B:Nat} {W W':World} {mb:Nat} {s:List MPin} (h:ChosenAt W mb s) (hb:Below B W W') (hB:mb<B):ChosenAt W' mb s :=
 h.but (T:=fun k=>B≤k) (But.of_below hb fun k _ hk=>by omega) (by omega)
def foundV (s:List MPin) (n:List UInt8):Option MVer:=(s.find? fun p=>p.name == n).map MPin.ver
theorem nodup_inj {α β:Type} {f:α→β}:∀ {l:List α},(l.map f).Nodup→∀ {a b:α},a ∈ l→b ∈ l→f a=f b→a=b
 | [],_,a,b,h,_,_=>by cases h
 | x :: l,hn,a,b,ha,hb,e=>by
  rw [List.map_cons,List.nodup_cons] at hn
  rcases List.mem_cons.1 ha with h1 | h1
  ·rcases List.mem_cons.1 hb with h2 | h2
   ·exact h1.trans h2.symm
   ·rw [h1] at e
    exact (hn.1 (List.mem_map.2 ⟨b,h2,e.symm⟩)).elim
  ·rcases List.mem_cons.1 hb with h2 | h2
   ·rw [h2] at e
    exact (hn.1 (List.mem_map.2 ⟨a,h1,e⟩)).elim
   ·exact nodup_inj hn.2 h1 h2 e
theorem ChosenAt.look {W:World} {mb:Nat} {s:List MPin} (h:ChosenAt W mb s) {n:List UInt8} (hn:n.length≤maxLen) :
  (Instr.lookup 85 (.map (some mb)) (.string (Ident.mk n)) true).run Tryz.prog W=.ok (.tuple #[(match foundV s n with | some v=>v.agg | none=>zeroVer),.bool (foundV s n).isSome]) W:=by
 obtain ⟨D,hown,hmap,hhas,hat⟩:=h
 have hk:keyOf Tryz.prog 9 (.string (Ident.mk n))=some (.string n):=by have:=strKey (s:=Ident.mk n) (by rw [mk_size]; exact hn); rwa [mk_list] at this
 obtain ⟨v,ps,hrun,hv⟩:=hown.look_ok (t:=85) (e:=47) strKeyed Tryz.underlying85 (z:=zeroVer) (zeroVer_run W) (zd:=.held zeroVer) (zp:=[]) rfl hk
 have hv:(DataW.held v,([]:List MemPlace))=(D.atKey (.string n) (.held zeroVer),ps):=Option.some.inj hv
 replace hv:DataW.held v=D.atKey (.string n) (.held zeroVer):=congrArg Prod.fst hv
 rw [hrun,hhas]
 unfold foundV
 cases hf:s.find? fun p=>p.name == n with
 | some p =>
  have hm:=List.mem_of_find?_eq_some hf
  have he:p.name=n:=by have:=List.find?_some hf; simpa using this
  have hin:n ∈ s.map MPin.name:=List.mem_map.2 ⟨p,hm,he⟩
  rw [← he,hat p hm] at hv
  rw [decide_eq_true hin,DataW.held.inj hv]; rfl
 | none =>
  have hin:n ∉ s.map MPin.name:=fun q=>by
   obtain ⟨p,hp,e⟩:=List.mem_map.1 q
   have:=List.find?_eq_none.1 hf p hp
   simp [e] at this
  have hno:Maps.has D (.string n)=false:=by rw [hhas]; exact decide_eq_false hin
  rw [Go.Maps.atKey_of_not_has hno] at hv
  rw [decide_eq_false hin,DataW.held.inj hv]; rfl
theorem chosen_add {D:DataW Value} {s:List MPin} {p:MPin} (hm:IsMap D) (hh:∀ n,Maps.has D (.string n)=decide (n ∈ s.map MPin.name)) (ha:∀ p ∈ s,∀ z,D.atKey (.string p.name) z=.held p.ver.agg) (hn:p.name ∉ s.map MPin.name) :
  IsMap (D.put (.string p.name) (.held p.ver.agg))∧(∀ n,Maps.has (D.put (.string p.name) (.held p.ver.agg)) (.string n)=decide (n ∈ (s ++ [p]).map MPin.name))∧∀ q ∈ s ++ [p],∀ z,(D.put (.string p.name) (.held p.ver.agg)).atKey (.string q.name) z=.held q.ver.agg:=by
 refine ⟨hm.put _ _,fun t=>?_,fun q hq z=>?_⟩
 ·by_cases e:t=p.name
  ·rw [e,Go.Maps.has_put_same hm (show WideAt.IsKeyLit (.string p.name) from by simp [WideAt.IsKeyLit])]; simp
  ·rw [Go.Maps.has_put_other (fun e2=>e (by injection e2)),hh]; simp [e]
 ·rcases List.mem_append.1 hq with h | h
  ·have hne:q.name≠p.name:=fun e=>hn (List.mem_map.2 ⟨q,h,e⟩)
   rw [Go.Maps.atKey_put_other (fun e2=>hne (by injection e2)),ha q h]
  ·rw [List.mem_singleton] at h
   subst h
   rw [Go.Maps.atKey_put_same hm (show WideAt.IsKeyLit (.string q.name) from by simp [WideAt.IsKeyLit])]
theorem metB_found {s:List MPin} {d:MDep} (hn:(s.map MPin.name).Nodup):metB (s.map MPin.p) d.p=(match foundV s d.name with | some v=>hasR d.r v.v | none=>false):=by
 unfold metB foundV
 rw [List.any_map]
 cases hf:s.find? fun p=>p.name == d.name with
 | some p =>
  have hm:=List.mem_of_find?_eq_some hf
  have he:p.name=d.name:=by have:=List.find?_some hf; simpa using this
  show s.any _=hasR d.r p.ver.v
  cases hh:hasR d.r p.ver.v with
  | true =>
   rw [List.any_eq_true]
   exact ⟨p,hm,by show ((p.name == d.name) && hasR d.r p.ver.v)=true; rw [he,hh]; simp⟩
  | false =>
   rw [List.any_eq_false]
   intro q hq
   show ¬ ((q.name == d.name) && hasR d.r q.ver.v)=true
   by_cases e:q.name=d.name
   ·have:q=p:=nodup_inj hn hq hm (e.trans he.symm)
    rw [this,hh]; simp
   ·simp [e]
 | none =>
  show s.any _=false
  rw [List.any_eq_false]
  intro q hq
  show ¬ ((q.name == d.name) && hasR d.r q.ver.v)=true
  have:=List.find?_eq_none.1 hf q hq
  simp at this
  simp [this]
theorem met_any (d:MDep) (s:List MPin) (cb mb:Nat) (B:Nat) (w:World) (hd:DepOk w (LtB B) d) (hf:FewP d) (hs:∀ p ∈ s,VerOk w (LtB B) p.ver) (hn:(s.map MPin.name).Nodup) (hc:AtV w cb [.map (some mb)]) (hm:ChosenAt w mb s) (hB:B≤w.heap.size) :
  Calls Tryz.prog 43 #[d.agg,.pointer (some ⟨cb,0,none⟩)] w fun e w'=>e=.returned (.bool (metB (s.map MPin.p) d.p))∧Below w.heap.size w w':=by
 have HF:=Lib.hid hf
 have HM:=Lib.hid (metB_found (d:=d) hn)
 obtain ⟨W0,hW,hav,hb0⟩:∃ W,W=w.alloc (.cells #[.string (Ident.mk d.name),d.x.kind,d.x.v.a,d.x.v.b,d.x.v.c,.slice d.x.A d.x.v.pre.length d.x.c,.slice d.x.B d.x.v.build.length d.x.d,.slice d.x.L d.x.n d.x.e] 61)∧AtV W w.heap.size [.string (Ident.mk d.name),.int .i64 d.x.kind,.int .u64 d.x.v.a,.int .u64 d.x.v.b,.int .u64 d.x.v.c,.slice d.x.A d.x.v.pre.length d.x.c,.slice d.x.B d.x.v.build.length d.x.d,.slice d.x.L d.x.n d.x.e]∧Below w.heap.size w W:=⟨_,rfl,AtV.new w _ _,(Below.refl _ _).alloc (Nat.le_refl _) _⟩
 have HAV:=Lib.hid hav
 have HB0:=Lib.hid hb0
 have HD0:=Lib.hid (hd.keep (KeepS.of_below (S:=LtB B) hb0))
 have HC0:=Lib.hid (hc.kept hb0 hc.lt)
 have HS0:Hid (∀ p ∈ s,VerOk W0 (LtB B) p.ver):=fun p hp=>(hs p hp).keep (KeepS.of_below hb0)
 have HL0:Hid (B≤W0.heap.size):=Nat.le_trans hB hb0.size
 have hlook:=(hm.kept hb0 hm.lt).look (n:=d.name) hd.short
 have HMEM:Hid (∀ v,foundV s d.name=some v→∃ p ∈ s,p.ver=v):=fun v h=>by
  unfold foundV at h
  obtain ⟨p,hp,e⟩:=Option.map_eq_some_iff.1 h
  exact ⟨p,List.mem_of_find?_eq_some hp,e⟩
 clear hav hb0 hd hf hs hn hc hm hB
 obtain ⟨bd,hbd⟩:∃ bd,w.heap.size=bd:=⟨_,rfl⟩
 obtain ⟨f,hfe⟩:∃ f,foundV s d.name=f:=⟨_,rfl⟩
 rw [hfe] at hlook HM HMEM
 clear hfe
 unfold MDep.agg
 cases f with
 | none =>
  replace hlook:(Instr.lookup 85 (.map (some mb)) (.string (Ident.mk d.name)) true).run Tryz.prog W0=.ok (.tuple #[.agg #[.int .u64 0,.int .u64 0,.int .u64 0,.slice none 0 0,.slice none 0 0],.bool false]) W0:=hlook
  have HM:Hid (metB (s.map MPin.p) d.p=false):=HM.out
  go_enter Tryz.func43,Tryz.ntmps43
  go_upto_region 1 with (fail)
  rw [← hW]
  rw [hbd] at HAV
  clear hW hbd
  have c0:=HAV.out.at_ 0 _ rfl
  have m0:=HC0.out.at_ 0 _ rfl
  have HBE:Hid (Below w.heap.size w (W0.alloc false)):=HB0.out.alloc HB0.out.size _
  go_wp2
  go_ret
  exact ⟨by rw [HM.out]; rfl,HBE.out⟩
 | some v =>
  replace hlook:(Instr.lookup 85 (.map (some mb)) (.string (Ident.mk d.name)) true).run Tryz.prog W0=.ok (.tuple #[.agg #[v.v.a,v.v.b,v.v.c,.slice v.A v.v.pre.length v.c,.slice v.B v.v.build.length v.d],.bool true]) W0:=hlook
  have HM:Hid (metB (s.map MPin.p) d.p=hasR d.r v.v):=HM.out
  obtain ⟨p,hp,hpv⟩:=HMEM.out v rfl
  have HV0:Hid (VerOk W0 (LtB B) v):=by have:=HS0.out p hp; rw [hpv] at this; exact this
  clear hp hpv HMEM HS0
  obtain ⟨W1,hW1,hvv,hb1⟩:∃ W,W=W0.alloc (v.v,v.A,v.c,v.B,v.d)∧AtV W W0.heap.size [.int .u64 v.v.a,.int .u64 v.v.b,.int .u64 v.v.c,.slice v.A v.v.pre.length v.c,.slice v.B v.v.build.length v.d]∧Below W0.heap.size W0 W:=⟨_,rfl,AtV.new W0 _ _,(Below.refl _ _).alloc (Nat.le_refl _) _⟩
  have HVV:=Lib.hid hvv
  have HB1:=Lib.hid (HB0.out.trans (hb1.mono HB0.out.size))
  have HAV1:=Lib.hid (HAV.out.kept hb1 HAV.out.lt)
  have HD1:=Lib.hid (HD0.out.keep (KeepS.of_below (S:=LtB B) hb1))
  have HV1:=Lib.hid (HV0.out.keep (KeepS.of_below (S:=LtB B) hb1))
  have HL1:Hid (B≤W1.heap.size):=Nat.le_trans HL0.out hb1.size
  clear hvv hb1
  obtain ⟨vb,hvb⟩:∃ vb,W0.heap.size=vb:=⟨_,rfl⟩
  go_enter Tryz.func43,Tryz.ntmps43
  go_upto_region 1 with (fail)
  rw [← hW]
  rw [hbd] at HAV HAV1
  clear hW hbd
  have c0:=HAV.out.at_ 0 _ rfl
  have m0:=HC0.out.at_ 0 _ rfl
  go_upto_region 2 with (fail)
  rw [← hW1]
  rw [hvb] at HVV
  clear hW1 hvb c0 m0 hlook
  have c1:=HAV1.out.at_ 1 _ rfl
  have c2:=HAV1.out.at_ 2 _ rfl
  have c3:=HAV1.out.at_ 3 _ rfl
  have c4:=HAV1.out.at_ 4 _ rfl
  have c5:=HAV1.out.at_ 5 _ rfl
  have c6:=HAV1.out.at_ 6 _ rfl
  have c7:=HAV1.out.at_ 7 _ rfl
  have v0:=HVV.out.at_ 0 _ rfl
  have v1:=HVV.out.at_ 1 _ rfl
  have v2:=HVV.out.at_ 2 _ rfl
  have v3:=HVV.out.at_ 3 _ rfl
  have v4:=HVV.out.at_ 4 _ rfl
  go_wp2_with fail
  refine (Nrm.has_norm d.r d.x B v.v v.A v.c v.B v.d _ HD1.out.lies HL1.out HD1.out.len (fun _=>by have:=few_wt HF.out HD1.out.slim; omega) HV1.out.pre HV1.out.build ⟨HV1.out.fit.pre,HV1.out.fit.build,HV1.out.fit.pres,HV1.out.fit.builds⟩).mono ?_
  rintro e W2 ⟨rfl,hb⟩
  have HB2:=Lib.hid (HB1.out.trans (hb.mono HB1.out.size))
  clear hb c1 c2 c3 c4 c5 c6 c7 v0 v1 v2 v3 v4
  obtain ⟨q,hq⟩:∃ q,hasR d.r v.v=q:=⟨_,rfl⟩
  have HQ:=Lib.hid (HM.out.trans hq)
  rw [hq]
  clear hq HM
  go_wp2
  go_ret
  exact ⟨by rw [HQ.out]; rfl,HB2.out⟩
end Go.Proofs.YtneilnibghhgmaaGreatDoor.Model
namespace Go.Proofs.YtneilnibghhgmaaGreatDoor.Model
open Go.RowKit Num Ident Semver
open Range (Rng noRng RV KeepS LtB LenOk goodR wt zeroRV)
open KR (KRow AtV)

structure SlOk (A:Option Addr) (n c:Nat):Prop where
 le:n≤c
 max:c≤maxLen
 nil:A=none→c=0
theorem SlOk.len {A:Option Addr} {n c:Nat} (h:SlOk A n c):n≤maxLen:=Nat.le_trans h.le h.max
theorem SlOk.zero:SlOk none 0 0:=⟨Nat.le_refl _,by unfold maxLen; omega,fun _=>rfl⟩
def RelPost (x:List MPack) (name:List UInt8) (v:Ver) (w:World) (e:Ending) (w':World):Prop :=
 ∃ r:MRel,e=.returned (.tuple #[r.agg,.bool (releaseO (x.map MPack.p) name v).isSome])∧r.p=(releaseO (x.map MPack.p) name v).getD default∧RelOk w' (LtB w'.heap.size) r∧Below w.heap.size w w'
def PlainPost (x:List MPack) (w:World) (e:Ending) (w':World):Prop :=
 ∃ (A:Option Addr) (c:Nat) (y:List MPack),e=.returned (.agg #[.slice A y.length c])∧PRow w' (LtB w'.heap.size) A y.length y∧SlOk A y.length c∧PlainOf (x.map MPack.p) (y.map MPack.p)∧Below w.heap.size w w'
structure SaysA:Prop where
 check:∀ (A:Option Addr) (n c:Nat) (x:List MPack) (B:Nat) (w:World),PRow w (LtB B) A n x→B≤w.heap.size→SlOk A n c→FewX x→Tab w→Calls Tryz.prog 9 #[.agg #[.slice A n c]] w fun e w'=>e=.returned (checkV (checkF (x.map MPack.p)))∧Below w.heap.size w w'
 roots:∀ (A:Option Addr) (n c:Nat) (l:List MDep) (B:Nat) (w:World),DRow w (LtB B) A n l→B≤w.heap.size→SlOk A n c→FewD l→Calls Tryz.prog 11 #[.slice A n c] w fun e w'=>e=.returned (out2V (rootsF (l.map MDep.p)))∧Below w.heap.size w w'
 pins:∀ (A:Option Addr) (n c:Nat) (s:List MPin) (B:Nat) (w:World),SPRow w (LtB B) A n s→B≤w.heap.size→SlOk A n c→FewS s→Calls Tryz.prog 13 #[.slice A n c] w fun e w'=>e=.returned (out2V (pinsF (s.map MPin.p)))∧Below w.heap.size w w'
 solves:∀ (A:Option Addr) (n c:Nat) (x:List MPack) (RA:Option Addr) (rn rc:Nat) (roots:List MDep) (SA:Option Addr) (m sc:Nat) (s:List MPin) (B:Nat) (w:World),PRow w (LtB B) A n x→DRow w (LtB B) RA rn roots→SPRow w (LtB B) SA m s→B≤w.heap.size→SlOk A n c→SlOk RA rn rc→SlOk SA m sc→FewX x→FewD roots→FewS s→Tab w →
  Calls Tryz.prog 15 #[.agg #[.slice A n c],.slice RA rn rc,.slice SA m sc] w fun e w'=>e=.returned (.bool (solvesB (x.map MPack.p) (roots.map MDep.p) (s.map MPin.p)))∧Below w.heap.size w w'
structure Says:Prop extends SaysA where
 release:∀ (A:Option Addr) (n c:Nat) (x:List MPack) (name:List UInt8) (v:MVer) (B:Nat) (w:World),PRow w (LtB B) A n x→VerOk w (LtB B) v→B≤w.heap.size→SlOk A n c→FewX x→name.length≤300→v.v.pre.length≤20→v.v.build.length≤20 →
  Calls Tryz.prog 18 #[.agg #[.slice A n c],.string (Ident.mk name),v.agg] w (RelPost x name v.v w)
 isplain:∀ (A:Option Addr) (n c:Nat) (x:List MPack) (B:Nat) (w:World),PRow w (LtB B) A n x→B≤w.heap.size→SlOk A n c→FewX x→Calls Tryz.prog 22 #[.agg #[.slice A n c]] w fun e w'=>e=.returned (.bool (plainB (x.map MPack.p)))∧Below w.heap.size w w'
 plain:∀ (A:Option Addr) (n c:Nat) (x:List MPack) (B:Nat) (w:World),PRow w (LtB B) A n x→B≤w.heap.size→SlOk A n c→FewX x→Calls Tryz.prog 17 #[.agg #[.slice A n c]] w (PlainPost x w)

/-! What is few and short, of what memory reads as. -/
theorem fewD_none:FewD []:=⟨by simp,fun p hp=>by cases hp⟩
theorem DRow.none_ (w:World) (S:Nat→Prop):DRow w S none 0 []:=⟨KRow.none_ _ _ _,fun d hd=>by cases hd⟩
end Go.Proofs.YtneilnibghhgmaaGreatDoor.Model
namespace Go.Proofs.YtneilnibghhgmaaGreatDoor.Model
open Go.RowKit Num Ident Semver Fr
open Range (Rng noRng RV KeepS LtB LenOk goodR wt)
open KR (KRow AtV)
open Name (isName)
open Nrm (hasR inV)

theorem good_vtext {v:Ver} (h:goodV v=true):(vtext v).length≤24144:=by
 unfold goodV at h
 rw [Bool.and_eq_true,Bool.and_eq_true] at h
 obtain ⟨h1,h2,h3⟩:=h
 unfold heldB maxField at h1
 have h1:=of_decide_eq_true h1
 have a:=dec_le v.a (by omega)
 have b:=dec_le v.b (by omega)
 have c:=dec_le v.c (by omega)
 have s1:shortB v.pre=true:=by
  rw [shortB_iff]
  have:=goodFrom_bound v.pre 0 h2
  refine ⟨?_,fun x hx=>Nat.le_trans (this.2 x hx) (by omega)⟩
  by_cases hn:v.pre=[]
  ·rw [hn]; exact Nat.zero_le _
  ·have:=this.1 hn; omega
 have s2:shortB v.build=true:=by
  rw [shortB_iff]
  have:=goodFrom_bound v.build 0 h3
  refine ⟨?_,fun x hx=>Nat.le_trans (this.2 x hx) (by omega)⟩
  by_cases hn:v.build=[]
  ·rw [hn]; exact Nat.zero_le _
  ·have:=this.1 hn; omega
 have p:=rowText_le (m:=45) s1
 have q:=rowText_le (m:=43) s2
 unfold vtext
 simp only [List.length_append,List.length_singleton]
 omega
theorem good_short2 {v:Ver} (h:goodV v=true):shortB v.pre=true∧shortB v.build=true:=by
 unfold goodV at h
 rw [Bool.and_eq_true,Bool.and_eq_true] at h
 obtain ⟨_,h2,h3⟩:=h
 have b1:=goodFrom_bound _ _ h2
 have b2:=goodFrom_bound _ _ h3
 refine ⟨(shortB_iff _).2 ⟨?_,fun x hx=>Nat.le_trans (b1.2 x hx) (by omega)⟩,(shortB_iff _).2 ⟨?_,fun x hx=>Nat.le_trans (b2.2 x hx) (by omega)⟩⟩
 ·by_cases e:v.pre=[]
  ·rw [e]; simp
  ·have:=b1.1 e; omega
 ·by_cases e:v.build=[]
  ·rw [e]; simp
  ·have:=b2.1 e; omega
theorem vtext_inj {u v:Ver} (hu:goodV u=true) (hv:goodV v=true) (h:vtext u=vtext v):u=v:=by
 have a:=text_read hu
 rw [h,text_read hv] at a
 injection a with _ a
 injection a with _ a
 exact a.symm
def relK (x:List (List UInt8)) (pn:List UInt8) (r:PRel):Int × Int:=if goodV r.v=false then (-1,3) else if vtext r.v ∈ x then (-1,6) else out2 (depsF pn r)
theorem relK_ver {x:List (List UInt8)} {pn:List UInt8} {r:PRel} (h:goodV r.v=false):relK x pn r=(-1,3):=by unfold relK; rw [if_pos h]
theorem relK_there {x:List (List UInt8)} {pn:List UInt8} {r:PRel} (h:goodV r.v=true) (g:vtext r.v ∈ x):relK x pn r=(-1,6):=by unfold relK; rw [if_neg (by rw [h]; decide),if_pos g]
theorem relK_deps {x:List (List UInt8)} {pn:List UInt8} {r:PRel} (h:goodV r.v=true) (g:vtext r.v ∉ x):relK x pn r=out2 (depsF pn r):=by unfold relK; rw [if_neg (by rw [h]; decide),if_neg g]
structure RelPost1 (x:List (List UInt8)) (s:List UInt8) (mb db:Nat) (q:Int × Int) (w:World) (e:Ending) (w':World):Prop where
 out:e=.returned (.int .i64 q.2)
 dep:AtV w' db [.int .i64 q.1]
 seen:q.2=0→SeenAt w' mb (x ++ [s])
 but:But (fun b=>b=mb∨b=db) w w'
theorem rel1_any (r:MRel) (p:MPack) (sb pb db mb:Nat) (x:List (List UInt8)) (B:Nat) (w:World) (hr:RelOk w (LtB B) r) (hf:FewRel r) (hs:AtV w sb [.map (some mb)]) (hp:AtV w pb [.string (Ident.mk p.name),.slice p.R p.rels.length p.rc]) (hd:AtV w db [.int .i64 (-1)]) (hx:SeenAt w mb x) (hxl:x.length≤1000)
  (hne:sb≠mb∧sb≠db∧pb≠mb∧pb≠db∧db≠mb) (hml:B≤mb∧B≤db) (hB:B≤w.heap.size) (ht:Tab w) :
  Calls Tryz.prog 67 #[r.agg,.pointer (some ⟨sb,0,none⟩),.pointer (some ⟨pb,0,none⟩),.pointer (some ⟨db,0,none⟩)] w (RelPost1 x (vtext r.ver.v) mb db (relK x p.name r.p) w):=by
 have HF:=Lib.hid hf
 have HNE:=Lib.hid hne
 have HML:=Lib.hid hml
 have HE1:=Lib.hid (fun h=>relK_ver (x:=x) (pn:=p.name) (r:=r.p) h)
 have HE2:=Lib.hid (fun h g=>relK_there (x:=x) (pn:=p.name) (r:=r.p) h g)
 have HE3:=Lib.hid (fun h g=>relK_deps (x:=x) (pn:=p.name) (r:=r.p) h g)
 obtain ⟨W0,hW,hav,hb0⟩:∃ W,W=w.alloc (.cells #[r.ver.v.a,r.ver.v.b,r.ver.v.c,.slice r.ver.A r.ver.v.pre.length r.ver.c,.slice r.ver.B r.ver.v.build.length r.ver.d,.bool r.yanked,.slice r.N r.needs.length r.nc,.slice r.B r.bans.length r.bc] 49)∧AtV W w.heap.size [.int .u64 r.ver.v.a,.int .u64 r.ver.v.b,.int .u64 r.ver.v.c,.slice r.ver.A r.ver.v.pre.length r.ver.c,.slice r.ver.B r.ver.v.build.length r.ver.d,.bool r.yanked,.slice r.N r.needs.length r.nc,.slice r.B r.bans.length r.bc]∧Below w.heap.size w W:=⟨_,rfl,AtV.new w _ _,(Below.refl _ _).alloc (Nat.le_refl _) _⟩
 have HAV:=Lib.hid hav
 have HB0:Hid (But (fun b=>b=mb∨b=db) w W0):=But.of_same hb0 _
 have HR0:=Lib.hid (hr.keep (KeepS.of_below (S:=LtB B) hb0))
 have HS0:=Lib.hid (hs.kept hb0 hs.lt)
 have HP0:=Lib.hid (hp.kept hb0 hp.lt)
 have HD0:=Lib.hid (hd.kept hb0 hd.lt)
 have HX0:=Lib.hid (hx.kept hb0 hx.lt)
 have HT0:=Lib.hid (ht.kept hb0)
 have HL0:Hid (B≤W0.heap.size):=Nat.le_trans hB hb0.size
 have HQ0:Hid (¬ (w.heap.size=mb∨w.heap.size=db)):=fun h=>by have a:=hx.lt; have b:=hd.lt; omega
 clear hav hb0 hr hs hp hd hx hf hne hml ht
 obtain ⟨bd,hbd⟩:∃ bd,w.heap.size=bd:=⟨_,rfl⟩
 unfold MRel.agg
 go_enter Tryz.func67,Tryz.ntmps67
 go_upto_region 1 with (fail)
 rw [← hW]
 clear hW
 rw [hbd] at HAV HQ0
 clear hbd hB
 have c0:=HAV.out.at_ 0 _ rfl
 have c1:=HAV.out.at_ 1 _ rfl
 have c2:=HAV.out.at_ 2 _ rfl
 have c3:=HAV.out.at_ 3 _ rfl
 have c4:=HAV.out.at_ 4 _ rfl
 go_wp2_with fail
 refine (vgood_any r.ver.v r.ver.A r.ver.c r.ver.B r.ver.d _ HR0.out.ver.pre HR0.out.ver.build HR0.out.ver.fit.pre HR0.out.ver.fit.build HR0.out.ver.fit.pres HR0.out.ver.fit.builds).mono ?_
 rintro e W1 ⟨rfl,hb⟩
 have HAV1:=Lib.hid (HAV.out.kept hb HAV.out.lt)
 have HB1:=Lib.hid (HB0.out.then_same hb)
 have HR1:=Lib.hid (HR0.out.keep (KeepS.of_below (S:=LtB B) hb))
 have HS1:=Lib.hid (HS0.out.kept hb HS0.out.lt)
 have HP1:=Lib.hid (HP0.out.kept hb HP0.out.lt)
 have HD1:=Lib.hid (HD0.out.kept hb HD0.out.lt)
 have HX1:=Lib.hid (HX0.out.kept hb HX0.out.lt)
 have HT1:=Lib.hid (HT0.out.kept hb)
 have HL1:Hid (B≤W1.heap.size):=Nat.le_trans HL0.out hb.size
 clear hb c0 c1 c2 c3 c4
 cases hg:goodV r.ver.v
 ·have HZ:=Lib.hid (HE1.out hg)
  clear hg
  go_wp2
  go_ret
  exact ⟨by rw [HZ.out]; rfl,by rw [HZ.out]; exact HD1.out,(fun h=>by rw [HZ.out] at h; cases h),HB1.out⟩
 ·have HG:=Lib.hid hg
  clear hg
  have c0:=HAV1.out.at_ 0 _ rfl
  have c1:=HAV1.out.at_ 1 _ rfl
  have c2:=HAV1.out.at_ 2 _ rfl
  have c3:=HAV1.out.at_ 3 _ rfl
  have c4:=HAV1.out.at_ 4 _ rfl
  have s0:=HS1.out.at_ 0 _ rfl
  have hsl:sb<W1.heap.size:=HS1.out.lt
  have hal:bd<W1.heap.size:=HAV1.out.lt
  go_wp2
  have HH0:Hid (Below W1.heap.size W1 W1.drew):=(Below.refl _ _).drew
  refine wp_region_held_drew (S:=fun w'=>But (fun b=>b=mb∨b=db) W1 w') (by kernel_rfl) (But.of_same HH0.out _) (fun hHeld=>?_)
  generalize W1.drew=wd at HH0 hHeld ⊢
  have hsn:¬ (sb=mb∨sb=db):=fun h=>by have:=HNE.out; omega
  have hbn:¬ (bd=mb∨bd=db):=HQ0.out
  refine tk 0 rfl (.map (some mb)) ?_ (hv:=fun w' hS'=>by (have z0:=(hS'.cell (b:=sb) (o:=0) hsl hsn).trans s0); go_simp)
  refine tk 1 rfl (.pointer (some ⟨bd,0,none⟩)) ?_
  refine tk 2 rfl (.agg #[r.ver.v.a,r.ver.v.b,r.ver.v.c,.slice r.ver.A r.ver.v.pre.length r.ver.c,.slice r.ver.B r.ver.v.build.length r.ver.d]) ?_ (hv:=fun w' hS'=>by ((have z0:=(hS'.cell (b:=bd) (o:=0) hal hbn).trans c0); (have z1:=(hS'.cell (b:=bd) (o:=1) hal hbn).trans c1); (have z2:=(hS'.cell (b:=bd) (o:=2) hal hbn).trans c2); (have z3:=(hS'.cell (b:=bd) (o:=3) hal hbn).trans c3); (have z4:=(hS'.cell (b:=bd) (o:=4) hal hbn).trans c4)); go_simp)
  refine cl 3 rfl fun K hK=>?_
  go_simp
  refine (vtext_any r.ver.v r.ver.A r.ver.c r.ver.B r.ver.d _ HR1.out.ver.fit.a HR1.out.ver.fit.b HR1.out.ver.fit.c (HR1.out.ver.pre.kept HH0.out) (HR1.out.ver.build.kept HH0.out) HR1.out.ver.cp HR1.out.ver.cb (good_short2 HG.out).1 (good_short2 HG.out).2 (HT1.out.kept HH0.out)).mono ?_
  rintro e W2 ⟨rfl,hb⟩
  have HH2:=Lib.hid (HH0.out.trans (hb.mono HH0.out.size))
  refine hK.out _ _ (But.of_same HH2.out _) (fun hHeld2=>?_)
  clear hK K hb
  try simp only [Act.put,p1,p2,p3]
  have HX2:=Lib.hid (HX1.out.kept HH2.out HX1.out.lt)
  have HTL:=Lib.hid (good_vtext HG.out)
  refine cl 4 rfl fun K hK=>?_
  go_simp
  refine (again_any mb x (Ident.mk (vtext r.ver.v)) _ HX2.out (by rw [mk_size]; have:=HTL.out; unfold maxLen; omega) (by omega)).mono ?_
  rw [mk_list]
  rintro e W3 ⟨rfl,hx3,hb⟩
  have HX3:=Lib.hid hx3
  have HH3:Hid (But (fun b=>b=mb∨b=db) W1 W3):=(But.of_same HH2.out _).trans hb fun i e=>.inl (.inl e)
  refine hK.out _ _ HH3.out (fun hHeld3=>?_)
  have HM23:=Lib.hid hb
  clear hK K hb hx3
  try simp only [Act.put,p1,p2,p3]
  have HIN:Hid (decide (vtext r.ver.v ∈ x)=decide (vtext r.ver.v ∈ x)):=rfl
  obtain ⟨b,hb⟩:∃ b,decide (vtext r.ver.v ∈ x)=b:=⟨_,rfl⟩
  have HIN:=Lib.hid hb
  rw [hb]
  clear hb
  refine tk 5 rfl (.bool b) ?_
  refine wpAnyH_done (by kernel_rfl) ?_ _
  have HB3:=Lib.hid (HB1.out.then_ HH3.out)
  have HK3:Hid (KeepS (LtB B) W1 W3):=keepS_but HH3.out fun g hg e=>by have:=HML.out; have hg:g<B:=hg; omega
  have HAV3:=Lib.hid (HAV1.out.but HH3.out hbn)
  have HP3:=Lib.hid (HP1.out.but HH3.out (fun e=>by have:=HNE.out; omega))
  have HD3:=Lib.hid (HD1.out.but (W':=W3) ((But.of_same HH2.out (fun b=>b=mb)).trans HM23.out fun i e=>.inl e) (fun e=>by have:=HNE.out; omega))
  have HR3:=Lib.hid (HR1.out.keep HK3.out)
  have HL3:Hid (B≤W3.heap.size):=Nat.le_trans HL1.out HH3.out.size
  clear c0 c1 c2 c3 c4 s0 hsl hal hsn hbn
  cases b
  ·have HZ:=Lib.hid (HE3.out HG.out (of_decide_eq_false HIN.out))
   have c0:=HAV3.out.at_ 0 _ rfl
   have c1:=HAV3.out.at_ 1 _ rfl
   have c2:=HAV3.out.at_ 2 _ rfl
   have c3:=HAV3.out.at_ 3 _ rfl
   have c4:=HAV3.out.at_ 4 _ rfl
   have c5:=HAV3.out.at_ 5 _ rfl
   have c6:=HAV3.out.at_ 6 _ rfl
   have c7:=HAV3.out.at_ 7 _ rfl
   have hpb0:=HP3.out.at_ 0 _ rfl
   have hdl:db<W3.heap.size:=HD3.out.lt
   go_wp2_with fail
   refine (depsFault_any p.name r B _ HR3.out HF.out.2.2.1 HF.out.2.2.2 HG.out HL3.out).mono ?_
   rintro e W4 ⟨rfl,hb⟩
   have HB4:=Lib.hid (HB3.out.then_same hb)
   have HD4:=Lib.hid (HD3.out.kept hb HD3.out.lt)
   have HX4:=Lib.hid (HX3.out.kept hb HX3.out.lt)
   clear hb c0 c1 c2 c3 c4 c5 c6 c7 hpb0 hdl
   obtain ⟨q,hq⟩:∃ q,out2 (depsF p.name r.p)=q:=⟨_,rfl⟩
   have HQ:=Lib.hid (HZ.out.trans hq)
   unfold out2V
   rw [hq]
   clear hq HZ
   have d0:=HD4.out.at_ 0 _ rfl
   have hdl:db<W4.heap.size:=HD4.out.lt
   have hdf:=HD4.out.fr
   go_wp2
   go_ret
   refine ⟨by rw [HQ.out]; rfl,by rw [HQ.out]; exact HD4.out.set 0 (.int .i64 q.1) (by simp),fun _=>HX4.out.but ((But.refl (fun k=>k=db) _).set _ _ _ (.inl rfl)) (fun e=>by have:=HNE.out; omega),HB4.out.set _ _ _ (.inl (.inr rfl))⟩
  ·have HZ:=Lib.hid (HE2.out HG.out (of_decide_eq_true HIN.out))
   go_wp2
   go_ret
   exact ⟨by rw [HZ.out]; rfl,by rw [HZ.out]; exact HD3.out,(fun h=>by rw [HZ.out] at h; cases h),HB3.out⟩
end Go.Proofs.YtneilnibghhgmaaGreatDoor.Model
namespace Go.Proofs.YtneilnibghhgmaaGreatDoor.Model
open Go.RowKit Num Ident Semver Fr
open Range (Rng noRng RV KeepS LtB LenOk goodR wt)
open KR (KRow AtV)
open Name (isName)
open Nrm (hasR)
theorem findRel_in {x:List MPack} {n:List UInt8} {v:Ver} {r:MRel} (h:findRel x n v=some r):∃ p ∈ x,r ∈ p.rels:=by
 unfold findRel at h
 obtain ⟨p,hp,hr⟩:=Option.bind_eq_some_iff.1 h
 exact ⟨p,List.mem_of_find?_eq_some hp,List.mem_of_find?_eq_some hr⟩
theorem pinOk_of (x:List MPack) (s:List MPin) (p:MPin):pinOk (x.map MPack.p) (s.map MPin.p) p.p=(match findRel x p.name p.ver.v with | none=>false | some r=>!r.yanked && ((r.needs.all fun d=>metB (s.map MPin.p) d.p) && !(r.bans.any fun d=>metB (s.map MPin.p) d.p))):=by
 unfold pinOk
 show (match releaseO (x.map MPack.p) p.name p.ver.v with | none=>false | some r=>_)=_
 rw [findRel_p]
 cases findRel x p.name p.ver.v with
 | none=>rfl
 | some r =>
  show (!r.yanked && ((r.needs.map MDep.p).all _ && !((r.bans.map MDep.p).any _)))=_
  rw [List.all_map,List.any_map]; rfl
structure SolW (W:World) (B:Nat) (A:Option Addr) (n c:Nat) (x:List MPack) (s:List MPin) (ib cb fb mb:Nat):Prop where
 ix:AtV W ib [.slice A n c]
 ch:AtV W cb [.map (some mb)]
 fn:AtV W fb [.func (.func 43) #[] #[.pointer (some ⟨cb,0,none⟩)]]
 map:ChosenAt W mb s
 row:PRow W (LtB B) A n x
 vers:∀ p ∈ s,PinOk W (LtB B) p
 le:B≤W.heap.size
theorem SolW.kept {W W':World} {B:Nat} {A:Option Addr} {n c:Nat} {x:List MPack} {s:List MPin} {ib cb fb mb:Nat} (h:SolW W B A n c x s ib cb fb mb) (hb:Below W.heap.size W W'):SolW W' B A n c x s ib cb fb mb :=
 ⟨h.ix.kept hb h.ix.lt,h.ch.kept hb h.ch.lt,h.fn.kept hb h.fn.lt,h.map.kept hb h.map.lt,h.row.keep (KeepS.of_below hb),fun p hp=>(h.vers p hp).keep (KeepS.of_below hb),Nat.le_trans h.le hb.size⟩
theorem SolW.met {W:World} {B:Nat} {A:Option Addr} {n c:Nat} {x:List MPack} {s:List MPin} {ib cb fb mb:Nat} (h:SolW W B A n c x s ib cb fb mb) (hn:(s.map MPin.name).Nodup) {d:MDep} (hd:DepOk W (LtB B) d) (hf:FewP d) {V:World} (hV:Below W.heap.size W V) :
  Calls Tryz.prog 43 (#[d.agg] ++ #[.pointer (some ⟨cb,0,none⟩)]) V fun e w'=>e=.returned (.bool (metB (s.map MPin.p) d.p))∧Below V.heap.size V w' :=
 met_any d s cb mb B V (hd.keep (KeepS.of_below hV)) hf (fun p hp=>(h.vers p hp).ver.keep (KeepS.of_below hV)) hn (h.ch.kept hV h.ch.lt) (h.map.kept hV h.map.lt) (Nat.le_trans h.le hV.size)
theorem pinOk_any (p:MPin) (B:Nat) (A:Option Addr) (n c:Nat) (x:List MPack) (s:List MPin) (ib cb fb mb:Nat) (w:World) (h:SolW w B A n c x s ib cb fb mb) (hf:FewX x) (hnd:(s.map MPin.name).Nodup) (hp:PinOk w (LtB B) p) (hn:n≤maxLen) :
  Calls Tryz.prog 47 #[p.agg,.pointer (some ⟨ib,0,none⟩),.pointer (some ⟨fb,0,none⟩)] w fun e w'=>e=.returned (.bool (pinOk (x.map MPack.p) (s.map MPin.p) p.p))∧Below w.heap.size w w':=by
 have HEQ:=Lib.hid (pinOk_of x s p)
 have HF:=Lib.hid hf
 have HND:=Lib.hid hnd
 obtain ⟨W0,hW,hav,hb0⟩:∃ W,W=w.alloc (.cells #[.string (Ident.mk p.name),p.ver.v.a,p.ver.v.b,p.ver.v.c,.slice p.ver.A p.ver.v.pre.length p.ver.c,.slice p.ver.B p.ver.v.build.length p.ver.d] 66)∧AtV W w.heap.size [.string (Ident.mk p.name),.int .u64 p.ver.v.a,.int .u64 p.ver.v.b,.int .u64 p.ver.v.c,.slice p.ver.A p.ver.v.pre.length p.ver.c,.slice p.ver.B p.ver.v.build.length p.ver.d]∧Below w.heap.size w W:=⟨_,rfl,AtV.new w _ _,(Below.refl _ _).alloc (Nat.le_refl _) _⟩
 have HAV:=Lib.hid hav
 have HB0:=Lib.hid hb0
 have H0:=Lib.hid (h.kept hb0)
 have HP0:=Lib.hid (hp.keep (KeepS.of_below (S:=LtB B) hb0))
 clear hav hb0 h hp hf hnd
 obtain ⟨bd,hbd⟩:∃ bd,w.heap.size=bd:=⟨_,rfl⟩
 unfold MPin.agg
 go_enter Tryz.func47,Tryz.ntmps47
 go_upto_region 1 with (fail)
 rw [← hW]
 rw [hbd] at HAV
 clear hW hbd
 have c0:=HAV.out.at_ 0 _ rfl
 have c1:=HAV.out.at_ 1 _ rfl
 have c2:=HAV.out.at_ 2 _ rfl
 have c3:=HAV.out.at_ 3 _ rfl
 have c4:=HAV.out.at_ 4 _ rfl
 have c5:=HAV.out.at_ 5 _ rfl
 have i0:=H0.out.ix.at_ 0 _ rfl
 go_wp2_with fail
 refine (find_any A n c x p B _ H0.out.row hn HP0.out).mono ?_
 rintro e W1 ⟨rfl,hb⟩
 have H1:=Lib.hid (H0.out.kept hb)
 have HB1:=Lib.hid (HB0.out.trans (hb.mono HB0.out.size))
 clear hb c0 c1 c2 c3 c4 c5 i0
 have HMEM:Hid (∀ r,findRel x p.name p.ver.v=some r→RelOk W1 (LtB B) r∧FewRel r):=fun r h=>by
  obtain ⟨q,hq,hr⟩:=findRel_in h
  exact ⟨((H1.out.row.ok q hq).rels.ok r hr),HF.out.rel q hq r hr⟩
 obtain ⟨f,hfe⟩:∃ f,findRel x p.name p.ver.v=f:=⟨_,rfl⟩
 rw [hfe] at HEQ HMEM ⊢
 clear hfe
 cases f with
 | none =>
  have HEQ:=Lib.hid (show pinOk (x.map MPack.p) (s.map MPin.p) p.p=false from HEQ.out)
  have HBE:Hid (Below w.heap.size w (W1.alloc (.cells #[.int .u64 0,.int .u64 0,.int .u64 0,.slice none 0 0,.slice none 0 0,.bool false,.slice none 0 0,.slice none 0 0] 49))):=HB1.out.alloc HB1.out.size _
  unfold relV
  go_wp2
  go_ret
  exact ⟨by rw [HEQ.out]; rfl,HBE.out⟩
 | some r =>
  have HEQ:=Lib.hid (show pinOk (x.map MPack.p) (s.map MPin.p) p.p=(!r.yanked && ((r.needs.all fun d=>metB (s.map MPin.p) d.p) && !(r.bans.any fun d=>metB (s.map MPin.p) d.p))) from HEQ.out)
  have HR:=Lib.hid (HMEM.out r rfl)
  clear HMEM
  obtain ⟨W2,hW2,hrv,hb2⟩:∃ W,W=W1.alloc (.cells #[r.ver.v.a,r.ver.v.b,r.ver.v.c,.slice r.ver.A r.ver.v.pre.length r.ver.c,.slice r.ver.B r.ver.v.build.length r.ver.d,.bool r.yanked,.slice r.N r.needs.length r.nc,.slice r.B r.bans.length r.bc] 49)∧AtV W W1.heap.size [.int .u64 r.ver.v.a,.int .u64 r.ver.v.b,.int .u64 r.ver.v.c,.slice r.ver.A r.ver.v.pre.length r.ver.c,.slice r.ver.B r.ver.v.build.length r.ver.d,.bool r.yanked,.slice r.N r.needs.length r.nc,.slice r.B r.bans.length r.bc]∧Below W1.heap.size W1 W:=⟨_,rfl,AtV.new W1 _ _,(Below.refl _ _).alloc (Nat.le_refl _) _⟩
  have HRV:=Lib.hid hrv
  have HB2:=Lib.hid (HB1.out.trans (hb2.mono HB1.out.size))
  have H2:=Lib.hid (H1.out.kept hb2)
  have HR2:=Lib.hid (HR.out.1.keep (KeepS.of_below (S:=LtB B) hb2))
  clear hrv hb2
  obtain ⟨rb,hrb⟩:∃ rb,W1.heap.size=rb:=⟨_,rfl⟩
  unfold relV MRel.agg
  go_upto_region 2 with (fail)
  rw [← hW2]
  rw [hrb] at HRV
  clear hW2 hrb
  obtain ⟨y,hy⟩:∃ y,r.yanked=y:=⟨_,rfl⟩
  rw [hy] at HEQ
  have r5:W2.cell? ⟨rb,5,none⟩=some (.bool y):=by rw [← hy]; exact HRV.out.at_ 5 _ rfl
  clear hy
  cases y with
  | true =>
   have HEQ:=Lib.hid (show pinOk (x.map MPack.p) (s.map MPin.p) p.p=false from HEQ.out)
   go_wp2
   go_ret
   exact ⟨by rw [HEQ.out]; rfl,HB2.out⟩
  | false =>
   have r6:=HRV.out.at_ 6 _ rfl
   have f0:=H2.out.fn.at_ 0 _ rfl
   have hev:=everyDep_any r.N r.needs.length r.nc r.needs 43 #[.pointer (some ⟨cb,0,none⟩)] (enters_of Tryz.func43 (by kernel_rfl) rfl) (fun d=>metB (s.map MPin.p) d.p) (LtB B) W2 HR2.out.needs.row (by have:=HR.out.2.2.2.1.1; omega)
    (fun V d hd hV=>H2.out.met HND.out (HR2.out.needs.ok d hd) (HR.out.2.2.2.1.2 d hd) hV)
   go_wp2_with fail
   refine hev.mono ?_
   rintro e W3 ⟨rfl,hb3⟩
   have HB3:=Lib.hid (HB2.out.trans (hb3.mono HB2.out.size))
   have H3:=Lib.hid (H2.out.kept hb3)
   have HR3:=Lib.hid (HR2.out.keep (KeepS.of_below (S:=LtB B) hb3))
   have HRV3:=Lib.hid (HRV.out.kept hb3 HRV.out.lt)
   clear hb3 r5 r6 f0 hev
   obtain ⟨a,ha⟩:∃ a,(r.needs.all fun d=>metB (s.map MPin.p) d.p)=a:=⟨_,rfl⟩
   rw [ha] at HEQ ⊢
   clear ha
   cases a with
   | false =>
    have HEQ:=Lib.hid (show pinOk (x.map MPack.p) (s.map MPin.p) p.p=false from HEQ.out)
    go_wp2
    go_ret
    exact ⟨by rw [HEQ.out]; rfl,HB3.out⟩
   | true =>
    have r7:=HRV3.out.at_ 7 _ rfl
    have f0:=H3.out.fn.at_ 0 _ rfl
    have hco:=containsDep_any r.B r.bans.length r.bc r.bans 43 #[.pointer (some ⟨cb,0,none⟩)] (enters_of Tryz.func43 (by kernel_rfl) rfl) (fun d=>metB (s.map MPin.p) d.p) (LtB B) W3 HR3.out.bans.row (by have:=HR.out.2.2.2.2.1; omega)
     (fun V d hd hV=>H3.out.met HND.out (HR3.out.bans.ok d hd) (HR.out.2.2.2.2.2 d hd) hV)
    go_wp2_with fail
    refine hco.mono ?_
    rintro e W4 ⟨rfl,hb4⟩
    have HB4:=Lib.hid (HB3.out.trans (hb4.mono HB3.out.size))
    clear hb4 r7 f0 hco
    obtain ⟨b,hb⟩:∃ b,(r.bans.any fun d=>metB (s.map MPin.p) d.p)=b:=⟨_,rfl⟩
    rw [hb] at HEQ ⊢
    clear hb
    cases b with
    | false =>
     have HEQ:=Lib.hid (show pinOk (x.map MPack.p) (s.map MPin.p) p.p=true from HEQ.out)
     go_wp2
     go_ret
     exact ⟨by rw [HEQ.out]; rfl,HB4.out⟩
    | true =>
     have HEQ:=Lib.hid (show pinOk (x.map MPack.p) (s.map MPin.p) p.p=false from HEQ.out)
     go_wp2
     go_ret
     exact ⟨by rw [HEQ.out]; rfl,HB4.out⟩
end Go.Proofs.YtneilnibghhgmaaGreatDoor.Model
