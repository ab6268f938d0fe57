/-
  What the theorem of the last text needs of these: MoMet, MoFewW, MoSays, MoRels. Conditions: as each theorem states.
-/
import Derived.Test.YtnpjklaaokiikaaGreatDoorPlA1
import Derived.Test.YtnpjklaaokiikaaGreatDoorPlA6
import Derived.Test.YtnpjklaaokiikaaGreatDoorPlA8
import Derived.Test.YtnpjklaaokiikaaGreatDoorPlA9
import Derived.Test.YtnpjklaaokiikaaGreatDoorPlA11
import Derived.Test.YtnpjklaaokiikaaGreatDoorPlA14
import Derived.Test.YtnpjklaaokiikaaGreatDoorPlA16
import Derived.Test.YtnpjklaaokiikaaGreatDoorPlA20
import Derived.Test.YtnpjklaaokiikaaGreatDoorPlA21
import Derived.Test.YtnpjklaaokiikaaGreatDoorPlA22
import Derived.Test.YtnpjklaaokiikaaGreatDoorPlA25
import Derived.Test.YtnpjklaaokiikaaGreatDoorPlA26
import Derived.Deep.QuietTactic
import Derived.BigQuiet
set_option maxRecDepth 100000
set_option maxHeartbeats 25600000
namespace Go.Proofs.YtnpjklaaokiikaaGreatDoor.Model
open Go.RowKit Num Ident Semver Fr
open Range (Rng noRng RV KeepS LtB LenOk goodR wt)
open KR (KRow AtV)
open Name (isName)
open Go.Maps (Keyed IsMap)
open Nrm (hasR)
def verElem (v:Value):Option (DataW Value × List MemPlace):=some (.held v,[])
def zeroVer:Value:=.agg #[.int .u64 0,.int .u64 0,.int .u64 0,.slice none 0 0,.slice none 0 0]
theorem zeroVer_run (w:World):(zeroValue 34).run Tryz.prog w=.ok zeroVer w:=by unfold zeroVer; kernel_rfl
def ChosenAt (W:World) (mb:Nat) (s:List MPin):Prop :=
 ∃ D:DataW Value,W.ownsMap Tryz.prog 9 verElem mb s.length D∧IsMap D∧(∀ n,Maps.has D (.string n)=decide (n ∈ s.map MPin.name))∧∀ p ∈ s,∀ z,D.atKey (.string p.name) z=.held p.ver.agg
theorem ChosenAt.lt {W:World} {mb:Nat} {s:List MPin} (h:ChosenAt W mb s):mb<W.heap.size:=by obtain ⟨D,h,_⟩:=h; exact h.lt
theorem ChosenAt.made (w:World):ChosenAt (w.alloc (.map #[] 0)) w.heap.size [] :=
 ⟨.map [],World.ownsMap_made (H:=Value) w _ _ _,Go.Maps.isMap_empty,(fun s=>by simp [Maps.has]),fun p h=>by cases h⟩
theorem ChosenAt.but {T:Nat→Prop} {W W':World} {mb:Nat} {s:List MPin} (h:ChosenAt W mb s) (hb:But T W W') (hn:¬ T mb):ChosenAt W' mb s:=by
 obtain ⟨D,h1,h2⟩:=h
 exact ⟨D,map_but h1 hb hn,h2⟩
theorem ChosenAt.kept {B:Nat} {W W':World} {mb:Nat} {s:List MPin} (h:ChosenAt W mb s) (hb:Below B W W') (hB:mb<B):ChosenAt W' mb s :=
 h.but (T:=fun k=>B≤k) (But.of_below hb fun k _ hk=>by omega) (by omega)
def foundV (s:List MPin) (n:List UInt8):Option MVer:=(s.find? fun p=>p.name == n).map MPin.ver
theorem nodup_inj {α β:Type} {f:α→β}:∀ {l:List α},(l.map f).Nodup→∀ {a b:α},a ∈ l→b ∈ l→f a=f b→a=b
 | [],_,a,b,h,_,_=>by cases h
 | x :: l,hn,a,b,ha,hb,e=>by
  rw [List.map_cons,List.nodup_cons] at hn
  rcases List.mem_cons.1 ha with h1 | h1
  ·rcases List.mem_cons.1 hb with h2 | h2
   ·exact h1.trans h2.symm
   ·rw [h1] at e
    exact (hn.1 (List.mem_map.2 ⟨b,h2,e.symm⟩)).elim
  ·rcases List.mem_cons.1 hb with h2 | h2
   ·rw [h2] at e
    exact (hn.1 (List.mem_map.2 ⟨a,h1,e⟩)).elim
   ·exact nodup_inj hn.2 h1 h2 e
theorem ChosenAt.look {W:World} {mb:Nat} {s:List MPin} (h:ChosenAt W mb s) {n:List UInt8} (hn:n.length≤maxLen) :
  (Instr.lookup 65 (.map (some mb)) (.string (Ident.mk n)) true).run Tryz.prog W=.ok (.tuple #[(match foundV s n with | some v=>v.agg | none=>zeroVer),.bool (foundV s n).isSome]) W:=by
 obtain ⟨D,hown,hmap,hhas,hat⟩:=h
 have hk:keyOf Tryz.prog 9 (.string (Ident.mk n))=some (.string n):=by have:=strKey (s:=Ident.mk n) (by rw [mk_size]; exact hn); rwa [mk_list] at this
 obtain ⟨v,ps,hrun,hv⟩:=hown.look_ok (t:=65) (e:=34) strKeyed Tryz.underlying65 (z:=zeroVer) (zeroVer_run W) (zd:=.held zeroVer) (zp:=[]) rfl hk
 have hv:(DataW.held v,([]:List MemPlace))=(D.atKey (.string n) (.held zeroVer),ps):=Option.some.inj hv
 replace hv:DataW.held v=D.atKey (.string n) (.held zeroVer):=congrArg Prod.fst hv
 rw [hrun,hhas]
 unfold foundV
 cases hf:s.find? fun p=>p.name == n with
 | some p =>
  have hm:=List.mem_of_find?_eq_some hf
  have he:p.name=n:=by have:=List.find?_some hf; simpa using this
  have hin:n ∈ s.map MPin.name:=List.mem_map.2 ⟨p,hm,he⟩
  rw [← he,hat p hm] at hv
  rw [decide_eq_true hin,DataW.held.inj hv]; rfl
 | none =>
  have hin:n ∉ s.map MPin.name:=fun q=>by
   obtain ⟨p,hp,e⟩:=List.mem_map.1 q
   have:=List.find?_eq_none.1 hf p hp
   simp [e] at this
  have hno:Maps.has D (.string n)=false:=by rw [hhas]; exact decide_eq_false hin
  rw [Go.Maps.atKey_of_not_has hno] at hv
  rw [decide_eq_false hin,DataW.held.inj hv]; rfl
theorem chosen_add {D:DataW Value} {s:List MPin} {p:MPin} (hm:IsMap D) (hh:∀ n,Maps.has D (.string n)=decide (n ∈ s.map MPin.name)) (ha:∀ p ∈ s,∀ z,D.atKey (.string p.name) z=.held p.ver.agg) (hn:p.name ∉ s.map MPin.name) :
  IsMap (D.put (.string p.name) (.held p.ver.agg))∧(∀ n,Maps.has (D.put (.string p.name) (.held p.ver.agg)) (.string n)=decide (n ∈ (s ++ [p]).map MPin.name))∧∀ q ∈ s ++ [p],∀ z,(D.put (.string p.name) (.held p.ver.agg)).atKey (.string q.name) z=.held q.ver.agg:=by
 refine ⟨hm.put _ _,fun t=>?_,fun q hq z=>?_⟩
 ·by_cases e:t=p.name
  ·rw [e,Go.Maps.has_put_same hm (show WideAt.IsKeyLit (.string p.name) from by simp [WideAt.IsKeyLit])]; simp
  ·rw [Go.Maps.has_put_other (fun e2=>e (by injection e2)),hh]; simp [e]
 ·rcases List.mem_append.1 hq with h | h
  ·have hne:q.name≠p.name:=fun e=>hn (List.mem_map.2 ⟨q,h,e⟩)
   rw [Go.Maps.atKey_put_other (fun e2=>hne (by injection e2)),ha q h]
  ·rw [List.mem_singleton] at h
   subst h
   rw [Go.Maps.atKey_put_same hm (show WideAt.IsKeyLit (.string q.name) from by simp [WideAt.IsKeyLit])]
theorem metB_found {s:List MPin} {d:MDep} (hn:(s.map MPin.name).Nodup):metB (s.map MPin.p) d.p=(match foundV s d.name with | some v=>hasR d.r v.v | none=>false):=by
 unfold metB foundV
 rw [List.any_map]
 cases hf:s.find? fun p=>p.name == d.name with
 | some p =>
  have hm:=List.mem_of_find?_eq_some hf
  have he:p.name=d.name:=by have:=List.find?_some hf; simpa using this
  show s.any _=hasR d.r p.ver.v
  cases hh:hasR d.r p.ver.v with
  | true =>
   rw [List.any_eq_true]
   exact ⟨p,hm,by show ((p.name == d.name) && hasR d.r p.ver.v)=true; rw [he,hh]; simp⟩
  | false =>
   rw [List.any_eq_false]
   intro q hq
   show ¬ ((q.name == d.name) && hasR d.r q.ver.v)=true
   by_cases e:q.name=d.name
   ·have:q=p:=nodup_inj hn hq hm (e.trans he.symm)
    rw [this,hh]; simp
   ·simp [e]
 | none =>
  show s.any _=false
  rw [List.any_eq_false]
  intro q hq
  show ¬ ((q.name == d.name) && hasR d.r q.ver.v)=true
  have:=List.find?_eq_none.1 hf q hq
  simp at this
  simp [this]
theorem met_any (d:MDep) (s:List MPin) (cb mb:Nat) (B:Nat) (w:World) (hd:DepOk w (LtB B) d) (hf:FewP d) (hs:∀ p ∈ s,VerOk w (LtB B) p.ver) (hn:(s.map MPin.name).Nodup) (hc:AtV w cb [.map (some mb)]) (hm:ChosenAt w mb s) (hB:B≤w.heap.size) :
  Calls Tryz.prog 24 #[d.agg,.pointer (some ⟨cb,0,none⟩)] w fun e w'=>e=.returned (.bool (metB (s.map MPin.p) d.p))∧Below w.heap.size w w':=by
 have HF:=Lib.hid hf
 have HM:=Lib.hid (metB_found (d:=d) hn)
 obtain ⟨W0,hW,hav,hb0⟩:∃ W,W=w.alloc (.cells #[.string (Ident.mk d.name),d.x.kind,d.x.v.a,d.x.v.b,d.x.v.c,.slice d.x.A d.x.v.pre.length d.x.c,.slice d.x.B d.x.v.build.length d.x.d,.slice d.x.L d.x.n d.x.e] 57)∧AtV W w.heap.size [.string (Ident.mk d.name),.int .i64 d.x.kind,.int .u64 d.x.v.a,.int .u64 d.x.v.b,.int .u64 d.x.v.c,.slice d.x.A d.x.v.pre.length d.x.c,.slice d.x.B d.x.v.build.length d.x.d,.slice d.x.L d.x.n d.x.e]∧Below w.heap.size w W:=⟨_,rfl,AtV.new w _ _,(Below.refl _ _).alloc (Nat.le_refl _) _⟩
 have HAV:=Lib.hid hav
 have HB0:=Lib.hid hb0
 have HD0:=Lib.hid (hd.keep (KeepS.of_below (S:=LtB B) hb0))
 have HC0:=Lib.hid (hc.kept hb0 hc.lt)
 have HS0:Hid (∀ p ∈ s,VerOk W0 (LtB B) p.ver):=fun p hp=>(hs p hp).keep (KeepS.of_below hb0)
 have HL0:Hid (B≤W0.heap.size):=Nat.le_trans hB hb0.size
 have hlook:=(hm.kept hb0 hm.lt).look (n:=d.name) hd.short
 have HMEM:Hid (∀ v,foundV s d.name=some v→∃ p ∈ s,p.ver=v):=fun v h=>by
  unfold foundV at h
  obtain ⟨p,hp,e⟩:=Option.map_eq_some_iff.1 h
  exact ⟨p,List.mem_of_find?_eq_some hp,e⟩
 clear hav hb0 hd hf hs hn hc hm hB
 obtain ⟨bd,hbd⟩:∃ bd,w.heap.size=bd:=⟨_,rfl⟩
 obtain ⟨f,hfe⟩:∃ f,foundV s d.name=f:=⟨_,rfl⟩
 rw [hfe] at hlook HM HMEM
 clear hfe
 unfold MDep.agg
 cases f with
 | none =>
  replace hlook:(Instr.lookup 65 (.map (some mb)) (.string (Ident.mk d.name)) true).run Tryz.prog W0=.ok (.tuple #[.agg #[.int .u64 0,.int .u64 0,.int .u64 0,.slice none 0 0,.slice none 0 0],.bool false]) W0:=hlook
  have HM:Hid (metB (s.map MPin.p) d.p=false):=HM.out
  go_enter Tryz.func24,Tryz.ntmps24
  go_upto_region 1 with (fail)
  rw [← hW]
  rw [hbd] at HAV
  clear hW hbd
  have c0:=HAV.out.at_ 0 _ rfl
  have m0:=HC0.out.at_ 0 _ rfl
  have HBE:Hid (Below w.heap.size w (W0.alloc false)):=HB0.out.alloc HB0.out.size _
  go_wp2
  go_ret
  exact ⟨by rw [HM.out]; rfl,HBE.out⟩
 | some v =>
  replace hlook:(Instr.lookup 65 (.map (some mb)) (.string (Ident.mk d.name)) true).run Tryz.prog W0=.ok (.tuple #[.agg #[v.v.a,v.v.b,v.v.c,.slice v.A v.v.pre.length v.c,.slice v.B v.v.build.length v.d],.bool true]) W0:=hlook
  have HM:Hid (metB (s.map MPin.p) d.p=hasR d.r v.v):=HM.out
  obtain ⟨p,hp,hpv⟩:=HMEM.out v rfl
  have HV0:Hid (VerOk W0 (LtB B) v):=by have:=HS0.out p hp; rw [hpv] at this; exact this
  clear hp hpv HMEM HS0
  obtain ⟨W1,hW1,hvv,hb1⟩:∃ W,W=W0.alloc (v.v,v.A,v.c,v.B,v.d)∧AtV W W0.heap.size [.int .u64 v.v.a,.int .u64 v.v.b,.int .u64 v.v.c,.slice v.A v.v.pre.length v.c,.slice v.B v.v.build.length v.d]∧Below W0.heap.size W0 W:=⟨_,rfl,AtV.new W0 _ _,(Below.refl _ _).alloc (Nat.le_refl _) _⟩
  have HVV:=Lib.hid hvv
  have HB1:=Lib.hid (HB0.out.trans (hb1.mono HB0.out.size))
  have HAV1:=Lib.hid (HAV.out.kept hb1 HAV.out.lt)
  have HD1:=Lib.hid (HD0.out.keep (KeepS.of_below (S:=LtB B) hb1))
  have HV1:=Lib.hid (HV0.out.keep (KeepS.of_below (S:=LtB B) hb1))
  have HL1:Hid (B≤W1.heap.size):=Nat.le_trans HL0.out hb1.size
  clear hvv hb1
  obtain ⟨vb,hvb⟩:∃ vb,W0.heap.size=vb:=⟨_,rfl⟩
  go_enter Tryz.func24,Tryz.ntmps24
  go_upto_region 1 with (fail)
  rw [← hW]
  rw [hbd] at HAV HAV1
  clear hW hbd
  have c0:=HAV.out.at_ 0 _ rfl
  have m0:=HC0.out.at_ 0 _ rfl
  go_upto_region 2 with (fail)
  rw [← hW1]
  rw [hvb] at HVV
  clear hW1 hvb c0 m0 hlook
  have c1:=HAV1.out.at_ 1 _ rfl
  have c2:=HAV1.out.at_ 2 _ rfl
  have c3:=HAV1.out.at_ 3 _ rfl
  have c4:=HAV1.out.at_ 4 _ rfl
  have c5:=HAV1.out.at_ 5 _ rfl
  have c6:=HAV1.out.at_ 6 _ rfl
  have c7:=HAV1.out.at_ 7 _ rfl
  have v0:=HVV.out.at_ 0 _ rfl
  have v1:=HVV.out.at_ 1 _ rfl
  have v2:=HVV.out.at_ 2 _ rfl
  have v3:=HVV.out.at_ 3 _ rfl
  have v4:=HVV.out.at_ 4 _ rfl
  go_wp2_with fail
  refine (Nrm.has_norm d.r d.x B v.v v.A v.c v.B v.d _ HD1.out.lies HL1.out HD1.out.len (fun _=>by have:=few_wt HF.out HD1.out.slim; omega) HV1.out.pre HV1.out.build ⟨HV1.out.fit.pre,HV1.out.fit.build,HV1.out.fit.pres,HV1.out.fit.builds⟩).mono ?_
  rintro e W2 ⟨rfl,hb⟩
  have HB2:=Lib.hid (HB1.out.trans (hb.mono HB1.out.size))
  clear hb c1 c2 c3 c4 c5 c6 c7 v0 v1 v2 v3 v4
  obtain ⟨q,hq⟩:∃ q,hasR d.r v.v=q:=⟨_,rfl⟩
  have HQ:=Lib.hid (HM.out.trans hq)
  rw [hq]
  clear hq HM
  go_wp2
  go_ret
  exact ⟨by rw [HQ.out]; rfl,HB2.out⟩
end Go.Proofs.YtnpjklaaokiikaaGreatDoor.Model
namespace Go.Proofs.YtnpjklaaokiikaaGreatDoor.Model
open Go.RowKit Num Ident Semver
open Range (Rng noRng RV KeepS LtB LenOk goodR wt)
open KR (KRow AtV)

def FewPin (p:MPin):Prop:=p.name.length≤300∧p.ver.v.pre.length≤20∧p.ver.v.build.length≤20
def FewRel (r:MRel):Prop:=r.ver.v.pre.length≤20∧r.ver.v.build.length≤20∧FewD r.needs∧FewD r.bans
def FewPack (p:MPack):Prop:=(p.name.length≤300∧p.rels.length≤6)∧∀ r ∈ p.rels,FewRel r
def FewPost (x:List MPack) (roots:List MDep) (s:List MPin) (w:World) (e:Ending) (w':World):Prop :=
 ∃ z:Int,e=.returned (.int .i64 z)∧(z=0→FewX x∧FewD roots∧FewS s)∧Below w.heap.size w w'
theorem FewPost.no {x:List MPack} {roots:List MDep} {s:List MPin} {w w':World} {z:Int} (hz:z≠0) (hb:Below w.heap.size w w'):FewPost x roots s w (.returned (.int .i64 z)) w' :=
 ⟨z,rfl,fun h=>absurd h hz,hb⟩
theorem lawFew_any (A:Option Addr) (n c:Nat) (x:List MPack) (RA:Option Addr) (rn rc:Nat) (roots:List MDep) (SA:Option Addr) (m sc:Nat) (s:List MPin) (B:Nat) (w:World) (hx:PRow w (LtB B) A n x) (hr:DRow w (LtB B) RA rn roots) (hs:SPRow w (LtB B) SA m s) (hB:B≤w.heap.size) (hn:n≤maxLen) (hrn:rn≤maxLen) (hm:m≤maxLen) :
  Calls Tryz.prog 7 #[.agg #[.slice A n c],.slice RA rn rc,.slice SA m sc] w (FewPost x roots s w):=by
 have HX:=Lib.hid hx
 have HRT:=Lib.hid hr
 have HSP:=Lib.hid hs
 have HLX:=Lib.hid hx.row.1
 have HLS:=Lib.hid hs.row.1
 have HRN:=Lib.hid hrn
 have hnn:n≤9223372036854775807:=hn
 have hmm:m≤9223372036854775807:=hm
 clear hx hr hs hrn
 obtain ⟨W0,hW,hav,hb0⟩:∃ W,W=w.alloc (.cells #[.slice A n c] 24)∧AtV W w.heap.size [.slice A n c]∧Below w.heap.size w W:=⟨_,rfl,AtV.new w _ _,(Below.refl _ _).alloc (Nat.le_refl _) _⟩
 have HS0:Hid (SolAt w w.heap.size A n c W0):=⟨hav,hb0⟩
 clear hav hb0
 obtain ⟨ib,hib⟩:∃ ib,w.heap.size=ib:=⟨_,rfl⟩
 go_enter Tryz.func7,Tryz.ntmps7
 go_upto_region 1 with (fail)
 rw [← hW]
 clear hW
 have HIE:=Lib.hid hib
 rw [hib] at HS0
 clear hib
 have i0:=HS0.out.ix.at_ 0 _ rfl
 by_cases h6:6<n
 ·go_wp2
  go_ret
  exact FewPost.no (by omega) HS0.out.bel
 ·by_cases h8:8<m
  ·go_wp2
   go_ret
   exact FewPost.no (by omega) HS0.out.bel
  ·have HN6:Hid (x.length≤6):=by unfold Hid; rw [HLX.out]; omega
   have HM8:Hid (s.length≤8):=by unfold Hid; rw [HLS.out]; omega
   go_wp2_with fail
   refine (lawDeps_any RA rn rc roots B W0 (HRT.out.keep (KeepS.of_below (S:=LtB B) HS0.out.bel)) (Nat.le_trans hB HS0.out.bel.size) HRN.out).mono ?_
   rintro e W1 ⟨b,rfl,hfd,hb1⟩
   have HS1:=Lib.hid (HS0.out.kept hb1)
   clear hb1 i0
   cases b with
   | false =>
    clear hfd
    go_wp2
    go_ret
    exact FewPost.no (by omega) HS1.out.bel
   | true =>
    have HFD:=Lib.hid (hfd rfl)
    clear hfd
    go_wp2
    go_loopw [7] (fun v W=>∃ k:Nat,k≤m∧v=.int .i64 k∧Hid (∀ j,j<k→FewPin (s.getD j default))∧Hid (Below W1.heap.size W1 W)) (fun v _=>m - (intOf v).toNat)
    case atStart=>exact ⟨0,Nat.zero_le _,rfl,(fun j hj=>by omega),Below.refl _ _⟩
    case round =>
     rename World=>wk
     obtain ⟨k,hk,rfl,HD,HW⟩:=hrel
     have HSK:=Lib.hid (HS1.out.kept HW.out)
     by_cases hlt:k<m
     ·have hrow:=HSP.out.keep (KeepS.of_below (S:=LtB B) HSK.out.bel)
      have HPO:Hid (PinOk wk (LtB B) (s.getD k default)):=hrow.ok _ (getD_mem (by rw [HLS.out]; exact hlt))
      obtain ⟨b,o,rfl,_,hb,c0,c1,c2,c3,c4,c5⟩:=hrow.cells hlt
      have HMO:Hid (FewPin (s.getD k default)→∀ j,j<k+1→FewPin (s.getD j default)):=at_step HD.out
      clear hrow
      generalize s.getD k default=p at c0 c1 c2 c3 c4 c5 HPO HMO
      have hz:(Ident.mk p.name).size=p.name.length:=mk_size _
      have hsh:p.name.length≤9223372036854775807:=HPO.out.short
      have hs1:p.ver.v.pre.length≤9223372036854775807:=HPO.out.ver.fit.pre
      have hs2:p.ver.v.build.length≤9223372036854775807:=HPO.out.ver.fit.build
      by_cases h3:300<p.name.length
      ·go_wp2
       go_ret
       exact FewPost.no (by omega) HSK.out.bel
      ·by_cases h4:20<p.ver.v.pre.length
       ·go_wp2
        go_ret
        exact FewPost.no (by omega) HSK.out.bel
       ·by_cases h5:20<p.ver.v.build.length
        ·go_wp2
         go_ret
         exact FewPost.no (by omega) HSK.out.bel
        ·have HP:Hid (∀ j,j<k+1→FewPin (s.getD j default)):=HMO.out ⟨by omega,by omega,by omega⟩
         go_wp2
         exact ⟨⟨k+1,by omega,by go_num,HP.out,HW.out⟩,by simp [intOf]; omega⟩
     ·obtain rfl:k=m:=by omega
      have HFS:Hid (FewS s):=⟨HM8.out,mem_of_at HLS.out HD.out⟩
      clear HD
      go_wp2
      go_loopw [8] (fun v W=>∃ i:Nat,i≤n∧v=.int .i64 i∧Hid (∀ j,j<i→FewPack (x.getD j default))∧Hid (Below wk.heap.size wk W)) (fun v _=>n - (intOf v).toNat)
      case atStart=>exact ⟨0,Nat.zero_le _,rfl,(fun j hj=>by omega),Below.refl _ _⟩
      case round =>
       rename World=>wi
       obtain ⟨i,hi,rfl,HDI,HWI⟩:=hrel
       have HSI:=Lib.hid (HSK.out.kept HWI.out)
       by_cases hlt:i<n
       ·have hrow:=HX.out.keep (KeepS.of_below (S:=LtB B) HSI.out.bel)
        have HPK:Hid (PackOk wi (LtB B) (x.getD i default)):=hrow.ok _ (getD_mem (by rw [HLX.out]; exact hlt))
        obtain ⟨b,o,e0,_,hb,c0,c1⟩:=hrow.cells hlt
        have HMO:Hid (FewPack (x.getD i default)→∀ j,j<i+1→FewPack (x.getD j default)):=at_step HDI.out
        clear hrow
        generalize x.getD i default=p at c0 c1 HPK HMO
        subst e0
        have i0:=HSI.out.ix.at_ 0 _ rfl
        have hin:¬ n≤i:=by omega
        go_upto_region 12 with (fail)
        have HAL:Hid (Below wi.heap.size wi (wi.alloc (.cells #[.string (Ident.mk p.name),.slice p.R p.rels.length p.rc] 60))):=(Below.refl _ _).alloc (Nat.le_refl _) _
        have HSI2:=Lib.hid (HSI.out.kept HAL.out)
        have HWI2:=Lib.hid (HWI.out.trans (HAL.out.mono HWI.out.size))
        have HPB:Hid (AtV (wi.alloc (.cells #[.string (Ident.mk p.name),.slice p.R p.rels.length p.rc] 60)) wi.heap.size [.string (Ident.mk p.name),.slice p.R p.rels.length p.rc]):=AtV.new wi _ _
        have HPK2:Hid (PackOk (wi.alloc (.cells #[.string (Ident.mk p.name),.slice p.R p.rels.length p.rc] 60)) (LtB B) p):=HPK.out.keep (KeepS.of_below HAL.out)
        obtain ⟨pb,hpb⟩:∃ pb,wi.heap.size=pb:=⟨_,rfl⟩
        rw [hpb] at HPB ⊢
        clear hpb c0 c1 i0 HPK HAL HSI HWI
        generalize wi.alloc (.cells #[.string (Ident.mk p.name),.slice p.R p.rels.length p.rc] 60)=W2 at HSI2 HWI2 HPB HPK2 ⊢
        have p0:=HPB.out.at_ 0 _ rfl
        have p1:=HPB.out.at_ 1 _ rfl
        have hz:(Ident.mk p.name).size=p.name.length:=mk_size _
        have hsh:p.name.length≤9223372036854775807:=HPK2.out.short
        have hrl:p.rels.length≤9223372036854775807:=Nat.le_trans HPK2.out.rc.1 HPK2.out.rc.2
        by_cases h3:300<p.name.length
        ·go_wp2
         go_ret
         exact FewPost.no (by omega) HSI2.out.bel
        ·by_cases h4:6<p.rels.length
         ·go_wp2
          go_ret
          exact FewPost.no (by omega) HSI2.out.bel
         ·have HPP:Hid (p.name.length≤300∧p.rels.length≤6):=⟨by omega,by omega⟩
          go_wp2
          clear p0 p1
          go_loopw [10] (fun v W=>∃ q:Nat,q≤p.rels.length∧v=.int .i64 q∧Hid (∀ j,j<q→FewRel (p.rels.getD j default))∧Hid (Below W2.heap.size W2 W)) (fun v _=>p.rels.length - (intOf v).toNat)
          case atStart=>exact ⟨0,Nat.zero_le _,rfl,(fun j hj=>by omega),Below.refl _ _⟩
          case round =>
           rename World=>wq
           obtain ⟨q,hq,rfl,HDQ,HWQ⟩:=hrel
           have HPQ:=Lib.hid (HPB.out.kept HWQ.out HPB.out.lt)
           have HSQ:=Lib.hid (HSI2.out.kept HWQ.out)
           have HWIQ:=Lib.hid (HWI2.out.trans (HWQ.out.mono HWI2.out.size))
           have p1:=HPQ.out.at_ 1 _ rfl
           by_cases hql:q<p.rels.length
           ·have hrr:=HPK2.out.rels.keep (KeepS.of_below (S:=LtB B) HWQ.out)
            have HRO:Hid (RelOk wq (LtB B) (p.rels.getD q default)):=hrr.ok _ (getD_mem hql)
            obtain ⟨g,og,eg,_,hgl,c0,c1,c2,c3,c4,c5,c6,c7⟩:=hrr.cells hql
            rw [eg] at p1
            have HMQ:Hid (FewRel (p.rels.getD q default)→∀ j,j<q+1→FewRel (p.rels.getD j default)):=at_step HDQ.out
            clear hrr eg
            generalize p.rels.getD q default=r at c0 c1 c2 c3 c4 c5 c6 c7 HRO HMQ
            have hqn:¬ p.rels.length≤q:=by omega
            go_upto_region 18 with (fail)
            have HAL:Hid (Below wq.heap.size wq (wq.alloc (.cells #[r.ver.v.a,r.ver.v.b,r.ver.v.c,.slice r.ver.A r.ver.v.pre.length r.ver.c,.slice r.ver.B r.ver.v.build.length r.ver.d,.bool r.yanked,.slice r.N r.needs.length r.nc,.slice r.B r.bans.length r.bc] 36))):=(Below.refl _ _).alloc (Nat.le_refl _) _
            have HWQ2:=Lib.hid (HWQ.out.trans (HAL.out.mono HWQ.out.size))
            have HRO2:Hid (RelOk (wq.alloc (.cells #[r.ver.v.a,r.ver.v.b,r.ver.v.c,.slice r.ver.A r.ver.v.pre.length r.ver.c,.slice r.ver.B r.ver.v.build.length r.ver.d,.bool r.yanked,.slice r.N r.needs.length r.nc,.slice r.B r.bans.length r.bc] 36)) (LtB B) r):=HRO.out.keep (KeepS.of_below HAL.out)
            have HQB:Hid (AtV (wq.alloc (.cells #[r.ver.v.a,r.ver.v.b,r.ver.v.c,.slice r.ver.A r.ver.v.pre.length r.ver.c,.slice r.ver.B r.ver.v.build.length r.ver.d,.bool r.yanked,.slice r.N r.needs.length r.nc,.slice r.B r.bans.length r.bc] 36)) wq.heap.size [.int .u64 r.ver.v.a,.int .u64 r.ver.v.b,.int .u64 r.ver.v.c,.slice r.ver.A r.ver.v.pre.length r.ver.c,.slice r.ver.B r.ver.v.build.length r.ver.d,.bool r.yanked,.slice r.N r.needs.length r.nc,.slice r.B r.bans.length r.bc]):=AtV.new wq _ _
            obtain ⟨qb,hqb⟩:∃ qb,wq.heap.size=qb:=⟨_,rfl⟩
            rw [hqb] at HQB ⊢
            clear hqb c0 c1 c2 c3 c4 c5 c6 c7 p1 HRO HAL hgl HPQ HSQ HWIQ HWQ
            generalize wq.alloc (.cells #[r.ver.v.a,r.ver.v.b,r.ver.v.c,.slice r.ver.A r.ver.v.pre.length r.ver.c,.slice r.ver.B r.ver.v.build.length r.ver.d,.bool r.yanked,.slice r.N r.needs.length r.nc,.slice r.B r.bans.length r.bc] 36)=W3 at HRO2 HWQ2 HQB ⊢
            have HS3:=Lib.hid (HSI2.out.kept HWQ2.out)
            have hs1:r.ver.v.pre.length≤9223372036854775807:=HRO2.out.ver.fit.pre
            have hs2:r.ver.v.build.length≤9223372036854775807:=HRO2.out.ver.fit.build
            have q3:=HQB.out.at_ 3 _ rfl
            have q4:=HQB.out.at_ 4 _ rfl
            have q6:=HQB.out.at_ 6 _ rfl
            by_cases h5:20<r.ver.v.pre.length
            ·go_wp2
             go_ret
             exact FewPost.no (by omega) HS3.out.bel
            ·by_cases h7:20<r.ver.v.build.length
             ·go_wp2
              go_ret
              exact FewPost.no (by omega) HS3.out.bel
             ·have HRP:Hid (r.ver.v.pre.length≤20∧r.ver.v.build.length≤20):=⟨by omega,by omega⟩
              go_wp2_with fail
              refine (lawDeps_any r.N r.needs.length r.nc r.needs B W3 HRO2.out.needs (Nat.le_trans hB HS3.out.bel.size) (Nat.le_trans HRO2.out.nc.1 HRO2.out.nc.2)).mono ?_
              rintro e W4 ⟨b4,rfl,hf4,hb4⟩
              have HB4:=Lib.hid hb4
              have HS4:=Lib.hid (HS3.out.kept hb4)
              have HQ4:=Lib.hid (HQB.out.kept hb4 HQB.out.lt)
              clear hb4 q3 q4 q6
              cases b4 with
              | false =>
               clear hf4
               go_wp2
               go_ret
               exact FewPost.no (by omega) HS4.out.bel
              | true =>
               have HF4:=Lib.hid (hf4 rfl)
               clear hf4
               have q7:=HQ4.out.at_ 7 _ rfl
               go_wp2_with fail
               refine (lawDeps_any r.B r.bans.length r.bc r.bans B W4 (HRO2.out.bans.keep (KeepS.of_below (S:=LtB B) HB4.out)) (Nat.le_trans hB HS4.out.bel.size) (Nat.le_trans HRO2.out.bc.1 HRO2.out.bc.2)).mono ?_
               rintro e W5 ⟨b5,rfl,hf5,hb5⟩
               have HS5:=Lib.hid (HS4.out.kept hb5)
               have HW5:=Lib.hid (HWQ2.out.trans ((HB4.out.trans (hb5.mono HB4.out.size)).mono HWQ2.out.size))
               clear hb5 q7
               cases b5 with
               | false =>
                clear hf5
                go_wp2
                go_ret
                exact FewPost.no (by omega) HS5.out.bel
               | true =>
                have HP:Hid (∀ j,j<q+1→FewRel (p.rels.getD j default)):=HMQ.out ⟨HRP.out.1,HRP.out.2,HF4.out,hf5 rfl⟩
                clear hf5
                go_wp2
                exact ⟨⟨q+1,by omega,by go_num,HP.out,HW5.out⟩,by simp [intOf]; omega⟩
           ·obtain rfl:q=p.rels.length:=by omega
            have HP:Hid (∀ j,j<i+1→FewPack (x.getD j default)):=HMO.out ⟨HPP.out,mem_of_at rfl HDQ.out⟩
            go_wp2
            exact ⟨⟨i+1,by omega,by go_num,HP.out,HWIQ.out⟩,by simp [intOf]; omega⟩
       ·obtain rfl:i=n:=by omega
        have HF:=Lib.hid (mem_of_at HLX.out HDI.out)
        have HFX:Hid (FewX x):=⟨HN6.out,fun p hp=>(HF.out p hp).1,fun p hp r hr=>(HF.out p hp).2 r hr⟩
        have i0:=HSI.out.ix.at_ 0 _ rfl
        go_wp2
        go_ret
        exact ⟨0,rfl,fun _=>⟨HFX.out,HFD.out,HFS.out⟩,HSI.out.bel⟩
end Go.Proofs.YtnpjklaaokiikaaGreatDoor.Model
namespace Go.Proofs.YtnpjklaaokiikaaGreatDoor.Model
open Go.RowKit Num Ident Semver
open Range (Rng noRng RV KeepS LtB LenOk goodR wt zeroRV)
open KR (KRow AtV)

structure SlOk (A:Option Addr) (n c:Nat):Prop where
 le:n≤c
 max:c≤maxLen
 nil:A=none→c=0
theorem SlOk.len {A:Option Addr} {n c:Nat} (h:SlOk A n c):n≤maxLen:=Nat.le_trans h.le h.max
theorem SlOk.zero:SlOk none 0 0:=⟨Nat.le_refl _,by unfold maxLen; omega,fun _=>rfl⟩
def RelPost (x:List MPack) (name:List UInt8) (v:Ver) (w:World) (e:Ending) (w':World):Prop :=
 ∃ r:MRel,e=.returned (.tuple #[r.agg,.bool (releaseO (x.map MPack.p) name v).isSome])∧r.p=(releaseO (x.map MPack.p) name v).getD default∧RelOk w' (LtB w'.heap.size) r∧Below w.heap.size w w'
def PlainPost (x:List MPack) (w:World) (e:Ending) (w':World):Prop :=
 ∃ (A:Option Addr) (c:Nat) (y:List MPack),e=.returned (.agg #[.slice A y.length c])∧PRow w' (LtB w'.heap.size) A y.length y∧SlOk A y.length c∧PlainOf (x.map MPack.p) (y.map MPack.p)∧Below w.heap.size w w'
structure SaysA:Prop where
 check:∀ (A:Option Addr) (n c:Nat) (x:List MPack) (B:Nat) (w:World),PRow w (LtB B) A n x→B≤w.heap.size→SlOk A n c→FewX x→Tab w→Calls Tryz.prog 16 #[.agg #[.slice A n c]] w fun e w'=>e=.returned (checkV (checkF (x.map MPack.p)))∧Below w.heap.size w w'
 roots:∀ (A:Option Addr) (n c:Nat) (l:List MDep) (B:Nat) (w:World),DRow w (LtB B) A n l→B≤w.heap.size→SlOk A n c→FewD l→Calls Tryz.prog 62 #[.slice A n c] w fun e w'=>e=.returned (out2V (rootsF (l.map MDep.p)))∧Below w.heap.size w w'
 pins:∀ (A:Option Addr) (n c:Nat) (s:List MPin) (B:Nat) (w:World),SPRow w (LtB B) A n s→B≤w.heap.size→SlOk A n c→FewS s→Calls Tryz.prog 63 #[.slice A n c] w fun e w'=>e=.returned (out2V (pinsF (s.map MPin.p)))∧Below w.heap.size w w'
 solves:∀ (A:Option Addr) (n c:Nat) (x:List MPack) (RA:Option Addr) (rn rc:Nat) (roots:List MDep) (SA:Option Addr) (m sc:Nat) (s:List MPin) (B:Nat) (w:World),PRow w (LtB B) A n x→DRow w (LtB B) RA rn roots→SPRow w (LtB B) SA m s→B≤w.heap.size→SlOk A n c→SlOk RA rn rc→SlOk SA m sc→FewX x→FewD roots→FewS s→Tab w →
  Calls Tryz.prog 8 #[.agg #[.slice A n c],.slice RA rn rc,.slice SA m sc] w fun e w'=>e=.returned (.bool (solvesB (x.map MPack.p) (roots.map MDep.p) (s.map MPin.p)))∧Below w.heap.size w w'
structure Says:Prop extends SaysA where
 release:∀ (A:Option Addr) (n c:Nat) (x:List MPack) (name:List UInt8) (v:MVer) (B:Nat) (w:World),PRow w (LtB B) A n x→VerOk w (LtB B) v→B≤w.heap.size→SlOk A n c→FewX x→name.length≤300→v.v.pre.length≤20→v.v.build.length≤20 →
  Calls Tryz.prog 11 #[.agg #[.slice A n c],.string (Ident.mk name),v.agg] w (RelPost x name v.v w)
 isplain:∀ (A:Option Addr) (n c:Nat) (x:List MPack) (B:Nat) (w:World),PRow w (LtB B) A n x→B≤w.heap.size→SlOk A n c→FewX x→Calls Tryz.prog 15 #[.agg #[.slice A n c]] w fun e w'=>e=.returned (.bool (plainB (x.map MPack.p)))∧Below w.heap.size w w'
 plain:∀ (A:Option Addr) (n c:Nat) (x:List MPack) (B:Nat) (w:World),PRow w (LtB B) A n x→B≤w.heap.size→SlOk A n c→FewX x→Calls Tryz.prog 10 #[.agg #[.slice A n c]] w (PlainPost x w)

/-! What is few and short, of what memory reads as. -/
def FewDP (l:List PDep):Prop:=l.length≤6∧∀ d ∈ l,d.name.length≤300∧(Nrm.Slim d.r→Nrm.tot d.r≤12)
theorem fewD_p (l:List MDep):FewD l↔FewDP (l.map MDep.p):=by
 unfold FewD FewDP
 rw [List.length_map]
 simp only [List.mem_map,forall_exists_index,and_imp,forall_apply_eq_imp_iff₂]
 exact Iff.rfl
def FewRP (r:PRel):Prop:=r.v.pre.length≤20∧r.v.build.length≤20∧FewDP r.needs∧FewDP r.bans
theorem fewR_p (r:MRel):FewRel r↔FewRP r.p:=by
 unfold FewRel FewRP; rw [fewD_p,fewD_p]; exact Iff.rfl
def FewPP (p:PPack):Prop:=p.name.length≤300∧p.rels.length≤6∧∀ r ∈ p.rels,FewRP r
theorem fewX_p (x:List MPack):FewX x↔(x.map MPack.p).length≤6∧∀ p ∈ x.map MPack.p,FewPP p:=by
 rw [List.length_map]
 simp only [List.mem_map,forall_exists_index,and_imp,forall_apply_eq_imp_iff₂]
 constructor
 ·intro h
  refine ⟨h.len,fun p hp=>⟨(h.pack p hp).1,by have:=(h.pack p hp).2; simpa [MPack.p] using this,fun r hr=>?_⟩⟩
  obtain ⟨r0,h0,rfl⟩:=List.mem_map.1 hr
  exact (fewR_p r0).1 (h.rel p hp r0 h0)
 ·rintro ⟨h1,h2⟩
  exact ⟨h1,fun p hp=>⟨(h2 p hp).1,by have:=(h2 p hp).2.1; simpa [MPack.p] using this⟩,fun p hp r hr=>(fewR_p r).2 ((h2 p hp).2.2 r.p (List.mem_map.2 ⟨r,hr,rfl⟩))⟩
theorem plain_few {x y:List MPack} (h:PlainOf (x.map MPack.p) (y.map MPack.p)) (hx:FewX x):FewX y:=by
 rw [fewX_p] at hx ⊢
 refine ⟨by rw [plain_len h]; exact hx.1,?_⟩
 obtain ⟨z,hl,hz,hs⟩:=h
 intro q hq
 obtain ⟨p,hp,h1,h2⟩:=mid_mem hl hz (hs.perm.mem_iff.1 hq)
 have:=hx.2 p hp
 exact ⟨by rw [h1]; exact this.1,by rw [h2.perm.length_eq]; exact this.2.1,fun r hr=>this.2.2 r (h2.perm.mem_iff.1 hr)⟩
theorem fewD_none:FewD []:=⟨by simp,fun p hp=>by cases hp⟩
theorem DRow.none_ (w:World) (S:Nat→Prop):DRow w S none 0 []:=⟨KRow.none_ _ _ _,fun d hd=>by cases hd⟩
theorem SPRow.none_ (w:World) (S:Nat→Prop):SPRow w S none 0 []:=⟨KRow.none_ _ _ _,fun d hd=>by cases hd⟩
end Go.Proofs.YtnpjklaaokiikaaGreatDoor.Model
namespace Go.Proofs.YtnpjklaaokiikaaGreatDoor.Model
open Go.RowKit Num Ident Semver Fr
open Range (Rng noRng RV KeepS LtB LenOk goodR wt)
open KR (KRow AtV)
open Name (isName)
open Nrm (hasR inV)

theorem good_vtext {v:Ver} (h:goodV v=true):(vtext v).length≤24144:=by
 unfold goodV at h
 rw [Bool.and_eq_true,Bool.and_eq_true] at h
 obtain ⟨h1,h2,h3⟩:=h
 unfold heldB maxField at h1
 have h1:=of_decide_eq_true h1
 have a:=dec_le v.a (by omega)
 have b:=dec_le v.b (by omega)
 have c:=dec_le v.c (by omega)
 have s1:shortB v.pre=true:=by
  rw [shortB_iff]
  have:=goodFrom_bound v.pre 0 h2
  refine ⟨?_,fun x hx=>Nat.le_trans (this.2 x hx) (by omega)⟩
  by_cases hn:v.pre=[]
  ·rw [hn]; exact Nat.zero_le _
  ·have:=this.1 hn; omega
 have s2:shortB v.build=true:=by
  rw [shortB_iff]
  have:=goodFrom_bound v.build 0 h3
  refine ⟨?_,fun x hx=>Nat.le_trans (this.2 x hx) (by omega)⟩
  by_cases hn:v.build=[]
  ·rw [hn]; exact Nat.zero_le _
  ·have:=this.1 hn; omega
 have p:=rowText_le (m:=45) s1
 have q:=rowText_le (m:=43) s2
 unfold vtext
 simp only [List.length_append,List.length_singleton]
 omega
theorem good_short2 {v:Ver} (h:goodV v=true):shortB v.pre=true∧shortB v.build=true:=by
 unfold goodV at h
 rw [Bool.and_eq_true,Bool.and_eq_true] at h
 obtain ⟨_,h2,h3⟩:=h
 have b1:=goodFrom_bound _ _ h2
 have b2:=goodFrom_bound _ _ h3
 refine ⟨(shortB_iff _).2 ⟨?_,fun x hx=>Nat.le_trans (b1.2 x hx) (by omega)⟩,(shortB_iff _).2 ⟨?_,fun x hx=>Nat.le_trans (b2.2 x hx) (by omega)⟩⟩
 ·by_cases e:v.pre=[]
  ·rw [e]; simp
  ·have:=b1.1 e; omega
 ·by_cases e:v.build=[]
  ·rw [e]; simp
  ·have:=b2.1 e; omega
theorem vtext_inj {u v:Ver} (hu:goodV u=true) (hv:goodV v=true) (h:vtext u=vtext v):u=v:=by
 have a:=text_read hu
 rw [h,text_read hv] at a
 injection a with _ a
 injection a with _ a
 exact a.symm
def relK (x:List (List UInt8)) (pn:List UInt8) (r:PRel):Int × Int:=if goodV r.v=false then (-1,3) else if vtext r.v ∈ x then (-1,6) else out2 (depsF pn r)
theorem relK_ver {x:List (List UInt8)} {pn:List UInt8} {r:PRel} (h:goodV r.v=false):relK x pn r=(-1,3):=by unfold relK; rw [if_pos h]
theorem relK_there {x:List (List UInt8)} {pn:List UInt8} {r:PRel} (h:goodV r.v=true) (g:vtext r.v ∈ x):relK x pn r=(-1,6):=by unfold relK; rw [if_neg (by rw [h]; decide),if_pos g]
theorem relK_deps {x:List (List UInt8)} {pn:List UInt8} {r:PRel} (h:goodV r.v=true) (g:vtext r.v ∉ x):relK x pn r=out2 (depsF pn r):=by unfold relK; rw [if_neg (by rw [h]; decide),if_neg g]
structure RelPost1 (x:List (List UInt8)) (s:List UInt8) (mb db:Nat) (q:Int × Int) (w:World) (e:Ending) (w':World):Prop where
 out:e=.returned (.int .i64 q.2)
 dep:AtV w' db [.int .i64 q.1]
 seen:q.2=0→SeenAt w' mb (x ++ [s])
 but:But (fun b=>b=mb∨b=db) w w'
theorem rel1_any (r:MRel) (p:MPack) (sb pb db mb:Nat) (x:List (List UInt8)) (B:Nat) (w:World) (hr:RelOk w (LtB B) r) (hf:FewRel r) (hs:AtV w sb [.map (some mb)]) (hp:AtV w pb [.string (Ident.mk p.name),.slice p.R p.rels.length p.rc]) (hd:AtV w db [.int .i64 (-1)]) (hx:SeenAt w mb x) (hxl:x.length≤1000)
  (hne:sb≠mb∧sb≠db∧pb≠mb∧pb≠db∧db≠mb) (hml:B≤mb∧B≤db) (hB:B≤w.heap.size) (ht:Tab w) :
  Calls Tryz.prog 95 #[r.agg,.pointer (some ⟨sb,0,none⟩),.pointer (some ⟨pb,0,none⟩),.pointer (some ⟨db,0,none⟩)] w (RelPost1 x (vtext r.ver.v) mb db (relK x p.name r.p) w):=by
 have HF:=Lib.hid hf
 have HNE:=Lib.hid hne
 have HML:=Lib.hid hml
 have HE1:=Lib.hid (fun h=>relK_ver (x:=x) (pn:=p.name) (r:=r.p) h)
 have HE2:=Lib.hid (fun h g=>relK_there (x:=x) (pn:=p.name) (r:=r.p) h g)
 have HE3:=Lib.hid (fun h g=>relK_deps (x:=x) (pn:=p.name) (r:=r.p) h g)
 obtain ⟨W0,hW,hav,hb0⟩:∃ W,W=w.alloc (.cells #[r.ver.v.a,r.ver.v.b,r.ver.v.c,.slice r.ver.A r.ver.v.pre.length r.ver.c,.slice r.ver.B r.ver.v.build.length r.ver.d,.bool r.yanked,.slice r.N r.needs.length r.nc,.slice r.B r.bans.length r.bc] 36)∧AtV W w.heap.size [.int .u64 r.ver.v.a,.int .u64 r.ver.v.b,.int .u64 r.ver.v.c,.slice r.ver.A r.ver.v.pre.length r.ver.c,.slice r.ver.B r.ver.v.build.length r.ver.d,.bool r.yanked,.slice r.N r.needs.length r.nc,.slice r.B r.bans.length r.bc]∧Below w.heap.size w W:=⟨_,rfl,AtV.new w _ _,(Below.refl _ _).alloc (Nat.le_refl _) _⟩
 have HAV:=Lib.hid hav
 have HB0:Hid (But (fun b=>b=mb∨b=db) w W0):=But.of_same hb0 _
 have HR0:=Lib.hid (hr.keep (KeepS.of_below (S:=LtB B) hb0))
 have HS0:=Lib.hid (hs.kept hb0 hs.lt)
 have HP0:=Lib.hid (hp.kept hb0 hp.lt)
 have HD0:=Lib.hid (hd.kept hb0 hd.lt)
 have HX0:=Lib.hid (hx.kept hb0 hx.lt)
 have HT0:=Lib.hid (ht.kept hb0)
 have HL0:Hid (B≤W0.heap.size):=Nat.le_trans hB hb0.size
 have HQ0:Hid (¬ (w.heap.size=mb∨w.heap.size=db)):=fun h=>by have a:=hx.lt; have b:=hd.lt; omega
 clear hav hb0 hr hs hp hd hx hf hne hml ht
 obtain ⟨bd,hbd⟩:∃ bd,w.heap.size=bd:=⟨_,rfl⟩
 unfold MRel.agg
 go_enter Tryz.func95,Tryz.ntmps95
 go_upto_region 1 with (fail)
 rw [← hW]
 clear hW
 rw [hbd] at HAV HQ0
 clear hbd hB
 have c0:=HAV.out.at_ 0 _ rfl
 have c1:=HAV.out.at_ 1 _ rfl
 have c2:=HAV.out.at_ 2 _ rfl
 have c3:=HAV.out.at_ 3 _ rfl
 have c4:=HAV.out.at_ 4 _ rfl
 go_wp2_with fail
 refine (vgood_any r.ver.v r.ver.A r.ver.c r.ver.B r.ver.d _ HR0.out.ver.pre HR0.out.ver.build HR0.out.ver.fit.pre HR0.out.ver.fit.build HR0.out.ver.fit.pres HR0.out.ver.fit.builds).mono ?_
 rintro e W1 ⟨rfl,hb⟩
 have HAV1:=Lib.hid (HAV.out.kept hb HAV.out.lt)
 have HB1:=Lib.hid (HB0.out.then_same hb)
 have HR1:=Lib.hid (HR0.out.keep (KeepS.of_below (S:=LtB B) hb))
 have HS1:=Lib.hid (HS0.out.kept hb HS0.out.lt)
 have HP1:=Lib.hid (HP0.out.kept hb HP0.out.lt)
 have HD1:=Lib.hid (HD0.out.kept hb HD0.out.lt)
 have HX1:=Lib.hid (HX0.out.kept hb HX0.out.lt)
 have HT1:=Lib.hid (HT0.out.kept hb)
 have HL1:Hid (B≤W1.heap.size):=Nat.le_trans HL0.out hb.size
 clear hb c0 c1 c2 c3 c4
 cases hg:goodV r.ver.v
 ·have HZ:=Lib.hid (HE1.out hg)
  clear hg
  go_wp2
  go_ret
  exact ⟨by rw [HZ.out]; rfl,by rw [HZ.out]; exact HD1.out,(fun h=>by rw [HZ.out] at h; cases h),HB1.out⟩
 ·have HG:=Lib.hid hg
  clear hg
  have c0:=HAV1.out.at_ 0 _ rfl
  have c1:=HAV1.out.at_ 1 _ rfl
  have c2:=HAV1.out.at_ 2 _ rfl
  have c3:=HAV1.out.at_ 3 _ rfl
  have c4:=HAV1.out.at_ 4 _ rfl
  have s0:=HS1.out.at_ 0 _ rfl
  have hsl:sb<W1.heap.size:=HS1.out.lt
  have hal:bd<W1.heap.size:=HAV1.out.lt
  go_wp2
  have HH0:Hid (Below W1.heap.size W1 W1.drew):=(Below.refl _ _).drew
  refine wp_region_held_drew (S:=fun w'=>But (fun b=>b=mb∨b=db) W1 w') (by kernel_rfl) (But.of_same HH0.out _) (fun hHeld=>?_)
  generalize W1.drew=wd at HH0 hHeld ⊢
  have hsn:¬ (sb=mb∨sb=db):=fun h=>by have:=HNE.out; omega
  have hbn:¬ (bd=mb∨bd=db):=HQ0.out
  refine tk 0 rfl (.map (some mb)) ?_ (hv:=fun w' hS'=>by (have z0:=(hS'.cell (b:=sb) (o:=0) hsl hsn).trans s0); go_simp)
  refine tk 1 rfl (.pointer (some ⟨bd,0,none⟩)) ?_
  refine tk 2 rfl (.agg #[r.ver.v.a,r.ver.v.b,r.ver.v.c,.slice r.ver.A r.ver.v.pre.length r.ver.c,.slice r.ver.B r.ver.v.build.length r.ver.d]) ?_ (hv:=fun w' hS'=>by ((have z0:=(hS'.cell (b:=bd) (o:=0) hal hbn).trans c0); (have z1:=(hS'.cell (b:=bd) (o:=1) hal hbn).trans c1); (have z2:=(hS'.cell (b:=bd) (o:=2) hal hbn).trans c2); (have z3:=(hS'.cell (b:=bd) (o:=3) hal hbn).trans c3); (have z4:=(hS'.cell (b:=bd) (o:=4) hal hbn).trans c4)); go_simp)
  refine cl 3 rfl fun K hK=>?_
  go_simp
  refine (vtext_any r.ver.v r.ver.A r.ver.c r.ver.B r.ver.d _ HR1.out.ver.fit.a HR1.out.ver.fit.b HR1.out.ver.fit.c (HR1.out.ver.pre.kept HH0.out) (HR1.out.ver.build.kept HH0.out) HR1.out.ver.cp HR1.out.ver.cb (good_short2 HG.out).1 (good_short2 HG.out).2 (HT1.out.kept HH0.out)).mono ?_
  rintro e W2 ⟨rfl,hb⟩
  have HH2:=Lib.hid (HH0.out.trans (hb.mono HH0.out.size))
  refine hK.out _ _ (But.of_same HH2.out _) (fun hHeld2=>?_)
  clear hK K hb
  try simp only [Act.put,p1,p2,p3]
  have HX2:=Lib.hid (HX1.out.kept HH2.out HX1.out.lt)
  have HTL:=Lib.hid (good_vtext HG.out)
  refine cl 4 rfl fun K hK=>?_
  go_simp
  refine (again_any mb x (Ident.mk (vtext r.ver.v)) _ HX2.out (by rw [mk_size]; have:=HTL.out; unfold maxLen; omega) (by omega)).mono ?_
  rw [mk_list]
  rintro e W3 ⟨rfl,hx3,hb⟩
  have HX3:=Lib.hid hx3
  have HH3:Hid (But (fun b=>b=mb∨b=db) W1 W3):=(But.of_same HH2.out _).trans hb fun i e=>.inl (.inl e)
  refine hK.out _ _ HH3.out (fun hHeld3=>?_)
  have HM23:=Lib.hid hb
  clear hK K hb hx3
  try simp only [Act.put,p1,p2,p3]
  have HIN:Hid (decide (vtext r.ver.v ∈ x)=decide (vtext r.ver.v ∈ x)):=rfl
  obtain ⟨b,hb⟩:∃ b,decide (vtext r.ver.v ∈ x)=b:=⟨_,rfl⟩
  have HIN:=Lib.hid hb
  rw [hb]
  clear hb
  refine tk 5 rfl (.bool b) ?_
  refine wpAnyH_done (by kernel_rfl) ?_ _
  have HB3:=Lib.hid (HB1.out.then_ HH3.out)
  have HK3:Hid (KeepS (LtB B) W1 W3):=keepS_but HH3.out fun g hg e=>by have:=HML.out; have hg:g<B:=hg; omega
  have HAV3:=Lib.hid (HAV1.out.but HH3.out hbn)
  have HP3:=Lib.hid (HP1.out.but HH3.out (fun e=>by have:=HNE.out; omega))
  have HD3:=Lib.hid (HD1.out.but (W':=W3) ((But.of_same HH2.out (fun b=>b=mb)).trans HM23.out fun i e=>.inl e) (fun e=>by have:=HNE.out; omega))
  have HR3:=Lib.hid (HR1.out.keep HK3.out)
  have HL3:Hid (B≤W3.heap.size):=Nat.le_trans HL1.out HH3.out.size
  clear c0 c1 c2 c3 c4 s0 hsl hal hsn hbn
  cases b
  ·have HZ:=Lib.hid (HE3.out HG.out (of_decide_eq_false HIN.out))
   have c0:=HAV3.out.at_ 0 _ rfl
   have c1:=HAV3.out.at_ 1 _ rfl
   have c2:=HAV3.out.at_ 2 _ rfl
   have c3:=HAV3.out.at_ 3 _ rfl
   have c4:=HAV3.out.at_ 4 _ rfl
   have c5:=HAV3.out.at_ 5 _ rfl
   have c6:=HAV3.out.at_ 6 _ rfl
   have c7:=HAV3.out.at_ 7 _ rfl
   have hpb0:=HP3.out.at_ 0 _ rfl
   have hdl:db<W3.heap.size:=HD3.out.lt
   go_wp2_with fail
   refine (depsFault_any p.name r B _ HR3.out HF.out.2.2.1 HF.out.2.2.2 HG.out HL3.out).mono ?_
   rintro e W4 ⟨rfl,hb⟩
   have HB4:=Lib.hid (HB3.out.then_same hb)
   have HD4:=Lib.hid (HD3.out.kept hb HD3.out.lt)
   have HX4:=Lib.hid (HX3.out.kept hb HX3.out.lt)
   clear hb c0 c1 c2 c3 c4 c5 c6 c7 hpb0 hdl
   obtain ⟨q,hq⟩:∃ q,out2 (depsF p.name r.p)=q:=⟨_,rfl⟩
   have HQ:=Lib.hid (HZ.out.trans hq)
   unfold out2V
   rw [hq]
   clear hq HZ
   have d0:=HD4.out.at_ 0 _ rfl
   have hdl:db<W4.heap.size:=HD4.out.lt
   have hdf:=HD4.out.fr
   go_wp2
   go_ret
   refine ⟨by rw [HQ.out]; rfl,by rw [HQ.out]; exact HD4.out.set 0 (.int .i64 q.1) (by simp),fun _=>HX4.out.but ((But.refl (fun k=>k=db) _).set _ _ _ (.inl rfl)) (fun e=>by have:=HNE.out; omega),HB4.out.set _ _ _ (.inl (.inr rfl))⟩
  ·have HZ:=Lib.hid (HE2.out HG.out (of_decide_eq_true HIN.out))
   go_wp2
   go_ret
   exact ⟨by rw [HZ.out]; rfl,by rw [HZ.out]; exact HD3.out,(fun h=>by rw [HZ.out] at h; cases h),HB3.out⟩
end Go.Proofs.YtnpjklaaokiikaaGreatDoor.Model
