/-
  What the theorem of the last text needs of these: MoSolv, MoSortU, MoSaysA, MoPlainM, MoPlainW, MoSaysB. Conditions: as each theorem states.
-/
import Derived.Test.YtnpjklaaokiikaaGreatDoorPlA1
import Derived.Test.YtnpjklaaokiikaaGreatDoorPlA28
import Derived.Test.YtnpjklaaokiikaaGreatDoorPlA32
import Derived.Laws.EntriesVeiled
set_option maxRecDepth 100000
set_option maxHeartbeats 25600000
namespace Go.Proofs.YtnpjklaaokiikaaGreatDoor.Model
open Go.RowKit Num Ident Semver Fr
open Range (Rng noRng RV KeepS LtB LenOk goodR wt)
open KR (KRow AtV)
open Name (isName)
open Nrm (hasR)
theorem pins_nodup {l:List MPin} (h:pinsF (l.map MPin.p)=none):(l.map MPin.name).Nodup:=by
 have h1:∀ k,k<(l.map MPin.p).length→((((l.map MPin.p).take k).any fun x=>x.name == ((l.map MPin.p).getD k default).name))=false:=fun k hk=>by
  have:=firstG_no _ _ 0 h k hk
  rw [Nat.zero_add] at this
  have e:=toO_none.1 this
  unfold pinE at e
  split at e
  ·cases e
  ·split at e
   ·cases e
   ·split at e
    ·cases e
    ·next h3=>unfold nameB at h3; exact Bool.not_eq_true _ ▸ (Bool.eq_false_iff.2 h3)
 have h2:=(ahead_iff (fun x y:PPin=>x.name == y.name) (l.map MPin.p)).1 h1
 rw [List.pairwise_map] at h2
 unfold List.Nodup
 rw [List.pairwise_map]
 exact h2.imp fun {a b} h=>by have h:(a.name == b.name)=false:=h; simpa using h
theorem solvesB_eq (x:List MPack) (roots:List MDep) (s:List MPin):solvesB (x.map MPack.p) (roots.map MDep.p) (s.map MPin.p)=(((checkF (x.map MPack.p)).isNone && ((rootsF (roots.map MDep.p)).isNone && (pinsF (s.map MPin.p)).isNone)) && (risingB (s.map MPin.p) && ((roots.all fun d=>metB (s.map MPin.p) d.p) && s.all fun p=>pinOk (x.map MPack.p) (s.map MPin.p) p.p))):=by
 unfold solvesB
 rw [List.all_map,List.all_map]
 cases (checkF (x.map MPack.p)).isNone <;> cases (rootsF (roots.map MDep.p)).isNone <;> cases (pinsF (s.map MPin.p)).isNone <;> rfl
structure LoopW (w W:World) (ib cb mb:Nat) (A:Option Addr) (n c:Nat) (s:List MPin):Prop where
 ix:AtV W ib [.slice A n c]
 ch:AtV W cb [.map (some mb)]
 map:ChosenAt W mb s
 bel:Below w.heap.size w W
theorem LoopW.same {w W W':World} {ib cb mb:Nat} {A:Option Addr} {n c:Nat} {s:List MPin} (h:LoopW w W ib cb mb A n c s) (hb:Below W.heap.size W W'):LoopW w W' ib cb mb A n c s :=
 ⟨h.ix.kept hb h.ix.lt,h.ch.kept hb h.ch.lt,h.map.kept hb h.map.lt,h.bel.trans (hb.mono h.bel.size)⟩
theorem two_made (W1:World):∃ W,W=(W1.alloc (.map #[] 0)).alloc (.cells #[.map (some W1.heap.size)] 65)∧ChosenAt W W1.heap.size []∧AtV W (W1.heap.size+1) [.map (some W1.heap.size)]∧Below W1.heap.size W1 W:=by
 refine ⟨_,rfl,?_,?_,?_⟩
 ·exact (ChosenAt.made W1).kept ((Below.refl _ _).alloc (Nat.le_refl _) _) (by simp)
 ·have h:=AtV.new (W1.alloc (.map #[] 0)) 65 [.map (some W1.heap.size)]
  rwa [size_alloc] at h
 ·exact ((Below.refl _ _).alloc (Nat.le_refl _) _).alloc (by simp) _
theorem solves_any (A:Option Addr) (n c:Nat) (x:List MPack) (RA:Option Addr) (rn rc:Nat) (roots:List MDep) (SA:Option Addr) (m sc:Nat) (s:List MPin) (B:Nat) (w:World) (hx:PRow w (LtB B) A n x) (hr:DRow w (LtB B) RA rn roots) (hs:SPRow w (LtB B) SA m s) (hB:B≤w.heap.size) (hn:n≤maxLen) (hrn:rn≤maxLen) (hf:FewX x) (hfr:FewD roots) (hfs:FewS s) (ht:Tab w) :
  Calls Tryz.prog 8 #[.agg #[.slice A n c],.slice RA rn rc,.slice SA m sc] w fun e w'=>e=.returned (.bool (solvesB (x.map MPack.p) (roots.map MDep.p) (s.map MPin.p)))∧Below w.heap.size w w':=by
 have hm8:m≤8:=by have:=hs.row.1; have:=hfs.1; omega
 have HX:=Lib.hid hx
 have HR:=Lib.hid hr
 have HP:=Lib.hid hs
 have HL:=Lib.hid hs.row.1
 have HLR:=Lib.hid hr.row.1
 have HF:=Lib.hid hf
 have HFR:=Lib.hid hfr
 have HB:=Lib.hid hB
 have HN:=Lib.hid hn
 have HEQ:=Lib.hid (solvesB_eq x roots s)
 have HND:=Lib.hid (fun h=>pins_nodup (l:=s) h)
 obtain ⟨W0,hW,hav,hb0⟩:∃ W,W=w.alloc (.cells #[.slice A n c] 24)∧AtV W w.heap.size [.slice A n c]∧Below w.heap.size w W:=⟨_,rfl,AtV.new w _ _,(Below.refl _ _).alloc (Nat.le_refl _) _⟩
 have HAV:=Lib.hid hav
 have HB0:=Lib.hid hb0
 have hrt:=right_any A n c x RA rn rc roots SA m sc s B W0 (hx.keep (KeepS.of_below hb0)) (hr.keep (KeepS.of_below hb0)) (hs.keep (KeepS.of_below hb0)) (Nat.le_trans hB hb0.size) hrn (by omega) hf (ht.kept hb0)
 clear hav hb0 hx hr hs hf hfr hfs ht hB hn hrn
 obtain ⟨ib,hib⟩:∃ ib,w.heap.size=ib:=⟨_,rfl⟩
 go_enter Tryz.func8,Tryz.ntmps8
 go_upto_region 1 with (fail)
 rw [← hW]
 rw [hib] at HAV
 clear hW
 have HIB:=Lib.hid hib
 clear hib
 have i0:=HAV.out.at_ 0 _ rfl
 go_wp2_with fail
 refine hrt.mono ?_
 rintro e W1 ⟨rfl,hb⟩
 have HB1:=Lib.hid (HB0.out.trans (hb.mono HB0.out.size))
 have HAV1:=Lib.hid (HAV.out.kept hb HAV.out.lt)
 clear hb i0 hrt
 have HPN:Hid (((checkF (x.map MPack.p)).isNone && ((rootsF (roots.map MDep.p)).isNone && (pinsF (s.map MPin.p)).isNone))=true→pinsF (s.map MPin.p)=none):=fun h=>by
  simp only [Bool.and_eq_true,Option.isNone_iff_eq_none] at h
  exact h.2.2
 obtain ⟨b1,hb1⟩:∃ b,((checkF (x.map MPack.p)).isNone && ((rootsF (roots.map MDep.p)).isNone && (pinsF (s.map MPin.p)).isNone))=b:=⟨_,rfl⟩
 rw [hb1] at HEQ HPN ⊢
 clear hb1
 cases b1 with
 | false =>
  have HEQ:=Lib.hid (HEQ.out.trans (Bool.false_and _))
  go_wp2
  go_ret
  exact ⟨by rw [HEQ.out]; rfl,HB1.out⟩
 | true =>
  have HND:=Lib.hid (HND.out (HPN.out rfl))
  clear HPN
  go_wp2_with fail
  refine (rising_any SA m sc s (LtB B) _ (HP.out.keep (KeepS.of_below HB1.out)) (by omega)).mono ?_
  rintro e W2 ⟨rfl,hb⟩
  have HB2:=Lib.hid (HB1.out.trans (hb.mono HB1.out.size))
  have HAV2:=Lib.hid (HAV1.out.kept hb HAV1.out.lt)
  clear hb
  obtain ⟨b2,hb2⟩:∃ b,risingB (s.map MPin.p)=b:=⟨_,rfl⟩
  rw [hb2] at HEQ ⊢
  clear hb2
  cases b2 with
  | false =>
   have HEQ:=Lib.hid (HEQ.out.trans (by simp:_=false))
   go_wp2
   go_ret
   exact ⟨by rw [HEQ.out]; rfl,HB2.out⟩
  | true =>
   have HEQ:=Lib.hid (HEQ.out.trans (by simp:_=((roots.all fun d=>metB (s.map MPin.p) d.p) && s.all fun p=>pinOk (x.map MPack.p) (s.map MPin.p) p.p)))
   have hmm:=@run_makeMap Tryz.prog
   obtain ⟨W3,hW3,hm3,hc3,hb3⟩:=two_made W2
   have HW3:Hid (LoopW w W3 ib (W2.heap.size+1) W2.heap.size A n c (s.take 0)):=⟨HAV2.out.kept hb3 HAV2.out.lt,hc3,hm3,HB2.out.trans (hb3.mono HB2.out.size)⟩
   have HMB:Hid (w.heap.size≤W2.heap.size):=HB2.out.size
   have HIL:Hid (ib<W2.heap.size):=HAV2.out.lt
   clear hm3 hc3 hb3
   obtain ⟨mb,hmb⟩:∃ mb,W2.heap.size=mb:=⟨_,rfl⟩
   rw [hmb] at hW3
   go_upto_region 4 with (fail)
   rw [← hW3]
   rw [hmb] at HW3 HMB HIL
   clear hW3 hmb hmm
   have HIM:Hid (ib≠mb∧w.heap.size≤mb):=⟨by have:=HIL.out; omega,HMB.out⟩
   go_wp2
   go_loopw [24] (fun y W=>∃ k:Nat,k≤m∧y=.int .i64 k∧Hid (LoopW w W ib (mb+1) mb A n c (s.take k))) (fun y _=>m - (intOf y).toNat)
   case atStart=>exact ⟨0,Nat.zero_le _,rfl,HW3.out⟩
   case round =>
    rename World=>wk
    obtain ⟨k,hk,rfl,HC⟩:=hrel
    by_cases hlt:k<m
    ·have hkl:k<s.length:=by rw [HL.out]; exact hlt
     have hrow:=HP.out.keep (KeepS.of_below (S:=LtB B) HC.out.bel)
     have HPO:Hid (PinOk wk (LtB B) (s.getD k default)):=hrow.ok _ (getD_mem hkl)
     obtain ⟨b,o,rfl,_,hb,c0,c1,c2,c3,c4,c5⟩:=hrow.cells hlt
     have HTK:Hid (s.take (k+1)=s.take k ++ [s.getD k default]):=by
      unfold Hid
      rw [List.take_succ_eq_append_getElem hkl,List.getD_eq_getElem?_getD,List.getElem?_eq_getElem hkl]; rfl
     have HNM:Hid ((s.getD k default).name ∉ (s.take k).map MPin.name):=by
      have:=HND.out
      rw [← List.take_append_drop (k+1) s,HTK.out,List.map_append,List.map_append,List.append_assoc] at this
      intro hin
      exact (List.nodup_append.1 this).2.2 _ hin _ (by simp) rfl
     obtain ⟨p,hp⟩:∃ p,s.getD k default=p:=⟨_,rfl⟩
     rw [hp] at c0 c1 c2 c3 c4 c5 HPO HTK HNM
     clear hp hrow
     obtain ⟨W5,hW5,hpv,hb5⟩:∃ W,W=wk.alloc (.cells #[.string (Ident.mk p.name),p.ver.v.a,p.ver.v.b,p.ver.v.c,.slice p.ver.A p.ver.v.pre.length p.ver.c,.slice p.ver.B p.ver.v.build.length p.ver.d] 62)∧AtV W wk.heap.size [.string (Ident.mk p.name),.int .u64 p.ver.v.a,.int .u64 p.ver.v.b,.int .u64 p.ver.v.c,.slice p.ver.A p.ver.v.pre.length p.ver.c,.slice p.ver.B p.ver.v.build.length p.ver.d]∧Below wk.heap.size wk W:=⟨_,rfl,AtV.new wk _ _,(Below.refl _ _).alloc (Nat.le_refl _) _⟩
     have HC5:=Lib.hid (HC.out.same hb5)
     have HPV:=Lib.hid hpv
     clear hpv hb5
     obtain ⟨q,hq⟩:∃ q,wk.heap.size=q:=⟨_,rfl⟩
     go_upto_region 7 with (fail)
     rw [← hW5]
     rw [hq] at HPV
     clear hW5 hq c0 c1 c2 c3 c4 c5 hb
     have m0:=HC5.out.ch.at_ 0 _ rfl
     have p0:=HPV.out.at_ 0 _ rfl
     have p1:=HPV.out.at_ 1 _ rfl
     have p2:=HPV.out.at_ 2 _ rfl
     have p3:=HPV.out.at_ 3 _ rfl
     have p4:=HPV.out.at_ 4 _ rfl
     have p5:=HPV.out.at_ 5 _ rfl
     obtain ⟨D,hown,hmap,hhas,hat⟩:=HC5.out.map
     have HD:=Lib.hid hown
     have HA:=Lib.hid (chosen_add hmap hhas hat HNM.out)
     have hlen:(s.take k).length≤8:=by rw [List.length_take]; omega
     clear hown hmap hhas hat
     have hkey:keyOf Tryz.prog 9 (.string (Ident.mk p.name))=some (.string p.name):=by have:=strKey (s:=Ident.mk p.name) (by rw [mk_size]; exact HPO.out.short); rwa [mk_list] at this
     go_wp2_with (first
      | (at_mapUpdate; refine wpList_mapUpdate_own _ rfl _ _ _ 65 rfl 9 34 strKeyed Tryz.underlying65 verElem mb (s.take k).length D rfl HD.out (by unfold maxLen; omega) _ _ _ rfl rfl hkey (.held p.ver.agg) [] rfl ?_)
      | go_in)
     intro w6 hown6 hgrow6
     have HBT:Hid (But (fun j=>j=mb) W5 w6):=But.of_grown (T:=fun j=>j=mb) hgrow6 fun b e=>by cases e; rfl
     have HC6:Hid (LoopW w w6 ib (mb+1) mb A n c (s.take (k+1))) :=
      ⟨HC5.out.ix.but HBT.out (fun e=>HIM.out.1 e),HC5.out.ch.but HBT.out (by omega),by rw [HTK.out]; exact ⟨_,by rw [List.length_append,List.length_singleton]; simpa using hown6,HA.out.1,HA.out.2.1,HA.out.2.2⟩,HC5.out.bel.trans (HBT.out.below (B:=w.heap.size) (fun j e=>by have:=HIM.out.2; omega) HC5.out.bel.size)⟩
     clear hown6 hgrow6 m0 hkey p0 p1 p2 p3 p4 p5
     go_wp2
     exact ⟨⟨k+1,by omega,by go_num,HC6.out⟩,by simp [intOf]; omega⟩
    ·obtain rfl:k=m:=by omega
     have HTK:Hid (s.take k=s):=List.take_of_length_le (by rw [HL.out]; exact Nat.le_refl _)
     rw [HTK.out] at HC
     obtain ⟨W7,hW7,hfv,hb7⟩:∃ W,W=wk.alloc (.cells #[.func (.func 24) #[] #[.pointer (some ⟨mb+1,0,none⟩)]] 68)∧AtV W wk.heap.size [.func (.func 24) #[] #[.pointer (some ⟨mb+1,0,none⟩)]]∧Below wk.heap.size wk W:=⟨_,rfl,AtV.new wk _ _,(Below.refl _ _).alloc (Nat.le_refl _) _⟩
     obtain ⟨fb,hfb⟩:∃ fb,wk.heap.size=fb:=⟨_,rfl⟩
     have HS7:Hid (SolW W7 B A n c x s ib (mb+1) fb mb):=by
      rw [← hfb]
      have h7:=HC.out.same hb7
      exact ⟨h7.ix,h7.ch,hfv,h7.map,HX.out.keep (KeepS.of_below h7.bel),fun p hp=>(HP.out.keep (KeepS.of_below h7.bel)).ok p hp,Nat.le_trans HB.out h7.bel.size⟩
     have HB7:=Lib.hid (HC.out.same hb7).bel
     clear hfv hb7
     have hroots:=HR.out.keep (KeepS.of_below (S:=LtB B) HB7.out)
     have hev:=everyDep_any RA rn rc roots 24 #[.pointer (some ⟨mb+1,0,none⟩)] (enters_of Tryz.func24 (by kernel_rfl) rfl) (fun d=>metB (s.map MPin.p) d.p) (LtB B) W7 hroots.row (by have:=HFR.out.1; have:=HLR.out; omega)
      (fun V d hd hV=>HS7.out.met HND.out (hroots.ok d hd) (HFR.out.2 d hd) hV)
     clear hroots
     go_upto_region 10 with (fail)
     rw [← hW7]
     clear hW7 hfb
     have f0:=HS7.out.fn.at_ 0 _ rfl
     go_wp2_with fail
     refine hev.mono ?_
     rintro e W8 ⟨rfl,hb8⟩
     have HB8:=Lib.hid (HB7.out.trans (hb8.mono HB7.out.size))
     have HS8:=Lib.hid (HS7.out.kept hb8)
     clear hb8 hev f0
     obtain ⟨a,ha⟩:∃ a,(roots.all fun d=>metB (s.map MPin.p) d.p)=a:=⟨_,rfl⟩
     rw [ha] at HEQ ⊢
     clear ha
     cases a with
     | false =>
      have HEQ:=Lib.hid (HEQ.out.trans (Bool.false_and _))
      go_wp2
      go_ret
      exact ⟨by rw [HEQ.out]; rfl,HB8.out⟩
     | true =>
      have HEQ:=Lib.hid (HEQ.out.trans (Bool.true_and _))
      have hpr:=HP.out.keep (KeepS.of_below (S:=LtB B) HB8.out)
      have hep:=everyPin_any SA k sc s 28 #[.pointer (some ⟨ib,0,none⟩),.pointer (some ⟨fb,0,none⟩)] (enters_of Tryz.func28 (by kernel_rfl) rfl) (fun p=>pinOk (x.map MPack.p) (s.map MPin.p) p.p) (LtB B) W8 hpr.row (by omega)
       (fun V p hp hV=>pinOk_any p B A n c x s ib (mb+1) fb mb V (HS8.out.kept hV) HF.out HND.out ((hpr.ok p hp).keep (KeepS.of_below hV)) HN.out)
      clear hpr
      go_wp2_with fail
      refine hep.mono ?_
      rintro e W9 ⟨rfl,hb9⟩
      have HB9:=Lib.hid (HB8.out.trans (hb9.mono HB8.out.size))
      clear hb9 hep
      obtain ⟨a,ha⟩:∃ a,(s.all fun p=>pinOk (x.map MPack.p) (s.map MPin.p) p.p)=a:=⟨_,rfl⟩
      rw [ha] at HEQ ⊢
      clear ha
      cases a with
      | false =>
       go_wp2
       go_ret
       exact ⟨by rw [HEQ.out]; rfl,HB9.out⟩
      | true =>
       go_wp2
       go_ret
       exact ⟨by rw [HEQ.out]; rfl,HB9.out⟩
end Go.Proofs.YtnpjklaaokiikaaGreatDoor.Model
namespace Go.Proofs.YtnpjklaaokiikaaGreatDoor.Copy
open Go.RowKit Num Ident Semver Fr
open Range (Rng noRng RV Lies RgRow CellsAt KeepS LtB InS FitV)
open KR (KRow AtV)
open Model (MDep MVer MRel MPack DepOk VerOk RelOk PackOk DRow RRow PRow FewD FewRel FewX SlOk SortOf)
theorem insPack_none (v f:Value) (w:World):Calls Tryz.prog 138 #[v,.int .i64 0,.int .i64 0,f] w fun e w'=>e=.returned (.tuple #[])∧w'=w:=by
 go_enter Tryz.func138,Tryz.ntmps138
 go_wp2
 go_loopw [8] (fun y W=>y=.int .i64 1∧W=w) (fun _ _=>0)
 case atStart=>exact ⟨rfl,rfl⟩
 case round =>
  obtain ⟨rfl,rfl⟩:=hrel
  go_wp2
  go_end0
  exact ⟨rfl,rfl⟩
theorem stablePack_any (v f:Value) (n:Nat) (P:World→Prop) (w:World) (hn:n≤19) (h:Calls Tryz.prog 138 #[v,.int .i64 0,.int .i64 n,f] w fun e w'=>e=.returned (.tuple #[])∧P w') :
  Calls Tryz.prog 81 #[v,.int .i64 n,f] w fun e w'=>e=.returned (.tuple #[])∧P w':=by
 have HC:=Lib.hid h
 have h1:¬ (20:Int)≤(n:Int):=by omega
 have h2:¬ (20:Int)<(n:Int):=by omega
 clear h
 go_enter Tryz.func81,Tryz.ntmps81
 go_wp2
 go_loopw [7,8] (fun y z W=>y=.int .i64 0∧z=.int .i64 20∧W=w) (fun _ _ _=>0)
 case atStart=>exact ⟨rfl,rfl,rfl⟩
 case round =>
  obtain ⟨rfl,rfl,rfl⟩:=hrel
  go_wp2_with fail
  refine HC.out.mono ?_
  rintro e W1 ⟨rfl,hp⟩
  have HP:=Lib.hid hp
  clear hp
  go_wp2
  go_loopw [6] (fun x W=>x=.int .i64 20∧W=W1) (fun _ _=>0)
  case atStart=>exact ⟨rfl,rfl⟩
  case round =>
   obtain ⟨rfl,rfl⟩:=hrel
   go_wp2
   go_end0
   exact ⟨rfl,HP.out⟩
theorem sortPack_any (base:Nat) (A:Option Addr) (c:Nat) (l:List MPack) (w:World) (ho:w.ownsRow base 60 2 (.slice A l.length c) l.length (l.flatMap MPack.vals)) (hn:l.length≤19) :
  Calls Tryz.prog 36 #[.slice A l.length c,.func (.func 37) #[] #[]] w (SortedPost MPack.vals 2 60 nameLe w base (.slice A l.length c) l):=by
 have HI:Hid (Calls Tryz.prog 138 #[.slice A l.length c,.int .i64 0,.int .i64 l.length,.func (.func 37) #[] #[]] w (SortedPost MPack.vals 2 60 nameLe w base (.slice A l.length c) l)):=by
  rcases ho.2 with ⟨e,h0⟩ | ⟨g,cap,cur,e,_⟩
  ·have hl:l=[]:=List.eq_nil_of_length_eq_zero h0
   subst hl
   exact (insPack_none _ _ w).mono fun e w' ⟨he,hw⟩=>⟨he,[],⟨List.Perm.refl _,List.Pairwise.nil,fun _=>rfl⟩,by rw [hw]; exact ho,by rw [hw]; exact But.refl _ _⟩
  ·injection e with e1 _ e2
   subst e1
   subst e2
   exact insPack_own base g _ l w ho (by omega)
 have HS:=Lib.hid (stablePack_any _ _ l.length _ w hn HI.out)
 clear HI ho
 go_enter Tryz.func36,Tryz.ntmps36
 go_wp2_with fail
 refine HS.out.mono ?_
 rintro e W1 ⟨rfl,hp⟩
 have HP:=Lib.hid hp
 clear hp
 go_wp2
 go_end0
 exact ⟨rfl,HP.out⟩
theorem insRelease_none (v f:Value) (w:World):Calls Tryz.prog 143 #[v,.int .i64 0,.int .i64 0,f] w fun e w'=>e=.returned (.tuple #[])∧w'=w:=by
 go_enter Tryz.func143,Tryz.ntmps143
 go_wp2
 go_loopw [8] (fun y W=>y=.int .i64 1∧W=w) (fun _ _=>0)
 case atStart=>exact ⟨rfl,rfl⟩
 case round =>
  obtain ⟨rfl,rfl⟩:=hrel
  go_wp2
  go_end0
  exact ⟨rfl,rfl⟩
theorem stableRelease_any (v f:Value) (n:Nat) (P:World→Prop) (w:World) (hn:n≤19) (h:Calls Tryz.prog 143 #[v,.int .i64 0,.int .i64 n,f] w fun e w'=>e=.returned (.tuple #[])∧P w') :
  Calls Tryz.prog 86 #[v,.int .i64 n,f] w fun e w'=>e=.returned (.tuple #[])∧P w':=by
 have HC:=Lib.hid h
 have h1:¬ (20:Int)≤(n:Int):=by omega
 have h2:¬ (20:Int)<(n:Int):=by omega
 clear h
 go_enter Tryz.func86,Tryz.ntmps86
 go_wp2
 go_loopw [7,8] (fun y z W=>y=.int .i64 0∧z=.int .i64 20∧W=w) (fun _ _ _=>0)
 case atStart=>exact ⟨rfl,rfl,rfl⟩
 case round =>
  obtain ⟨rfl,rfl,rfl⟩:=hrel
  go_wp2_with fail
  refine HC.out.mono ?_
  rintro e W1 ⟨rfl,hp⟩
  have HP:=Lib.hid hp
  clear hp
  go_wp2
  go_loopw [6] (fun x W=>x=.int .i64 20∧W=W1) (fun _ _=>0)
  case atStart=>exact ⟨rfl,rfl⟩
  case round =>
   obtain ⟨rfl,rfl⟩:=hrel
   go_wp2
   go_end0
   exact ⟨rfl,HP.out⟩
theorem sortRelease_any (base:Nat) (A:Option Addr) (c:Nat) (l:List MRel) (w:World) (ho:w.ownsRow base 36 8 (.slice A l.length c) l.length (l.flatMap MRel.vals)) (hn:l.length≤19) (hv:∀ r ∈ l,∀ g,A=some ⟨g,0,none⟩→VerOk w (fun b=>b≠g) r.ver) :
  Calls Tryz.prog 40 #[.slice A l.length c,.func (.func 41) #[] #[]] w (SortedPost MRel.vals 8 36 verLe w base (.slice A l.length c) l):=by
 have HI:Hid (Calls Tryz.prog 143 #[.slice A l.length c,.int .i64 0,.int .i64 l.length,.func (.func 41) #[] #[]] w (SortedPost MRel.vals 8 36 verLe w base (.slice A l.length c) l)):=by
  rcases ho.2 with ⟨e,h0⟩ | ⟨g,cap,cur,e,_⟩
  ·have hl:l=[]:=List.eq_nil_of_length_eq_zero h0
   subst hl
   exact (insRelease_none _ _ w).mono fun e w' ⟨he,hw⟩=>⟨he,[],⟨List.Perm.refl _,List.Pairwise.nil,fun _=>rfl⟩,by rw [hw]; exact ho,by rw [hw]; exact But.refl _ _⟩
  ·injection e with e1 _ e2
   subst e1
   subst e2
   exact insRelease_own base g _ l w ho (by omega) (fun r hr=>hv r hr g rfl)
 have HS:=Lib.hid (stableRelease_any _ _ l.length _ w hn HI.out)
 clear HI ho
 go_enter Tryz.func40,Tryz.ntmps40
 go_wp2_with fail
 refine HS.out.mono ?_
 rintro e W1 ⟨rfl,hp⟩
 have HP:=Lib.hid hp
 clear hp
 go_wp2
 go_end0
 exact ⟨rfl,HP.out⟩
end Go.Proofs.YtnpjklaaokiikaaGreatDoor.Copy
namespace Go.Proofs.YtnpjklaaokiikaaGreatDoor.Model
open Go.RowKit Num Ident Semver
open Range (LtB)
theorem saysA:SaysA where
 check:=fun A n c x B w hx hB _ hf ht=>check_any A n c x B w hx hB hf ht
 roots:=fun A n c l B w h hB ho _=>roots_any A n c l B w h hB ho.len
 pins:=fun A n c s B w h hB _ hf=>pins_any A n c s B w h hB (by have:=h.row.1; have:=hf.1; omega)
 solves:=fun A n c x RA rn rc roots SA m sc s B w hx hr hs hB ho ho2 _ hf hf2 hf3 ht=>solves_any A n c x RA rn rc roots SA m sc s B w hx hr hs hB ho.len ho2.len hf hf2 hf3 ht
end Go.Proofs.YtnpjklaaokiikaaGreatDoor.Model
namespace Go.Proofs.YtnpjklaaokiikaaGreatDoor.Copy
open Go.RowKit Num Ident Semver Fr
open Range (Rng noRng RV Lies RgRow CellsAt KeepS LtB InS FitV)
open KR (KRow AtV)
open Model (MDep MVer MRel MPack PPack PRel DepOk VerOk RelOk PackOk DRow RRow PRow FewD FewRel FewX SlOk SortOf PlainOf relLe packLe)
inductive All2 {α:Type} (R:α→α→Prop):List α→List α→Prop
 | nil:All2 R [] []
 | cons {a b:α} {l m:List α}:R a b→All2 R l m→All2 R (a :: l) (b :: m)
theorem All2.of {α:Type} [Inhabited α] {R:α→α→Prop}:∀ {l m:List α},m.length=l.length→(∀ j,j<l.length→R (l.getD j default) (m.getD j default))→All2 R l m
 | [],[],_,_=>.nil
 | [],b :: m,h,_=>by simp at h
 | a :: l,[],h,_=>by simp at h
 | a :: l,b :: m,h,hr=>.cons (hr 0 (by simp)) (All2.of (by simpa using h) fun j hj=>hr (j+1) (by simpa using hj))
theorem All2.len {α:Type} {R:α→α→Prop} {l m:List α} (h:All2 R l m):m.length=l.length:=by
 induction h with
 | nil=>rfl
 | cons _ _ ih=>simp [ih]
theorem All2.get {α:Type} [Inhabited α] {R:α→α→Prop}:∀ {l m:List α},All2 R l m→∀ j,j<l.length→R (l.getD j default) (m.getD j default)
 | _,_,.nil,j,hj=>by simp at hj
 | _,_,.cons h _,0,_=>h
 | _,_,.cons _ t,j+1,hj=>All2.get t j (by simpa using hj)
theorem All2.map {α β:Type} {R:α→α→Prop} {f:α→β} (hf:∀ a b,R a b→f b=f a) {l m:List α} (h:All2 R l m):m.map f=l.map f:=by
 induction h with
 | nil=>rfl
 | cons h _ ih=>simp [ih,hf _ _ h]
theorem perm_rel {α:Type} {R:α→α→Prop} {l x:List α} (hp:l.Perm x):∀ {m:List α},All2 R l m→∃ z,All2 R x z∧m.Perm z:=by
 induction hp with
 | nil=>intro m h; exact ⟨m,h,List.Perm.refl _⟩
 | cons a _ ih =>
  intro m h
  cases h with
  | cons h1 h2 =>
   obtain ⟨z,hz,hm⟩:=ih h2
   exact ⟨_ :: z,.cons h1 hz,hm.cons _⟩
 | swap a b l =>
  intro m h
  cases h with
  | cons h1 h2 =>
   cases h2 with
   | cons h3 h4=>exact ⟨_,.cons h3 (.cons h1 h4),List.Perm.swap _ _ _⟩
 | trans _ _ ih1 ih2 =>
  intro m h
  obtain ⟨z,hz,hm⟩:=ih1 h
  obtain ⟨z',hz',hm'⟩:=ih2 hz
  exact ⟨z',hz',hm.trans hm'⟩
def Made (p q:MPack):Prop:=q.name=p.name∧SortOf relLe (p.rels.map MRel.p) (q.rels.map MRel.p)
theorem names_up {l m:List MPack} (h:m.map MPack.name=l.map MPack.name) (hl:l.Pairwise nameLe):m.Pairwise nameLe:=by
 have h1:(l.map MPack.name).Pairwise fun u v=>¬ v<u:=List.pairwise_map.2 hl
 rw [← h] at h1
 exact (List.pairwise_map (f:=MPack.name) (R:=fun u v:List UInt8=>¬ v<u)).1 h1
theorem getD_p (l:List MPack) (i:Nat):(l.map MPack.p).getD i default=(l.getD i default).p:=by
 rw [List.getD_eq_getElem?_getD,List.getD_eq_getElem?_getD,List.getElem?_map]
 cases l[i]? <;> rfl
theorem plain_of {x l cs:List MPack} (hs:SortOf nameLe x l) (ha:All2 Made l cs):PlainOf (x.map MPack.p) (cs.map MPack.p):=by
 have hn:=ha.map (f:=MPack.name) fun a b h=>h.1
 have hup:(cs.map MPack.p).Pairwise packLe:=List.pairwise_map.2 (names_up hn hs.up)
 have mk:∀ z:List MPack,All2 Made x z→SortOf packLe (z.map MPack.p) (cs.map MPack.p)→PlainOf (x.map MPack.p) (cs.map MPack.p):=fun z hz hso=>by
  refine ⟨z.map MPack.p,by rw [List.length_map,List.length_map]; exact hz.len,fun i hi=>?_,hso⟩
  rw [List.length_map] at hi
  rw [getD_p,getD_p]
  exact hz.get i hi
 by_cases hx:x.Pairwise nameLe
 ·have e:=hs.same hx
  subst e
  exact mk cs ha ⟨List.Perm.refl _,hup,fun _=>rfl⟩
 ·obtain ⟨z,hz,hm⟩:=perm_rel hs.perm ha
  refine mk z hz ⟨hm.map _,hup,fun h=>absurd ?_ hx⟩
  exact names_up (hz.map (f:=MPack.name) fun a b h=>h.1).symm ((List.pairwise_map (f:=MPack.p) (R:=packLe)).1 h)
structure PlainAt (w:World) (B:Nat) (l:List MPack) (k:Nat) (v:Value) (cs:List MPack) (W:World):Prop where
 len:cs.length=l.length
 own:W.ownsRow w.heap.size 60 2 v l.length (cs.flatMap MPack.vals)
 done:∀ j,j<k→Made (l.getD j default) (cs.getD j default)∧PackOk W (Off w B v) (cs.getD j default)
 rest:∀ j,k≤j→cs.getD j default=l.getD j default
 bel:Below w.heap.size w W
theorem PlainAt.next {w W W5 W7:World} {B k g c:Nat} {l cs:List MPack} {rs rs':List MRel} {A5:Option Addr} {c5:Nat} (h:PlainAt w B l k (.slice (some ⟨g,0,none⟩) l.length c) cs W) (hB:B≤w.heap.size) (hkl:k<l.length) (hsh:(l.getD k default).name.length≤maxLen)
  (hc:Copied MRel.vals 8 36 MRel.p RelOk W B (l.getD k default).rels (l.getD k default).rels.length (.slice A5 rs.length c5) rs W5) (hcc:rs.length≤c5∧c5≤maxLen) (hs:SortOf verLe rs rs')
  (ho:W7.ownsRow W.heap.size 36 8 (.slice A5 rs.length c5) rs'.length (rs'.flatMap MRel.vals)) (hbt:But (fun b=>(Value.slice A5 rs.length c5).ownBlock=some b) (W5.setCell ⟨g,k * 2+1,none⟩ (.slice A5 rs.length c5)) W7) :
  PlainAt w B l (k+1) (.slice (some ⟨g,0,none⟩) l.length c) (cs.set k ⟨(l.getD k default).name,A5,c5,rs'⟩) W7:=by
 have hkc:k<cs.length:=by rw [h.len]; exact hkl
 have hrl:rs'.length=rs.length:=hs.perm.length_eq
 have hown5:=own_below h.own hc.bel
 have hst:=hown5.stored (k * 2+1) (.slice A5 rs.length c5)
 obtain ⟨hg0,hgl⟩:=h.own.lt g rfl
 have hnot:Not W B g:=⟨Nat.le_trans hB hg0,(own_not h.own (by decide)).2⟩
 have hb5:Below W.heap.size W W5:=hc.bel
 have hb6:But (fun b=>b=g) W5 (W5.setCell ⟨g,k * 2+1,none⟩ (.slice A5 rs.length c5)):=But.one W5 g _ _
 have hg':∀ b,(Value.slice A5 rs.length c5).ownBlock=some b→W.heap.size≤b:=fun b e=>(ho.lt b e).1
 have hne:∀ b,(Value.slice A5 rs.length c5).ownBlock=some b→b≠g:=fun b e q=>by have:=hg' b e; omega
 have hwl:w.heap.size≤W.heap.size:=h.bel.size
 refine ⟨by rw [List.length_set]; exact h.len,?_,fun j hj=>?_,fun j hj=>?_,?_⟩
 ·refine own_but ?_ hbt fun b e q=>hne b q (by injection e with e; exact e.symm)
  rw [← flat_set MPack.vals 2 Model.pack_len cs k 1 (.slice A5 rs.length c5) _ hkc (by omega) (by rw [h.rest k (Nat.le_refl _)]; show [_,Value.slice A5 rs'.length c5]=[_,_]; rw [hrl])]
  exact hst.1
 ·rcases Nat.lt_or_ge j k with hj1 | hj1
  ·rw [set_other (by omega)]
   refine ⟨(h.done j hj1).1,?_⟩
   have h1:=(h.done j hj1).2.mono (S':=fun b=>Off w B (.slice (some ⟨g,0,none⟩) l.length c) b∧b<W.heap.size) fun b hb hlt=>⟨hb,hlt⟩
   have h2:=(h1.keep (KeepS.of_below hb5)).keep (keep_but hb6 fun b hb e=>hb.1.2 (by rw [e]; rfl))
   exact (h2.keep (keep_but hbt fun b hb e=>by have:=hg' b e; omega)).mono fun b hb _=>hb.1
  ·obtain rfl:j=k:=by omega
   rw [set_self hkc]
   refine ⟨⟨rfl,?_⟩,hsh,?_,⟨by show rs'.length≤c5; omega,hcc.2⟩,?_⟩
   ·rw [← hc.map]
    refine ⟨hs.perm.map _,List.pairwise_map.2 hs.up,fun q=>?_⟩
    show rs'.map MRel.p=rs.map MRel.p
    rw [hs.same ((List.pairwise_map (f:=MRel.p) (R:=relLe)).1 q)]
   ·refine ⟨?_,fun r hr=>?_⟩
    ·have ho2:=ho
     rw [← hrl] at ho2
     obtain ⟨A,c',e,_,_,hrow⟩:=KRow.of_own Model.rel_len ho2 rfl (S:=Off w B (.slice (some ⟨g,0,none⟩) l.length c)) fun b hb _=>⟨Aside.new (by omega),fun q=>by injection q with q; have q:g=b:=q; omega⟩
     injection e with e1 _ _
     subst e1
     exact hrow
    ·have h1:=hc.all r (hs.perm.mem_iff.1 hr)
     have h2:=h1.keep (keep_but hb6 fun b hb e=>hb.1 g hgl hnot e)
     exact (h2.keep (keep_but hbt fun b hb e=>hb.2 e)).mono fun b hb _=>⟨hb.1.up h.bel,fun q=>hb.1 g hgl hnot (by injection q with q; exact q.symm)⟩
   ·intro e
    have ho2:=ho
    rw [← hrl] at ho2
    obtain ⟨A,c',e',_,hz,_⟩:=KRow.of_own Model.rel_len ho2 rfl (S:=fun _=>True) fun b hb _=>trivial
    injection e' with e1 _ e2
    show c5=0
    rw [e2]
    exact hz (by rw [← e1]; exact e)
 ·rw [set_other (by omega)]
  exact h.rest j (by omega)
 ·exact ((h.bel.trans (hb5.mono hwl)).trans (hb6.below (B:=w.heap.size) (fun q e=>by omega) (Nat.le_trans hwl hb5.size))).trans (hbt.below (B:=w.heap.size) (fun q e=>by have:=hg' q e; omega) (Nat.le_trans hwl (Nat.le_trans hb5.size hb6.size)))
end Go.Proofs.YtnpjklaaokiikaaGreatDoor.Copy
namespace Go.Proofs.YtnpjklaaokiikaaGreatDoor.Copy
open Go.RowKit Num Ident Semver Fr
open Range (Rng noRng RV Lies RgRow CellsAt KeepS LtB InS FitV)
open KR (KRow AtV)
open Model (MDep MVer MRel MPack PPack PRel DepOk VerOk RelOk PackOk DRow RRow PRow FewD FewRel FewX SlOk SortOf PlainOf PlainPost)
theorem plain_any (A:Option Addr) (n c:Nat) (x:List MPack) (B:Nat) (w:World) (h:PRow w (LtB B) A n x) (hB:B≤w.heap.size) (hf:FewX x) :
  Calls Tryz.prog 10 #[.agg #[.slice A n c]] w (PlainPost x w):=by
 obtain ⟨W0,hW,h1,h2,hb,hsz⟩:=two_new w [.slice A n c] [.slice none 0 0] 24 24
 have his:Is W0 (w.heap.size+1) 24:=by
  rw [hW]
  have h:=heap_alloc_new (w.alloc (.cells ([.slice A n c]:List Value).toArray 24)) (.cells ([.slice none 0 0]:List Value).toArray 24)
  rw [size_alloc] at h
  exact ⟨_,h⟩
 have H1:=Lib.hid h1
 have H2:=Lib.hid h2
 have HB:=Lib.hid hb
 have HS:=Lib.hid hsz
 have HIS:=Lib.hid his
 have HX:=Lib.hid (h.keep (KeepS.of_below (S:=LtB B) hb))
 have HF:=Lib.hid hf
 have HL:Hid (x.length=n):=h.row.1
 have HN:Hid (n≤6):=by have:=hf.len; have:=h.row.1; unfold Hid; omega
 have HLB:Hid (B≤W0.heap.size):=Nat.le_trans hB hb.size
 have HLB0:=Lib.hid hB
 clear h1 h2 hb hsz his h hf hB
 obtain ⟨ib,hib⟩:∃ ib,w.heap.size=ib:=⟨_,rfl⟩
 go_enter Tryz.func10,Tryz.ntmps10
 go_upto_region 1 with (fail)
 rw [← hW]
 rw [hib] at H1 H2 HIS
 try rw [hib]
 clear hW
 have i0:=H1.out.at_ 0 _ rfl
 go_wp2_with fail
 refine (clonePack_any A n c x (LtB B) W0 HX.out.row (by have:=HN.out; omega) (by have:=HN.out; unfold maxLen; omega)).mono ?_
 rintro e W1 ⟨v1,rfl,ho,hb⟩
 obtain ⟨A1,c1,rfl,hc1,hc2,hc3⟩:=own_slice ho
 have HO1:Hid (W1.ownsRow W0.heap.size 60 2 (.slice A1 x.length c1) x.length (x.flatMap MPack.vals)):=by unfold Hid; rw [HL.out]; exact ho
 have HC1:Hid (n≤c1∧c1≤maxLen∧(A1=none→c1=0)):=⟨hc1,hc2,hc3⟩
 have HB1:=Lib.hid hb
 clear ho hb i0 hc1 hc2 hc3
 have hso:=sortPack_any W0.heap.size A1 c1 x W1 HO1.out (by rw [HL.out]; have:=HN.out; omega)
 rw [HL.out] at hso
 have HSO:=Lib.hid hso
 clear hso
 go_wp2_with fail
 refine HSO.out.mono ?_
 rintro e W2 ⟨rfl,l,hs,ho,hbt⟩
 have hll:l.length=n:=hs.perm.length_eq.trans HL.out
 have HLL:=Lib.hid hll
 have HSL:=Lib.hid hs
 have HB2:Hid (Below W0.heap.size W0 W2):=HB1.out.trans (hbt.below (B:=W0.heap.size) (fun b e=>(ho.lt b e).1) HB1.out.size)
 have HP0:Hid (PlainAt W0 B l 0 (.slice A1 n c1) l W2):=⟨rfl,by have h5:=ho; rw [hll] at h5 ⊢; exact h5,fun j hj=>absurd hj (Nat.not_lt_zero j),fun _ _=>rfl,HB2.out⟩
 have HMEM:Hid (∀ p ∈ l,PackOk W0 (LtB B) p∧(p.name.length≤300∧p.rels.length≤6)∧∀ r ∈ p.rels,FewRel r):=fun p hp=>by
  have hp:=hs.perm.mem_iff.1 hp
  exact ⟨HX.out.ok p hp,HF.out.pack p hp,HF.out.rel p hp⟩
 clear ho hbt hs hll HSO
 go_wp2
 go_loopw [12] (fun y W=>∃ (k:Nat) (cs:List MPack),k≤n∧y=.int .i64 k∧Hid (PlainAt W0 B l k (.slice A1 n c1) cs W)) (fun y _=>n - (intOf y).toNat)
 case atStart=>exact ⟨0,l,Nat.zero_le _,rfl,HP0.out⟩
 case round =>
  rename World=>wk
  obtain ⟨k,cs,hk,rfl,HI⟩:=hrel
  by_cases hlt:k<n
  ·have hkl:k<l.length:=by rw [HLL.out]; exact hlt
   have HIC:Hid (PlainAt W0 B l k (.slice A1 l.length c1) cs wk):=by unfold Hid; rw [HLL.out]; exact HI.out
   have ho:=HIC.out.own
   rw [← HIC.out.len] at ho
   obtain ⟨A',c',e,_,_,h4⟩:=own_cells Model.pack_len ho rfl
   injection e with e1 _ e2
   subst e1
   subst e2
   obtain ⟨g,hAg,hg0,hgl,hgf,hcl⟩:=h4 (by rw [HIC.out.len]; omega)
   subst hAg
   have hcl:=hcl k (by rw [HIC.out.len]; omega)
   rw [HIC.out.rest k (Nat.le_refl _),Nat.zero_add] at hcl
   have hmem:l.getD k default ∈ l:=by rw [List.getD_eq_getElem?_getD,List.getElem?_eq_getElem hkl]; exact List.getElem_mem _
   obtain ⟨hpk,hpf,hpr⟩:=HMEM.out _ hmem
   have HPK:=Lib.hid (hpk.rels.keep (KeepS.of_below (S:=LtB B) HI.out.bel))
   have HPF:=Lib.hid hpf
   have HPR:=Lib.hid hpr
   have HNX:Hid (∀ {W5 W7:World} {rs rs':List MRel} {A5:Option Addr} {c5:Nat},Copied MRel.vals 8 36 MRel.p RelOk wk B (l.getD k default).rels (l.getD k default).rels.length (.slice A5 rs.length c5) rs W5→(rs.length≤c5∧c5≤maxLen)→SortOf verLe rs rs' →
     W7.ownsRow wk.heap.size 36 8 (.slice A5 rs.length c5) rs'.length (rs'.flatMap MRel.vals)→But (fun b=>(Value.slice A5 rs.length c5).ownBlock=some b) (W5.setCell ⟨g,k * 2+1,none⟩ (.slice A5 rs.length c5)) W7 →
     PlainAt W0 B l (k+1) (.slice (some ⟨g,0,none⟩) n c1) (cs.set k ⟨(l.getD k default).name,A5,c5,rs'⟩) W7):=fun a b cc d e=>by
    have h5:=HIC.out.next HLB.out hkl (by have:=hpf.1; unfold maxLen; omega) a b cc d e
    rw [HLL.out] at h5; exact h5
   have HNOT:Hid (Not wk B g):=⟨Nat.le_trans HLB.out hg0,(own_not HIC.out.own (by decide)).2⟩
   have HGL:=Lib.hid hgl
   have HWK:=Lib.hid (Nat.le_trans HLB.out HI.out.bel.size)
   clear hmem hpk hpf hpr h4 ho HI HIC hg0
   obtain ⟨p,hp⟩:∃ p,l.getD k default=p:=⟨_,rfl⟩
   rw [hp] at hcl HPK HPF HPR HNX
   clear hp
   have q1:=hcl 1 _ rfl
   clear hcl
   go_wp2_with fail
   refine (copyRels_any p.R p.rels.length p.rc p.rels B wk HPK.out HPF.out.2 HPR.out HWK.out).mono ?_
   rintro e W5 ⟨v5,rs,rfl,hc⟩
   have hrl:rs.length=p.rels.length:=hc.len
   have ho5:=hc.own
   rw [← hrl] at ho5
   obtain ⟨A5,c5,rfl,hc5,hm5,hz5⟩:=own_slice ho5
   have HC5:=Lib.hid hc
   have HO5:=Lib.hid ho5
   have HCC:Hid (rs.length≤c5∧c5≤maxLen):=⟨hc5,hm5⟩
   have HRL:=Lib.hid hrl
   have hg5:g<W5.heap.size:=Nat.lt_of_lt_of_le hgl hc.bel.size
   have hf5:∀ o,W5.frozen? ⟨g,o,none⟩=false:=fun o=>(hc.bel.frozen (p:=⟨g,o,none⟩) hgl).trans (hgf o)
   have q5:W5.cell? ⟨g,k * 2+1,none⟩=some (.slice p.R p.rels.length p.rc):=(hc.bel.cell (p:=⟨g,k * 2+1,none⟩) hgl).trans q1
   clear hc ho5 hc5 hm5 hz5 hrl q1 hgl hgf
   go_upto_region 7 with (fail)
   have HBT:Hid (But (fun b=>b=g) W5 (W5.setCell ⟨g,k * 2+1,none⟩ (.slice A5 rs.length c5))):=But.one W5 g _ _
   have hg6:g<(W5.setCell ⟨g,k * 2+1,none⟩ (.slice A5 rs.length c5)).heap.size:=by simpa using hg5
   have q6:(W5.setCell ⟨g,k * 2+1,none⟩ (.slice A5 rs.length c5)).cell? ⟨g,k * 2+1,none⟩=some (.slice A5 rs.length c5):=World.cell?_setCell_same _ _ _ q5
   have HSR:=Lib.hid (sortRelease_any wk.heap.size A5 c5 rs (W5.setCell ⟨g,k * 2+1,none⟩ (.slice A5 rs.length c5)) (own_but HO5.out HBT.out fun b e q=>by have:=(HO5.out.lt b e).1; have:=HGL.out; omega) (by rw [HRL.out]; have:=HPF.out.2; omega)
    (fun r hr g' e=>(((HC5.out.all r hr).ver.keep (keep_but HBT.out fun b hb e=>hb.1 g HGL.out HNOT.out e)).mono fun b hb _ q=>hb.2 (by rw [e,q]; rfl))))
   have HFI:=Lib.hid (fun W7 rs' (a:SortOf verLe rs rs') b c=>HNX.out (W7:=W7) (rs':=rs') HC5.out HCC.out a b c)
   clear q5 hg5 hf5 HNX
   generalize W5.setCell ⟨g,k * 2+1,none⟩ (.slice A5 rs.length c5)=W6 at HBT hg6 q6 HSR HFI ⊢
   go_wp2_with fail
   refine HSR.out.mono ?_
   rintro e W7 ⟨rfl,rs',hs,ho,hbt⟩
   have HN7:=Lib.hid (HFI.out W7 rs' hs ho hbt)
   clear hs ho hbt q6 hg6
   have hn6:=HN.out
   go_wp2
   exact ⟨⟨k+1,_,by omega,by go_num,HN7.out⟩,by simp [intOf]; omega⟩
  ·obtain rfl:k=n:=by omega
   have hcn:cs.length=k:=HI.out.len.trans HLL.out
   have HCN:=Lib.hid hcn
   have H2k:=Lib.hid (H2.out.kept HI.out.bel (by have:=HS.out; omega))
   have ho:=HI.out.own
   rw [HLL.out,← hcn] at ho
   obtain ⟨A',c',e,_,_,hrow⟩:=KRow.of_own Model.pack_len ho rfl (S:=fun b=>b≠ib+1) fun b hb _=>by have:=HS.out; omega
   injection e with e1 _ e2
   subst e1
   subst e2
   have hprow:PRow wk (fun b=>b≠ib+1) A1 cs.length cs:=⟨hrow,fun p hp=>by
    obtain ⟨j,hj,rfl⟩:=List.getElem_of_mem hp
    have h5:=(HI.out.done j (by omega)).2
    rw [List.getD_eq_getElem?_getD,List.getElem?_eq_getElem hj] at h5
    exact h5.mono fun b hb _=>hb.1 _ HIS.out.lt (HIS.out.not (by decide) (by have:=HLB0.out; omega))⟩
   have HPW:=Lib.hid hprow
   have HPO:Hid (PlainOf (x.map MPack.p) (cs.map MPack.p)):=plain_of HSL.out (All2.of HI.out.len fun j hj=>(HI.out.done j (by have:=HLL.out; omega)).1)
   have HBK:=Lib.hid (HB.out.trans (HI.out.bel.mono HB.out.size))
   clear hcn ho hrow hprow
   have z0:=H2k.out.at_ 0 _ rfl
   have hzl:ib+1<wk.heap.size:=H2k.out.lt
   have hzf:=H2k.out.fr
   go_wp2
   have hbt:But (fun b=>b=ib+1) wk (wk.setCell ⟨ib+1,0,none⟩ (.slice A1 k c1)):=But.one wk (ib+1) 0 _
   refine bodyPost_ret (v:=.agg #[.slice A1 k c1]) (by simp [results,Tryz.results10,go_sem,z0]) rfl ⟨A1,c1,cs,by rw [HCN.out],?_,⟨by rw [HCN.out]; exact HC1.out.1,HC1.out.2.1,HC1.out.2.2⟩,HPO.out,HBK.out.trans (hbt.below (B:=w.heap.size) (fun b e=>by omega) HBK.out.size)⟩
   exact (HPW.out.keep (keep_but hbt fun b hb e=>hb e)).mono fun b _ hl=>hl
end Go.Proofs.YtnpjklaaokiikaaGreatDoor.Copy
namespace Go.Proofs.YtnpjklaaokiikaaGreatDoor.Model
open Go.RowKit
theorem says:Says where
 toSaysA:=saysA
 release A n c x name v B w hx hv hB hs hf hn _ _:=Copy.release_any A n c x name v B w hx hv hB hs hf hn
 isplain A n c x B w hx _ _ hf:=isPlain_any A n c x B w hx hf
 plain A n c x B w hx hB _ hf:=Copy.plain_any A n c x B w hx hB hf
end Go.Proofs.YtnpjklaaokiikaaGreatDoor.Model
