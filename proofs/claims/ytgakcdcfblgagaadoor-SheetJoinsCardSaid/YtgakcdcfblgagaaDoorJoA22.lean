/-
  What the theorem of the last text needs of these: ShRootsS, ShIndexR, ShIndexN, ShIndexB, ShIndexK. Conditions: as each theorem states.
-/
import Derived.Test.YtgakcdcfblgagaaDoorJoA1
import Derived.Test.YtgakcdcfblgagaaDoorJoA17
import Derived.Test.YtgakcdcfblgagaaDoorJoA19
import Derived.Test.YtgakcdcfblgagaaDoorJoA21
set_option maxRecDepth 100000
set_option maxHeartbeats 25600000
namespace Go.Proofs.YtgakcdcfblgagaaDoor.Sheet
open Go.RowKit Num Ident Semver Fr
open KR (KRow AtV)
open Range (KeepS LtB From)
open Go.Maps (Keyed IsMap)
open Model (PDep PRel PPack PPin MDep MVer MRel MPack MPin DepOk VerOk PinOk RelOk PackOk DRow SPRow RRow PRow)

def PostS (l:List UInt8) (w:World) (e:Ending) (w':World):Prop :=
 ∃ (A:Option Addr) (c:Nat) (ds:List MPin) (q:Int),e=.returned (.tuple #[.slice A ds.length c,.int .i64 q,.int .i64 (((pinsB l).1:Nat):Int)])∧ds.map MPin.p=(pinsB l).2∧SPRow w' (LtB w'.heap.size) A ds.length ds∧ds.length≤c∧c≤maxLen∧(A=none→c=0)∧Below w.heap.size w w'
theorem runS {l:List UInt8} (hl:l.length≤16777216):(pinsB l).1=(runT (stepG wPin pinOf) [] l).1∧((pinsB l).1=0→(pinsB l).2=(runT (stepG wPin pinOf) [] l).2)∧((pinsB l).1≠0→(pinsB l).2=[]):=by
 unfold pinsB
 rw [if_neg (by omega)]
 have h:=linesG_run wPin pinOf (linesOf l) []
 exact ⟨h.1,fun h0=>h.2 (h.1.symm.trans h0),linesG_none wPin pinOf (linesOf l) []⟩
theorem mapS {W:World} {mb m:Nat} {D:DataW Value} (hm:m≤99) (h:W.ownsMap Tryd.prog 9 fnElem mb (m+1) D) {f:Words} (hD:IsMap D∧(∀ n,Maps.has D (.string n)=(f n).isSome)∧∀ n g' lb',f n=some (g',lb')→∀ z,D.atKey (.string n) z=.held (.func (.func g') #[] lb')):WordsAt W mb f :=
 ⟨D,m+1,by omega,h,hD⟩
theorem listS_any (A0:Option Addr) (n c0:Nat) (l:List UInt8) (w:World) (hr:Row w A0 n l) (hn:n≤16777216) (hc:n≤c0) (hm:c0≤maxLen) :
  Calls Tryd.prog 13 #[.slice A0 n c0,.string (Ident.mk wPin),.func (.func 14) #[] #[]] w (PostS l w):=by
 have HR:=Lib.hid hr
 have hln:l.length=n:=hr.1
 have HRUN:=Lib.hid (runS (l:=l) (by omega))
 have H0:Hid (Below w.heap.size w ((w.alloc (.cells #[.slice none 0 0] 29)).alloc (.map #[] 0))):=((Below.refl _ _).alloc (Nat.le_refl _) _).alloc (by simp) _
 have HAB:Hid (AtV ((w.alloc (.cells #[.slice none 0 0] 29)).alloc (.map #[] 0)) w.heap.size [.slice none 0 0]):=(AtV.new w _ _).kept ((Below.refl _ _).alloc (Nat.le_refl _) _) (by simp)
 have HMB:Hid (World.ownsMap ((w.alloc (.cells #[.slice none 0 0] 29)).alloc (.map #[] 0)) Tryd.prog 9 fnElem (w.heap.size+1) 0 (.map [])):=by
  have:=World.ownsMap_made (H:=Value) (w.alloc (.cells #[.slice none 0 0] 29)) Tryd.prog 9 fnElem
  rw [size_alloc] at this; exact this
 have hz0:((w.alloc (.cells #[.slice none 0 0] 29)).alloc (.map #[] 0)).heap.size=w.heap.size+2:=by simp
 have hkey:keyOf Tryd.prog 9 (.string (Ident.mk wPin))=some (.string wPin):=by have:=strKey (s:=Ident.mk wPin) (by decide); rwa [mk_list] at this
 clear hr
 obtain ⟨ab,hab⟩:∃ ab,w.heap.size=ab:=⟨_,rfl⟩
 have HE:=Lib.hid hab
 have hmm:=@run_makeMap Tryd.prog
 go_enter Tryd.func13,Tryd.ntmps13
 go_wp2_with fail
 generalize (w.alloc (.cells #[.slice none 0 0] 29)).alloc (.map #[] 0)=w1 at H0 HAB HMB hz0 ⊢
 rw [hab] at HAB HMB hz0
 clear hab hmm
 refine (makeS_any _ _ _ _ w1).mono ?_
 rintro e w2 ⟨rfl,ho,ht2,hb,hz2⟩
 have HO:=Lib.hid ho
 have HT2:=Lib.hid ht2
 have HB2:=Lib.hid hb
 have HA2:=Lib.hid (HAB.out.kept hb HAB.out.lt)
 have HM2:=Lib.hid (map_but HMB.out (But.of_same hb fun _=>False) fun g=>g)
 rw [hz0] at HO HT2 ⊢
 clear ho ht2 hb
 have HAD:=Lib.hid (words_add (D:=.map []) (f:=fun _=>none) (s:=wPin) (g:=47) (lb:=#[.pointer (some ⟨ab+2,0,none⟩),.pointer (some ⟨ab+2+1,0,none⟩)]) Go.Maps.isMap_empty (fun s=>by simp [Maps.has]) (fun s g lb h=>by cases h))
 go_wp2_with (refine wpList_insert_own _ rfl _ _ _ 67 rfl 9 72 strKeyed Tryd.underlying67 fnElem (ab+1) 0 (.map []) rfl HM2.out (by unfold maxLen; omega) _ _ _ rfl rfl hkey (.held (.func (.func 47) #[] #[.pointer (some ⟨ab+2,0,none⟩),.pointer (some ⟨ab+2+1,0,none⟩)])) [] rfl ?_)
 intro w3 hown3 hgrow3
 have HM3:Hid (But (fun k=>k=ab+1) w2 w3):=But.of_grown (T:=fun k=>k=ab+1) hgrow3 fun b e=>by cases e; rfl
 have HW3:Hid (WordsAt w3 (ab+1) (fS (ab+2) (ab+2+1))):=mapS (by omega) hown3 HAD.out
 have HO3:=Lib.hid (atv_oth HO.out HM3.out (by omega))
 have HT3:=Lib.hid (atv_oth HT2.out HM3.out (by omega))
 have HA3:=Lib.hid (atv_oth HA2.out HM3.out (by omega))
 have HB3:Hid (Below w.heap.size w w3):=by
  have h1:Below w.heap.size w w2:=H0.out.trans (HB2.out.mono (by have:=H0.out.size; omega))
  exact h1.trans (HM3.out.below (B:=w.heap.size) (fun k e=>by have:=HE.out; omega) h1.size)
 have hz3:ab+2+2≤w3.heap.size:=by have:=HM3.out.size; omega
 clear hown3 hgrow3 hkey HAD HB2 HO HT2 HA2 HM2 HMB HAB
 obtain ⟨E,hE⟩:∃ E,(pinsB l).1=E:=⟨_,rfl⟩
 have HEE:=Lib.hid hE
 obtain ⟨Bz,hBz⟩:∃ Bz,w3.heap.size=Bz:=⟨_,rfl⟩
 have HBZ:=Lib.hid hBz
 have HH0:Hid (HoldS Bz ab (ab+1) (ab+2) (ab+2+1) [] Bz w3 (fun _=>False) none 0 []) :=
  ⟨HW3.out,HO3.out,HT3.out,HA3.out,World.ownsRow_nil _ _ _ _,(fun d hd=>by cases hd),rfl,(fun g e=>e.elim),(fun g e=>by cases e),by omega,Nat.le_refl _,⟨by omega,by omega,by omega,by omega,by omega,by omega,by omega⟩⟩
 have HREAD:Hid (Calls Tryd.prog 16 #[.slice A0 n c0,.map (some (ab+1))] w3 fun e w'=>∃ q:Int,e=.returned (.tuple #[.int .i64 q,.int .i64 E])∧(E=0→∃ S A c ds M,HoldS Bz ab (ab+1) (ab+2) (ab+2+1) (pinsB l).2 M w' S A c ds)∧(∃ v,AtV w' ab [v])∧But (fun g=>g=ab∨Bz≤g) w3 w'):=by
  rcases Nat.eq_zero_or_pos n with h0 | h0
  ·have hnil:l=[]:=List.eq_nil_of_length_eq_zero (by omega)
   subst h0
   refine (read_zero A0 c0 (ab+1) w3).mono ?_
   rintro e w' ⟨rfl,rfl⟩
   have hE0:E=0:=by rw [← hE,hnil]; rfl
   refine ⟨0,by rw [hE0]; rfl,fun _=>⟨(fun _=>False),none,0,[],Bz,?_⟩,⟨_,HA3.out⟩,But.refl _ _⟩
   rw [hnil]; exact HH0.out
  ·obtain ⟨b,o,rfl,hbl,_⟩:=HR.out.2.2 h0
   have hr3:=HR.out.kept HB3.out
   have hbab:b<ab:=by have:=HE.out; omega
   refine (read_lines (keepS Bz ab (ab+1) (ab+2) (ab+2+1) b) [] Bz o n c0 l w3 hr3 hn hc hm ⟨_,_,_,_,HH0.out⟩ (Nat.zero_le _) (by rintro (h | h) <;> omega) (by omega)).mono ?_
   rintro e w' ⟨q,rfl,hq,hbt,hv⟩
   refine ⟨q,by rw [← HRUN.out.1,hE],fun h=>?_,hv,hbt⟩
   obtain ⟨_,S,A,c,ds,hh⟩:=hq (by rw [← HRUN.out.1,hE,h])
   have h2:=HRUN.out.2.1 (by rw [hE,h])
   exact ⟨S,A,c,ds,_,by rw [h2]; exact hh⟩
 have hBab:ab<Bz:=by omega
 clear hE hBz
 go_wp2_with fail
 refine HREAD.out.mono ?_
 rintro e w4 ⟨q,rfl,h0,⟨v,hv⟩,hbt⟩
 have HH:=Lib.hid h0
 have HV:=Lib.hid hv
 have HBT:=Lib.hid hbt
 clear h0 hbt
 have f0:=hv.fr 0
 by_cases hE0:E=0
 ·have hEb:((E:Int) != 0)=false:=by rw [hE0]; rfl
  obtain ⟨S,A,c,ds,M,hh⟩:=HH.out hE0
  have HHH:=Lib.hid hh
  have HE0:=Lib.hid hE0
  have c0':=hh.cell.at_ 0 _ rfl
  clear hh hE0 hv
  go_wp2
  have HK:Hid (But (fun g=>g=ab) w4 (w4.setCell ⟨ab,0,none⟩ (.slice A ds.length c))):=but_one w4 ab 0 _
  have HV5:Hid (AtV (w4.setCell ⟨ab,0,none⟩ (.slice A ds.length c)) ab [.slice A ds.length c]):=atv_one HHH.out.cell _
  generalize w4.setCell ⟨ab,0,none⟩ (.slice A ds.length c)=w5 at HK HV5 ⊢
  clear c0' f0
  have c0':=HV5.out.at_ 0 _ rfl
  have hown:w5.ownsRow Bz 60 6 (.slice A ds.length c) ds.length (ds.flatMap MPin.vals):=own_but HHH.out.own HK.out fun g e d=>by have:=(HHH.out.own.lt g e).1; omega
  have hlt:∀ g,(Value.slice A ds.length c).ownBlock=some g→g<w5.heap.size:=fun g e=>(hown.lt g e).2
  have hcaps:=own_caps hown
  have hrow:SPRow w5 (LtB w5.heap.size) A ds.length ds:=⟨krow_own pinlen hown rfl hlt,fun d hd=>pin_mono ((HHH.out.ok d hd).keep (keep_oth HK.out fun g hg e=>by have:=(HHH.out.sS g hg).1; omega)) fun g hg _=>by have:=(HHH.out.sS g hg).2.1; have:=HHH.out.le; have:=HK.out.size; show g<_; omega⟩
  have hbel:Below w.heap.size w w5:=(HB3.out.trans (HBT.out.below (B:=w.heap.size) (fun k e=>by have:=HE.out; rcases e with e | e <;> omega) HB3.out.size)).trans (HK.out.below (B:=w.heap.size) (fun k e=>by have:=HE.out; omega) (by have:=HBT.out.size; have:=HB3.out.size; omega))
  have hpost:PostS l w (.returned (.tuple #[.slice A ds.length c,.int .i64 0,.int .i64 0])) w5:=⟨A,c,ds,0,by rw [HEE.out,HE0.out]; rfl,HHH.out.is,hrow,hcaps.1,hcaps.2.1,hcaps.2.2,hbel⟩
  exact bodyPost_ret (v:=.tuple #[.slice A ds.length c,.int .i64 0,.int .i64 0]) (by simp [results,Tryd.results13,go_sem,c0']) rfl hpost
 ·have hEb:((E:Int) != 0)=true:=by simp [hE0]
  have c0':=hv.at_ 0 _ rfl
  have HE0:=Lib.hid hE0
  clear hE0 hv
  go_wp2
  have HK:Hid (But (fun g=>g=ab) w4 (w4.setCell ⟨ab,0,none⟩ (.slice none 0 0))):=but_one w4 ab 0 _
  have HV5:Hid (AtV (w4.setCell ⟨ab,0,none⟩ (.slice none 0 0)) ab [.slice none 0 0]):=atv_one HV.out _
  generalize w4.setCell ⟨ab,0,none⟩ (.slice none 0 0)=w5 at HK HV5 ⊢
  clear c0' f0
  have c0':=HV5.out.at_ 0 _ rfl
  have hbel:Below w.heap.size w w5:=(HB3.out.trans (HBT.out.below (B:=w.heap.size) (fun k e=>by have:=HE.out; rcases e with e | e <;> omega) HB3.out.size)).trans (HK.out.below (B:=w.heap.size) (fun k e=>by have:=HE.out; omega) (by have:=HBT.out.size; have:=HB3.out.size; omega))
  have hpost:PostS l w (.returned (.tuple #[.slice none 0 0,.int .i64 q,.int .i64 E])) w5:=⟨none,0,[],q,by rw [HEE.out]; rfl,(HRUN.out.2.2 (by rw [HEE.out]; exact HE0.out)).symm,⟨KRow.none_ _ _ _,fun d hd=>by cases hd⟩,Nat.le_refl _,by unfold maxLen; omega,(fun _=>rfl),hbel⟩
  exact bodyPost_ret (v:=.tuple #[.slice none 0 0,.int .i64 q,.int .i64 E]) (by simp [results,Tryd.results13,go_sem,c0']) rfl hpost
theorem readPins_any (A0:Option Addr) (n c0:Nat) (l:List UInt8) (w:World) (hr:Row w A0 n l) (hn:n≤16777216) (hc:n≤c0) (hm:c0≤maxLen) :
  Calls Tryd.prog 7 #[.slice A0 n c0] w (PostS l w):=by
 have hcon:=listS_any A0 n c0 l w hr hn hc hm
 clear hr
 have hw:(Ident.mk wPin)=⟨#[112,105,110]⟩:=rfl
 rw [hw] at hcon
 go_enter Tryd.func7,Tryd.ntmps7
 go_wp2_with fail
 refine hcon.mono ?_
 rintro e w' ⟨A,c,ds,q,rfl,h⟩
 have H:=Lib.hid h
 clear h hcon
 go_wp2
 go_ret3
 exact ⟨A,c,ds,q,rfl,H.out⟩
end Go.Proofs.YtgakcdcfblgagaaDoor.Sheet
namespace Go.Proofs.YtgakcdcfblgagaaDoor.Sheet
open Go.RowKit Num Ident Semver Fr
open KR (KRow AtV)
open Range (KeepS LtB From OpsTab)
open Model (PDep PRel PPack PPin MDep MVer MRel MPack MPin DepOk VerOk PinOk RelOk PackOk DRow SPRow RRow PRow)

theorem relok_new {w:World} {S:Nat→Prop} {v:MVer} {y:Bool} (h:VerOk w S v):RelOk w S ⟨v,y,none,0,[],none,0,[]⟩ :=
 ⟨h,⟨KRow.none_ _ _ _,fun d hd=>by cases hd⟩,⟨KRow.none_ _ _ _,fun d hd=>by cases hd⟩,⟨Nat.le_refl _,by show 0≤maxLen; unfold maxLen; omega⟩,⟨Nat.le_refl _,by show 0≤maxLen; unfold maxLen; omega⟩,(fun _=>rfl),fun _=>rfl⟩
theorem step_ver {st:List PPack} {t:List UInt8} (hw:wordOf t=wVersion∨wordOf t=wYanked):stepX st t=(if badX st (wordOf t)=true then 13 else (readL t).e,onLast (addRel ⟨(readL t).v,decide (wordOf t=wYanked),[],[]⟩) st):=by
 have hl:(readL t).w=wordOf t:=readL_word (by rcases hw with hw | hw <;> rw [hw] <;> decide)
 unfold stepX addX
 rw [hl,if_neg (show ¬ wordOf t=wPackage from by rcases hw with hw | hw <;> rw [hw] <;> decide),if_pos hw]
theorem takeX_rel {s xb B:Nat} {st:List PPack} {M:Nat} {W:World} {S:Nat→Prop} {A:Option Addr} {c:Nat} {ps:List MPack} {op:Option MPack} {rs:List MRel} {q:Option MRel} (h:HoldX s xb B st M W S A c ps op rs q) {lb b oo n cc k:Nat} {l:List UInt8} (hM:M≤lb) (hln:Ln W lb b oo n cc l k) (hn:n≤16777216) {ob tb yb:Nat} {y:Bool} (hw:wordOf (l.drop k)=wVersion∨wordOf (l.drop k)=wYanked) (hy:y=decide (wordOf (l.drop k)=wYanked)) (hsm:SmallX k st)
  (ho:AtV W ob [.func (.func 31) #[] #[ptrV s]]) (ht:AtV W tb [.func (.func 56) #[] #[ptrV yb]]) (hyb:AtV W yb [.bool y]) (hyl:yb<lb) :
  Calls Tryd.prog 55 #[ptrV lb,ptrV ob,ptrV tb] W (PostX s xb B st (l.drop k) lb b oo n cc W):=by
 have h1:=h.xs; have h2:=h.sB; have h3:=h.ox; have h4:=h.bM
 have hll:=hln.at_.lt
 have hkn:=hln.kn
 have hst:=step_ver (st:=st) hw
 have hkind:kindW (wordOf (l.drop k))=2:=by rcases hw with hw | hw <;> rw [hw] <;> decide
 have hnp:wordOf (l.drop k)≠wPackage:=by rcases hw with hw | hw <;> rw [hw] <;> decide
 have hpub:∀ W2,Below W.heap.size W W2→Calls Tryd.prog 56 (#[.pointer (some ⟨lb,0,none⟩)] ++ #[ptrV yb]) W2 fun e w'=>∃ x:MRel,e=.returned (.tuple #[x.agg,.int .i64 (((readL (l.drop k)).e:Nat):Int)])∧((readL (l.drop k)).e=0→(∃ v:MVer,x=⟨v,y,none,0,[],none,0,[]⟩∧v.v=(readL (l.drop k)).v)∧RelOk w' (fun g=>W2.heap.size≤g∧g<w'.heap.size) x)∧But (fun g=>g=lb) W2 w'∧LnE w' lb b oo n cc:=fun W2 hb2 =>
  (published_any lb b oo n cc yb y l k W2 (hln.kept hb2) hn hkind (hyb.kept hb2 hyb.lt) hyl).mono fun e W3 ⟨x,f,q3,q4,q5,q6,q7⟩=>⟨x,by rw [q3,q4],fun h0=>by
   obtain ⟨v,e1,e2,e3⟩:=q5 (q4.trans h0)
   refine ⟨⟨v,e1,e2⟩,?_⟩
   rw [e1]
   exact relok_new (e3.mono fun g hg hlt=>⟨hg,hlt⟩),q6,q7⟩
 cases op with
 | none =>
  have hps:=h.tree.emp rfl
  have hst0:st=[]:=by rw [← h.is,hps]; rfl
  refine (intoR_any lb b oo n cc ob tb B 0 (readL (l.drop k)).e none (.slice none 0 0) [] (fun x=>∃ v:MVer,x=⟨v,y,none,0,[],none,0,[]⟩∧v.v=(readL (l.drop k)).v) 31 56 #[ptrV s] #[ptrV yb] W ho ht
   (enters_of Tryd.func31 (by kernel_rfl) rfl) (enters_of Tryd.func56 (by kernel_rfl) rfl)
   (fun W2 hb=>own2_of (h.stat.cx.kept hb h.stat.cx.lt) (releases_none (h.tree.but (But.of_same hb fun _=>False) (fun _ _ _ g=>g) fun g=>g))) (fun hq=>absurd rfl hq) (fun a ha=>by cases ha) (by omega) (LnE.of hln)).mono ?_
  rintro e W3 ⟨hl3,hpost⟩
  rcases hpost with ⟨_,he,hbt⟩ | ⟨a,ha,_⟩
  ·subst he
   exact PostX.bad (f:=13) (by rw [hst,hst0,badX_none hnp]; rfl) (by decide) hbt hl3 ⟨_,h.tree.cell⟩ (by omega)
  ·cases ha
 | some p =>
  obtain ⟨gP,hA,hgB,hgM,hgW,hgf,hgc⟩:=h.tree.at_pack
  have hlp:=h.tree.lst p rfl
  have hst2:st=ps.map MPack.p ++ [p.p]:=by rw [← h.is]; simp
  have hgo:(Value.slice A (ps ++ (some p).toList).length c).ownBlock=some gP:=by rw [hA]; rfl
  have hrl:p.rels.length≤k:=by
   have:=hsm.rels p.p (by rw [hst2]; simp)
   simpa [MPack.p] using this
  refine (intoR_any lb b oo n cc ob tb B p.rels.length (readL (l.drop k)).e (some (gP,ps.length * 2+1)) (rv p) p.rels (fun x=>∃ v:MVer,x=⟨v,y,none,0,[],none,0,[]⟩∧v.v=(readL (l.drop k)).v) 31 56 #[ptrV s] #[ptrV yb] W ho ht
   (enters_of Tryd.func31 (by kernel_rfl) rfl) (enters_of Tryd.func56 (by kernel_rfl) rfl)
   (fun W2 hb=>own2_of (h.stat.cx.kept hb h.stat.cx.lt) (releases_some (h.tree.but (But.of_same hb fun _=>False) (fun _ _ _ g=>g) fun g=>g) hA)) (fun _ W2 hb2=>hpub W2 hb2)
   (fun a ha=>by
    injection ha with ha
    subst ha
    exact ⟨⟨hgc 1 _ rfl,hgf _,hlp.own,hgW,Nat.le_trans h4 h.tree.le,fun g e d=>by subst d; exact own_ne h.tree.own hlp.own (by decide) hgo e⟩,by omega,fun g e=>by have:=hlp.rM g e; omega⟩) (by omega) (LnE.of hln)).mono ?_
  rintro e W3 ⟨hl3,hpost⟩
  rcases hpost with ⟨hq,_⟩ | ⟨a,ha,he,hpost⟩
  ·cases hq
  ·injection ha with ha
   subst ha
   subst he
   have hbx:badX st (wordOf (l.drop k))=false:=by rw [hst2]; exact badX_ver hw
   rw [hbx,if_neg (by decide)] at hst
   rcases hpost with ⟨hne,hbt⟩ | ⟨h0,hk⟩
   ·exact PostX.bad (by rw [hst]) hne hbt hl3 ⟨_,h.tree.cell⟩ (by omega)
   ·have hkb:=kept_but hk
    obtain ⟨x,v',W1,Wa,⟨v,hx,hvv⟩,hok,hb1,hgr,hown,hat,rfl⟩:=hk
    subst hx
    have t1:=h.tree.but hb1 (fun g _ hg e=>by omega) (by omega)
    have hz1:=hb1.size
    have hza:=hgr.size
    obtain ⟨S',A',c',ht'⟩:=t1.addRel v y hok.ver (fun g hg=>⟨by omega,hg.2⟩) hA hown hgr hat
    have hg:PostX s xb B st (l.drop k) lb b oo n cc W (.returned (.int .i64 0)) (Wa.setCell ⟨gP,ps.length * 2+1,none⟩ v'):=by
     refine PostX.good h hM hkb (fun g e=>?_) hl3 ht' (by simp) (by omega) (by rw [hst]; exact h0) ?_ (fun e=>by cases e)
     ·rcases e with (e | e) | e
      ·exact .inl e
      ·exact .inr (.inr ⟨(hlp.own.lt g e).1,hlp.rM g e⟩)
      ·exact .inr (.inr (by omega))
     ·rw [hst]
      show (ps ++ [_]).map MPack.p=onLast _ st
      rw [hst2,onLast_snoc,List.map_append]
      show ps.map MPack.p ++ [_]=ps.map MPack.p ++ [_]
      congr 2
      show (⟨p.name,(p.rels ++ [_]).map MRel.p⟩:PPack)=addRel _ p.p
      rw [List.map_append]
      show (⟨p.name,p.rels.map MRel.p ++ [(⟨v.v,y,[],[]⟩:PRel)]⟩:PPack)=_
      rw [hvv,hy]; rfl
    rw [h0]; exact hg
end Go.Proofs.YtgakcdcfblgagaaDoor.Sheet
namespace Go.Proofs.YtgakcdcfblgagaaDoor.Sheet
open Go.RowKit Num Ident Semver Fr
open KR (KRow AtV)
open Range (KeepS LtB From OpsTab)
open Model (PDep PRel PPack PPin MDep MVer MRel MPack MPin DepOk VerOk PinOk RelOk PackOk DRow SPRow RRow PRow)

theorem step_need {st:List PPack} {t:List UInt8} (hw:wordOf t=wNeeds):stepX st t=(if badX st wNeeds=true then 13 else (readL t).e,onLast (onRel (addNeed (depOf (readL t)))) st):=by
 have hl:(readL t).w=wNeeds:=by rw [readL_word (by rw [hw]; decide)]; exact hw
 unfold stepX addX
 rw [hl,if_neg (show ¬ wNeeds=wPackage by decide),if_neg (show ¬ (wNeeds=wVersion∨wNeeds=wYanked) by decide),if_pos rfl]; rfl
theorem takeX_need {s xb B:Nat} {st:List PPack} {M:Nat} {W:World} {S:Nat→Prop} {A:Option Addr} {c:Nat} {ps:List MPack} {op:Option MPack} {rs:List MRel} {q:Option MRel} (h:HoldX s xb B st M W S A c ps op rs q) {lb b oo n cc k:Nat} {l:List UInt8} (hM:M≤lb) (hln:Ln W lb b oo n cc l k) (hn:n≤16777216) (hw:wordOf (l.drop k)=wNeeds) (hsm:SmallX k st) :
  Calls Tryd.prog 42 #[ptrV lb,ptrV (s+10),ptrV (s+11)] W (PostX s xb B st (l.drop k) lb b oo n cc W):=by
 have h1:=h.xs; have h2:=h.sB; have h3:=h.ox; have h4:=h.bM
 have hll:=hln.at_.lt
 have hkn:=hln.kn
 have hst:=step_need (st:=st) hw
 have hkind:kindW (wordOf (l.drop k))=3:=by rw [hw]; decide
 have hnp:wNeeds≠wPackage:=by decide
 have hdep:∀ W2,Below W.heap.size W W2→Calls Tryd.prog 11 (#[.pointer (some ⟨lb,0,none⟩)] ++ #[]) W2 fun e w'=>∃ x:MDep,e=.returned (.tuple #[x.agg,.int .i64 (((readL (l.drop k)).e:Nat):Int)])∧((readL (l.drop k)).e=0→x.p=depOf (readL (l.drop k))∧DepOk w' (fun g=>W2.heap.size≤g∧g<w'.heap.size) x)∧But (fun g=>g=lb) W2 w'∧LnE w' lb b oo n cc:=fun W2 hb2 =>
  (dep_any lb b oo n cc l k W2 (hln.kept hb2) hn hkind (opsTab_oth h.stat.tab (But.of_same hb2 fun _=>False) fun g=>g) (by omega)).mono fun e W3 ⟨x,f,q3,q4,q5,q6,q7⟩=>⟨x,by rw [q3,q4],fun h0=>⟨(q5 (q4.trans h0)).1,(q5 (q4.trans h0)).2.mono fun g hg hlt=>⟨hg,hlt⟩⟩,q6,q7⟩
 have hoe:=enters_of Tryd.func33 (by kernel_rfl) rfl
 have hte:=enters_of Tryd.func11 (by kernel_rfl) rfl
 cases op with
 | none =>
  have hps:=h.tree.emp rfl
  have hst0:st=[]:=by rw [← h.is,hps]; rfl
  refine (intoD_any lb b oo n cc (s+10) (s+11) B 0 (readL (l.drop k)).e none (.slice none 0 0) [] (fun x=>x.p=depOf (readL (l.drop k))) 33 11 #[ptrV s] #[] W h.stat.o4 h.stat.t4 hoe hte
   (fun W2 hb=>own3_of (h.stat.cx.kept hb h.stat.cx.lt) (deps3_none (h.tree.but (But.of_same hb fun _=>False) (fun _ _ _ g=>g) fun g=>g))) (fun hq=>absurd rfl hq) (fun a ha=>by cases ha) (by omega) (LnE.of hln)).mono ?_
  rintro e W3 ⟨hl3,hpost⟩
  rcases hpost with ⟨_,he,hbt⟩ | ⟨a,ha,_⟩
  ·subst he
   exact PostX.bad (f:=13) (by rw [hst,hst0,badX_none hnp]; rfl) (by decide) hbt hl3 ⟨_,h.tree.cell⟩ (by omega)
  ·cases ha
 | some p =>
  have hlp:=h.tree.lst p rfl
  have hst2:st=ps.map MPack.p ++ [p.p]:=by rw [← h.is]; simp
  cases q with
  | none =>
   have hrs:=h.nr rfl
   have hbx:badX st wNeeds=true:=by
    rw [hst2,badX_dep (by simp)]
    show (p.rels.map MRel.p).isEmpty=true
    rw [hlp.rels,hrs]; rfl
   refine (intoD_any lb b oo n cc (s+10) (s+11) B 0 (readL (l.drop k)).e none (.slice none 0 0) [] (fun x=>x.p=depOf (readL (l.drop k))) 33 11 #[ptrV s] #[] W h.stat.o4 h.stat.t4 hoe hte
    (fun W2 hb=>own3_of (h.stat.cx.kept hb h.stat.cx.lt) (deps3_norel (h.tree.but (But.of_same hb fun _=>False) (fun _ _ _ g=>g) fun g=>g) hrs)) (fun hq=>absurd rfl hq) (fun a ha=>by cases ha) (by omega) (LnE.of hln)).mono ?_
   rintro e W3 ⟨hl3,hpost⟩
   rcases hpost with ⟨_,he,hbt⟩ | ⟨a,ha,_⟩
   ·subst he
    exact PostX.bad (f:=13) (by rw [hst,hbx]; rfl) (by decide) hbt hl3 ⟨_,h.tree.cell⟩ (by omega)
   ·cases ha
  | some r =>
   obtain ⟨gR,hR,hgB,hgM,hgW,hgf,hgc⟩:=hlp.at_rel
   have hlr:=hlp.lst r rfl
   have hro:(rv p).ownBlock=some gR:=by show (Value.slice p.R _ _).ownBlock=_; rw [hR]; rfl
   have hbx:badX st wNeeds=false:=by
    rw [hst2,badX_dep (by simp)]
    show (p.rels.map MRel.p).isEmpty=false
    rw [hlp.rels]; simp
   rw [hbx,if_neg (by decide)] at hst
   have hml:r.needs.length≤k:=by
    have:=hsm.needs p.p (by rw [hst2]; simp) r.p (by show r.p ∈ p.rels.map MRel.p; rw [hlp.rels]; simp)
    simpa [MRel.p] using this
   refine (intoD_any lb b oo n cc (s+10) (s+11) B r.needs.length (readL (l.drop k)).e (some (gR,rs.length * 8+6)) (nv r) r.needs (fun x=>x.p=depOf (readL (l.drop k))) 33 11 #[ptrV s] #[] W h.stat.o4 h.stat.t4 hoe hte
    (fun W2 hb=>own3_of (h.stat.cx.kept hb h.stat.cx.lt) (deps3_some (h.tree.but (But.of_same hb fun _=>False) (fun _ _ _ g=>g) fun g=>g) hR)) (fun _ W2 hb2=>hdep W2 hb2)
    (fun a ha=>by
     injection ha with ha
     subst ha
     exact ⟨⟨hgc 6 _ rfl,hgf _,hlr.needs,hgW,Nat.le_trans h4 h.tree.le,fun g e d=>by subst d; exact own_ne hlp.own hlr.needs (by decide) hro e⟩,by omega,fun g e=>by have:=hlr.nM g e; omega⟩) (by omega) (LnE.of hln)).mono ?_
   rintro e W3 ⟨hl3,hpost⟩
   rcases hpost with ⟨hq,_⟩ | ⟨a,ha,he,hpost⟩
   ·cases hq
   ·injection ha with ha
    subst ha
    subst he
    rcases hpost with ⟨hne,hbt⟩ | ⟨h0,hk⟩
    ·exact PostX.bad (by rw [hst]) hne hbt hl3 ⟨_,h.tree.cell⟩ (by omega)
    ·have hkb:=kept_but hk
     obtain ⟨x,v',W1,Wa,hx,hok,hb1,hgr,hown,hat,rfl⟩:=hk
     have t1:=h.tree.but hb1 (fun g _ hg e=>by omega) (by omega)
     have hz1:=hb1.size
     have hza:=hgr.size
     obtain ⟨S',A',c',ht'⟩:=t1.addNeed x hok (fun g hg=>⟨by omega,hg.2⟩) hR hown hgr hat
     have hg:PostX s xb B st (l.drop k) lb b oo n cc W (.returned (.int .i64 0)) (Wa.setCell ⟨gR,rs.length * 8+6,none⟩ v'):=by
      refine PostX.good h hM hkb (fun g e=>?_) hl3 ht' (by simp) (by omega) (by rw [hst]; exact h0) ?_ (fun e=>by cases e)
      ·rcases e with (e | e) | e
       ·exact .inl e
       ·exact .inr (.inr ⟨(hlr.needs.lt g e).1,hlr.nM g e⟩)
       ·exact .inr (.inr (by omega))
      ·rw [hst]
       show (ps ++ [_]).map MPack.p=onLast _ st
       rw [hst2,onLast_snoc,List.map_append]
       show ps.map MPack.p ++ [_]=ps.map MPack.p ++ [_]
       congr 2
       show (⟨p.name,(rs ++ [_]).map MRel.p⟩:PPack)=⟨p.name,onLast _ (p.rels.map MRel.p)⟩
       rw [hlp.rels,List.map_append,List.map_append]
       show (⟨p.name,rs.map MRel.p ++ [_]⟩:PPack)=⟨p.name,onLast _ (rs.map MRel.p ++ [r.p])⟩
       rw [onLast_snoc,← hx]
       congr 3
       simp [MRel.p,addNeed]
     rw [h0]; exact hg
end Go.Proofs.YtgakcdcfblgagaaDoor.Sheet
namespace Go.Proofs.YtgakcdcfblgagaaDoor.Sheet
open Go.RowKit Num Ident Semver Fr
open KR (KRow AtV)
open Range (KeepS LtB From OpsTab)
open Model (PDep PRel PPack PPin MDep MVer MRel MPack MPin DepOk VerOk PinOk RelOk PackOk DRow SPRow RRow PRow)

theorem step_ban {st:List PPack} {t:List UInt8} (hw:wordOf t=wBans):stepX st t=(if badX st wBans=true then 13 else (readL t).e,onLast (onRel (addBan (depOf (readL t)))) st):=by
 have hl:(readL t).w=wBans:=by rw [readL_word (by rw [hw]; decide)]; exact hw
 unfold stepX addX
 rw [hl,if_neg (show ¬ wBans=wPackage by decide),if_neg (show ¬ (wBans=wVersion∨wBans=wYanked) by decide),if_neg (show ¬ wBans=wNeeds by decide)]; rfl
theorem takeX_ban {s xb B:Nat} {st:List PPack} {M:Nat} {W:World} {S:Nat→Prop} {A:Option Addr} {c:Nat} {ps:List MPack} {op:Option MPack} {rs:List MRel} {q:Option MRel} (h:HoldX s xb B st M W S A c ps op rs q) {lb b oo n cc k:Nat} {l:List UInt8} (hM:M≤lb) (hln:Ln W lb b oo n cc l k) (hn:n≤16777216) (hw:wordOf (l.drop k)=wBans) (hsm:SmallX k st) :
  Calls Tryd.prog 42 #[ptrV lb,ptrV (s+12),ptrV (s+13)] W (PostX s xb B st (l.drop k) lb b oo n cc W):=by
 have h1:=h.xs; have h2:=h.sB; have h3:=h.ox; have h4:=h.bM
 have hll:=hln.at_.lt
 have hkn:=hln.kn
 have hst:=step_ban (st:=st) hw
 have hkind:kindW (wordOf (l.drop k))=3:=by rw [hw]; decide
 have hnp:wBans≠wPackage:=by decide
 have hdep:∀ W2,Below W.heap.size W W2→Calls Tryd.prog 11 (#[.pointer (some ⟨lb,0,none⟩)] ++ #[]) W2 fun e w'=>∃ x:MDep,e=.returned (.tuple #[x.agg,.int .i64 (((readL (l.drop k)).e:Nat):Int)])∧((readL (l.drop k)).e=0→x.p=depOf (readL (l.drop k))∧DepOk w' (fun g=>W2.heap.size≤g∧g<w'.heap.size) x)∧But (fun g=>g=lb) W2 w'∧LnE w' lb b oo n cc:=fun W2 hb2 =>
  (dep_any lb b oo n cc l k W2 (hln.kept hb2) hn hkind (opsTab_oth h.stat.tab (But.of_same hb2 fun _=>False) fun g=>g) (by omega)).mono fun e W3 ⟨x,f,q3,q4,q5,q6,q7⟩=>⟨x,by rw [q3,q4],fun h0=>⟨(q5 (q4.trans h0)).1,(q5 (q4.trans h0)).2.mono fun g hg hlt=>⟨hg,hlt⟩⟩,q6,q7⟩
 have hoe:=enters_of Tryd.func36 (by kernel_rfl) rfl
 have hte:=enters_of Tryd.func11 (by kernel_rfl) rfl
 cases op with
 | none =>
  have hps:=h.tree.emp rfl
  have hst0:st=[]:=by rw [← h.is,hps]; rfl
  refine (intoD_any lb b oo n cc (s+12) (s+13) B 0 (readL (l.drop k)).e none (.slice none 0 0) [] (fun x=>x.p=depOf (readL (l.drop k))) 36 11 #[ptrV s] #[] W h.stat.o5 h.stat.t5 hoe hte
   (fun W2 hb=>own4_of (h.stat.cx.kept hb h.stat.cx.lt) (deps4_none (h.tree.but (But.of_same hb fun _=>False) (fun _ _ _ g=>g) fun g=>g))) (fun hq=>absurd rfl hq) (fun a ha=>by cases ha) (by omega) (LnE.of hln)).mono ?_
  rintro e W3 ⟨hl3,hpost⟩
  rcases hpost with ⟨_,he,hbt⟩ | ⟨a,ha,_⟩
  ·subst he
   exact PostX.bad (f:=13) (by rw [hst,hst0,badX_none hnp]; rfl) (by decide) hbt hl3 ⟨_,h.tree.cell⟩ (by omega)
  ·cases ha
 | some p =>
  have hlp:=h.tree.lst p rfl
  have hst2:st=ps.map MPack.p ++ [p.p]:=by rw [← h.is]; simp
  cases q with
  | none =>
   have hrs:=h.nr rfl
   have hbx:badX st wBans=true:=by
    rw [hst2,badX_dep (by simp)]
    show (p.rels.map MRel.p).isEmpty=true
    rw [hlp.rels,hrs]; rfl
   refine (intoD_any lb b oo n cc (s+12) (s+13) B 0 (readL (l.drop k)).e none (.slice none 0 0) [] (fun x=>x.p=depOf (readL (l.drop k))) 36 11 #[ptrV s] #[] W h.stat.o5 h.stat.t5 hoe hte
    (fun W2 hb=>own4_of (h.stat.cx.kept hb h.stat.cx.lt) (deps4_norel (h.tree.but (But.of_same hb fun _=>False) (fun _ _ _ g=>g) fun g=>g) hrs)) (fun hq=>absurd rfl hq) (fun a ha=>by cases ha) (by omega) (LnE.of hln)).mono ?_
   rintro e W3 ⟨hl3,hpost⟩
   rcases hpost with ⟨_,he,hbt⟩ | ⟨a,ha,_⟩
   ·subst he
    exact PostX.bad (f:=13) (by rw [hst,hbx]; rfl) (by decide) hbt hl3 ⟨_,h.tree.cell⟩ (by omega)
   ·cases ha
  | some r =>
   obtain ⟨gR,hR,hgB,hgM,hgW,hgf,hgc⟩:=hlp.at_rel
   have hlr:=hlp.lst r rfl
   have hro:(rv p).ownBlock=some gR:=by show (Value.slice p.R _ _).ownBlock=_; rw [hR]; rfl
   have hbx:badX st wBans=false:=by
    rw [hst2,badX_dep (by simp)]
    show (p.rels.map MRel.p).isEmpty=false
    rw [hlp.rels]; simp
   rw [hbx,if_neg (by decide)] at hst
   have hml:r.bans.length≤k:=by
    have:=hsm.bans p.p (by rw [hst2]; simp) r.p (by show r.p ∈ p.rels.map MRel.p; rw [hlp.rels]; simp)
    simpa [MRel.p] using this
   refine (intoD_any lb b oo n cc (s+12) (s+13) B r.bans.length (readL (l.drop k)).e (some (gR,rs.length * 8+7)) (bv r) r.bans (fun x=>x.p=depOf (readL (l.drop k))) 36 11 #[ptrV s] #[] W h.stat.o5 h.stat.t5 hoe hte
    (fun W2 hb=>own4_of (h.stat.cx.kept hb h.stat.cx.lt) (deps4_some (h.tree.but (But.of_same hb fun _=>False) (fun _ _ _ g=>g) fun g=>g) hR)) (fun _ W2 hb2=>hdep W2 hb2)
    (fun a ha=>by
     injection ha with ha
     subst ha
     exact ⟨⟨hgc 7 _ rfl,hgf _,hlr.bans,hgW,Nat.le_trans h4 h.tree.le,fun g e d=>by subst d; exact own_ne hlp.own hlr.bans (by decide) hro e⟩,by omega,fun g e=>by have:=hlr.bM g e; omega⟩) (by omega) (LnE.of hln)).mono ?_
   rintro e W3 ⟨hl3,hpost⟩
   rcases hpost with ⟨hq,_⟩ | ⟨a,ha,he,hpost⟩
   ·cases hq
   ·injection ha with ha
    subst ha
    subst he
    rcases hpost with ⟨hne,hbt⟩ | ⟨h0,hk⟩
    ·exact PostX.bad (by rw [hst]) hne hbt hl3 ⟨_,h.tree.cell⟩ (by omega)
    ·have hkb:=kept_but hk
     obtain ⟨x,v',W1,Wa,hx,hok,hb1,hgr,hown,hat,rfl⟩:=hk
     have t1:=h.tree.but hb1 (fun g _ hg e=>by omega) (by omega)
     have hz1:=hb1.size
     have hza:=hgr.size
     obtain ⟨S',A',c',ht'⟩:=t1.addBan x hok (fun g hg=>⟨by omega,hg.2⟩) hR hown hgr hat
     have hg:PostX s xb B st (l.drop k) lb b oo n cc W (.returned (.int .i64 0)) (Wa.setCell ⟨gR,rs.length * 8+7,none⟩ v'):=by
      refine PostX.good h hM hkb (fun g e=>?_) hl3 ht' (by simp) (by omega) (by rw [hst]; exact h0) ?_ (fun e=>by cases e)
      ·rcases e with (e | e) | e
       ·exact .inl e
       ·exact .inr (.inr ⟨(hlr.bans.lt g e).1,hlr.bM g e⟩)
       ·exact .inr (.inr (by omega))
      ·rw [hst]
       show (ps ++ [_]).map MPack.p=onLast _ st
       rw [hst2,onLast_snoc,List.map_append]
       show ps.map MPack.p ++ [_]=ps.map MPack.p ++ [_]
       congr 2
       show (⟨p.name,(rs ++ [_]).map MRel.p⟩:PPack)=⟨p.name,onLast _ (p.rels.map MRel.p)⟩
       rw [hlp.rels,List.map_append,List.map_append]
       show (⟨p.name,rs.map MRel.p ++ [_]⟩:PPack)=⟨p.name,onLast _ (rs.map MRel.p ++ [r.p])⟩
       rw [onLast_snoc,← hx]
       congr 3
       simp [MRel.p,addBan]
     rw [h0]; exact hg
end Go.Proofs.YtgakcdcfblgagaaDoor.Sheet
namespace Go.Proofs.YtgakcdcfblgagaaDoor.Sheet
open Go.RowKit Num Ident Semver Fr
open KR (KRow AtV)
open Range (KeepS LtB From OpsTab)
open Model (PDep PRel PPack PPin MDep MVer MRel MPack MPin DepOk VerOk PinOk RelOk PackOk DRow SPRow RRow PRow)

theorem kind_zero {w:List UInt8} (h1:w≠wBans) (h2:w≠wNeeds) (h3:w≠wYanked) (h4:w≠wVersion) (h5:w≠wPackage):w=wRoot∨w=wPin∨kindW w=0:=by
 by_cases e1:w=wRoot
 ·exact .inl e1
 by_cases e2:w=wPin
 ·exact .inr (.inl e2)
 refine .inr (.inr ?_)
 unfold kindW
 rw [if_neg h5,if_neg (fun e=>e.elim h4 h3),if_neg (fun e=>e.elim h2 fun e=>e.elim h1 e1),if_neg e2]
theorem badX_other {st:List PPack} {w:List UInt8} (h:w=[]∨w=wRoot∨w=wPin):badX st w=true:=by
 unfold badX
 rcases h with rfl | rfl | rfl
 ·rfl
 ·simp only [show (wRoot == wRoot)=true from by decide,Bool.or_true,Bool.true_or]
 ·simp only [show (wPin == wPin)=true from by decide,Bool.or_true,Bool.true_or]
theorem step_other {st:List PPack} {t:List UInt8} (h1:wordOf t≠wBans) (h2:wordOf t≠wNeeds) (h3:wordOf t≠wYanked) (h4:wordOf t≠wVersion) (h5:wordOf t≠wPackage):(stepX st t).1=13:=by
 have hb:badX st (readL t).w=true:=by
  rcases kind_zero h1 h2 h3 h4 h5 with e | e | e
  ·rw [readL_word (by rw [e]; decide),e]; exact badX_other (.inr (.inl rfl))
  ·rw [readL_word (by rw [e]; decide),e]; exact badX_other (.inr (.inr rfl))
  ·rw [readL_none e]; exact badX_other (.inl rfl)
 unfold stepX
 rw [hb]; rfl
theorem fX_none {s:Nat} {t:List UInt8} (h:fX s t=none):t≠wBans∧t≠wNeeds∧t≠wYanked∧t≠wVersion∧t≠wPackage:=by
 unfold fX at h
 by_cases n1:t=wBans
 ·rw [if_pos n1] at h; cases h
 rw [if_neg n1] at h
 by_cases n2:t=wNeeds
 ·rw [if_pos n2] at h; cases h
 rw [if_neg n2] at h
 by_cases n3:t=wYanked
 ·rw [if_pos n3] at h; cases h
 rw [if_neg n3] at h
 by_cases n4:t=wVersion
 ·rw [if_pos n4] at h; cases h
 rw [if_neg n4] at h
 by_cases n5:t=wPackage
 ·rw [if_pos n5] at h; cases h
 rw [if_neg n5] at h
 exact ⟨n1,n2,n3,n4,n5⟩
def keepX (s xb B b:Nat):Keeper (List PPack) stepX (s+1) b (fun g=>g=xb∨B≤g) where
 Hold st M W:=∃ S A c ps o rs q,HoldX s xb B st M W S A c ps o rs q
 Small k st:=SmallX k st
 Rem W:=∃ v,AtV W xb [v]
 rem:=fun ⟨_,_,_,_,_,_,_,h⟩=>⟨_,h.tree.cell⟩
 kept:=fun ⟨S,A,c,ps,o,rs,q,h⟩ hb=>⟨S,A,c,ps,o,rs,q,h.kept hb⟩
 lt:=fun ⟨_,_,_,_,_,_,_,h⟩=>h.tree.le
 up:=fun ⟨S,A,c,ps,o,rs,q,h⟩ h1 h2=>⟨S,A,c,ps,o,rs,q,h.up h1 h2⟩
 more h hk:=h.more hk
 step_:=fun {k s t} h=>by unfold stepX; exact small_add h _
 take:=by
  rintro st M lb o n cc k l W ⟨S,A,c,ps,op,rs,q,h⟩ hM hln hn hs hbM
  have hx:(fun g=>(g=xb∨B≤g)∨g=lb)=fun g=>(g=xb∨B≤g)∨g=lb:=rfl
  refine take_any (s+1) lb b o n cc l k (fX s) W _ hln h.stat.words (fun hsk W' hb=>?_) (fun hsk hf W' hb=>?_) fun hsk g lbs hf=>?_
  ·exact ⟨0,rfl,by rw [if_pos hsk],fun _=>by rw [if_pos hsk]; exact ⟨S,A,c,ps,op,rs,q,(h.kept hb).up (Nat.le_trans h.tree.le hb.size) (Nat.le_refl _)⟩,But.of_same hb _,(LnE.of hln).oth (But.of_same hb fun _=>False) (fun g=>g),⟨_,(h.kept hb).tree.cell⟩⟩
  ·obtain ⟨n1,n2,n3,n4,n5⟩:=fX_none hf
   exact ⟨13,rfl,by rw [hsk,if_neg (by decide),step_other n1 n2 n3 n4 n5],(fun e=>by cases e),But.of_same hb _,(LnE.of hln).oth (But.of_same hb fun _=>False) (fun g=>g),⟨_,(h.kept hb).tree.cell⟩⟩
  ·have hgo:∀ W1,PostX s xb B st (l.drop k) lb b o n cc W1=PostX s xb B st (l.drop k) lb b o n cc W1:=fun _=>rfl
   suffices hh:(∀ args w,(callFunc g args).run Tryd.prog w=.ok (.enter g args) w)∧∀ W1,Below W.heap.size W W1→Calls Tryd.prog g (#[.pointer (some ⟨lb,0,none⟩)] ++ lbs) W1 (PostX s xb B st (l.drop k) lb b o n cc W1) by
    refine ⟨hh.1,fun W1 hb=>(hh.2 W1 hb).mono ?_⟩
    rintro e W3 ⟨f,he,hf1,hf2,hf3,hf4,hf5⟩
    refine ⟨⟨_,he⟩,f,he,by rw [hsk,if_neg (by decide)]; exact hf1,fun h0=>by rw [hsk,if_neg (by decide)]; exact hf2 h0,(But.of_same hb fun g=>(g=xb∨B≤g)∨g=lb).trans hf3 (fun g e=>.inl e),hf4,hf5⟩
   have hif:=hf
   unfold fX at hif
   by_cases w1:wordOf (l.drop k)=wBans
   ·rw [if_pos w1] at hif
    cases hif
    exact ⟨enters_of Tryd.func42 (by kernel_rfl) rfl,fun W1 hb=>takeX_ban (h.kept hb) hM (hln.kept hb) hn w1 hs⟩
   rw [if_neg w1] at hif
   by_cases w2:wordOf (l.drop k)=wNeeds
   ·rw [if_pos w2] at hif
    cases hif
    exact ⟨enters_of Tryd.func42 (by kernel_rfl) rfl,fun W1 hb=>takeX_need (h.kept hb) hM (hln.kept hb) hn w2 hs⟩
   rw [if_neg w2] at hif
   have hB2:=h.sB
   have hBM:=h.bM
   by_cases w3:wordOf (l.drop k)=wYanked
   ·rw [if_pos w3] at hif
    cases hif
    exact ⟨enters_of Tryd.func55 (by kernel_rfl) rfl,fun W1 hb=>takeX_rel (y:=true) (h.kept hb) hM (hln.kept hb) hn (.inr w3) (by rw [w3]; decide) hs (h.kept hb).stat.o3 (h.kept hb).stat.t3 (h.kept hb).stat.y3 (by omega)⟩
   rw [if_neg w3] at hif
   by_cases w4:wordOf (l.drop k)=wVersion
   ·rw [if_pos w4] at hif
    cases hif
    exact ⟨enters_of Tryd.func55 (by kernel_rfl) rfl,fun W1 hb=>takeX_rel (y:=false) (h.kept hb) hM (hln.kept hb) hn (.inl w4) (by rw [w4]; decide) hs (h.kept hb).stat.o2 (h.kept hb).stat.t2 (h.kept hb).stat.y2 (by omega)⟩
   rw [if_neg w4] at hif
   by_cases w5:wordOf (l.drop k)=wPackage
   ·rw [if_pos w5] at hif
    cases hif
    exact ⟨enters_of Tryd.func53 (by kernel_rfl) rfl,fun W1 hb=>takeX_pack (h.kept hb) hM (hln.kept hb) hn w5 hs⟩
   ·rw [if_neg w5] at hif
    cases hif
end Go.Proofs.YtgakcdcfblgagaaDoor.Sheet
