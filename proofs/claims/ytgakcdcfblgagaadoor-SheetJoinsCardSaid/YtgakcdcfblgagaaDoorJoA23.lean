/-
  What the theorem of the last text needs of these: ShMakeW, ShIndex, ShAwake. Conditions: as each theorem states.
-/
import Derived.Test.YtgakcdcfblgagaaDoorJoA1
import Derived.Test.YtgakcdcfblgagaaDoorJoA17
import Derived.Test.YtgakcdcfblgagaaDoorJoA19
import Derived.Test.YtgakcdcfblgagaaDoorJoA22
set_option maxRecDepth 100000
set_option maxHeartbeats 25600000
namespace Go.Proofs.YtgakcdcfblgagaaDoor.Sheet
open Go.RowKit Num Ident Semver Fr
open KR (KRow AtV)
open Range (KeepS LtB From OpsTab)
open Go.Maps (Keyed IsMap)

theorem wpList_insert_size {H:Type} {P:Program} (w:World) {ops:Array Oper} {rest:List Oper} {o:Oper} {a:Act} {Q:Exit→Act→World→Prop}
  (hg:o.guard=none) (m x v:Operand) (t:TypeId) (hop:o.op=Op.insert t m x v)
  (k e:TypeId) (K:Go.Maps.Keyed P k) (ht:P.underlying t=some (.map k e)) (R:Value→Option (DataW H × List MemPlace)) (b n:Nat) (D:DataW H)
  (hm:a.eval m=.map (some b)) (hown:w.ownsMap P k R b n D) (hn:n<maxLen) (key val:Value) (kl:Lit) (hx:a.eval x=key) (hv:a.eval v=val) (hkey:keyOf P k key=some kl)
  (d:DataW H) (ps:List MemPlace) (hval:R val=some (d,ps))
  (hK:∀ w',w'.ownsMap P k R b (n+1) (D.put kl d)→w.grownBy w' (some b)→w'.heap.size=w.heap.size→wpList P ops Q rest (a.put o.dst undef) w') :
  wpList P ops Q (o :: rest) a w:=by
 obtain ⟨w',hrun,r1,r2⟩:=hown.update K ht hn hkey hval
 have hz:w'.heap.size=w.heap.size:=by
  obtain ⟨es,clock,hb,F,hs,rfl⟩:=hown
  obtain ⟨es',clock',hrun',_⟩:=Maps.fit_store (R':=R) K ht hb F (Nat.lt_of_le_of_lt hs hn) (fun _ _ _ _ hz=>hz) hkey hval
  rw [hrun] at hrun'
  injection hrun' with _ e
  rw [e]
  simp [Go.ChangeMaps.setBlock]
 refine wpList_plain hg fun K' hK'=>?_
 unfold Oper.wp
 simp [execOp,hop,hm,hx,hv,hrun,Result.andThen]
 exact hK' _ _ (hK w' r1 r2 hz)
def Ones (L:List (Nat × Value)) (W:World):Prop:=∀ p ∈ L,AtV W p.1 [p.2]
structure StM (s:Nat) (w:World) (L:List (Nat × Value)) (f:Words) (n m:Nat) (D:DataW Value) (W:World):Prop where
 ones:Ones L W
 own:W.ownsMap Tryd.prog 9 fnElem (s+1) m D
 fits:IsMap D∧(∀ n,Maps.has D (.string n)=(f n).isSome)∧∀ n g lb,f n=some (g,lb)→∀ z,D.atKey (.string n) z=.held (.func (.func g) #[] lb)
 size:W.heap.size=s+n
 bel:Below s w W
 off:∀ p ∈ L,p.1≠s+1
section
variable {s:Nat} {w:World} {L:List (Nat × Value)} {f:Words} {n m:Nat} {D:DataW Value} {W W':World}
theorem StM.call (h:StM s w L f n m D W) (hb:Below W.heap.size W W') (L':List (Nat × Value)) (k:Nat) (hn:2≤n) (hL:Ones L' W') (hl:∀ p ∈ L',W.heap.size≤p.1) (hz:W'.heap.size=W.heap.size+k):StM s w (L' ++ L) f (n+k) m D W':=by
 have hs:=h.size
 refine ⟨fun p hp=>?_,map_but h.own (But.of_same hb fun _=>False) fun g=>g,h.fits,by rw [hz,hs]; omega,h.bel.trans (hb.mono (by omega)),fun p hp=>?_⟩
 ·rcases List.mem_append.1 hp with hp | hp
  ·exact hL p hp
  ·exact (h.ones p hp).kept hb (h.ones p hp).lt
 ·rcases List.mem_append.1 hp with hp | hp
  ·have:=hl p hp; omega
  ·exact h.off p hp
theorem StM.put (h:StM s w L f n m D W) {t:List UInt8} {g:Nat} {lb:Array Value} (ho:W'.ownsMap Tryd.prog 9 fnElem (s+1) (m+1) (D.put (.string t) (.held (.func (.func g) #[] lb)))) (hg:W.grownBy W' (some (s+1))) (hz:W'.heap.size=W.heap.size) :
  StM s w L (fun n=>if n=t then some (g,lb) else f n) n (m+1) (D.put (.string t) (.held (.func (.func g) #[] lb))) W':=by
 have hk:But (fun k=>k=s+1) W W':=But.of_grown (T:=fun k=>k=s+1) hg fun b e=>by cases e; rfl
 have hs:=h.size
 have hbs:=h.bel.size
 exact ⟨fun p hp=>atv_oth (h.ones p hp) hk (h.off p hp),ho,words_add h.fits.1 h.fits.2.1 h.fits.2.2,hz.trans hs,h.bel.trans (hk.below (B:=s) (fun k e=>by omega) (by omega)),h.off⟩
end
theorem indexWords_any (xb:Nat) (w:World) (ht:OpsTab w) (hgl:1<w.heap.size):Calls Tryd.prog 17 #[ptrV xb] w fun e w'=>e=.returned (.map (some (w.heap.size+1)))∧StatX w.heap.size xb w'∧Below w.heap.size w w'∧w'.heap.size=w.heap.size+14:=by
 obtain ⟨s,hs⟩:∃ s,w.heap.size=s:=⟨_,rfl⟩
 have HT:=Lib.hid ht
 have H0:Hid (StM s w [(s,ptrV xb)] (fun _=>none) 2 0 (.map []) ((w.alloc (.cells #[ptrV xb] 69)).alloc (.map #[] 0))):=by
  have hb:Below w.heap.size w ((w.alloc (.cells #[ptrV xb] 69)).alloc (.map #[] 0)):=((Below.refl _ _).alloc (Nat.le_refl _) _).alloc (by simp) _
  refine ⟨fun p hp=>?_,?_,⟨Go.Maps.isMap_empty,(fun s=>by simp [Maps.has]),fun s g lb h=>by cases h⟩,by simp [hs],by rw [← hs]; exact hb,fun p hp=>?_⟩
  ·obtain rfl:p=(s,ptrV xb):=by simpa using hp
   rw [← hs]
   exact (AtV.new w _ _).kept ((Below.refl _ _).alloc (Nat.le_refl _) _) (by simp)
  ·have:=World.ownsMap_made (H:=Value) (w.alloc (.cells #[ptrV xb] 69)) Tryd.prog 9 fnElem
   rw [size_alloc,hs] at this; exact this
  ·obtain rfl:p=(s,ptrV xb):=by simpa using hp
   show s≠s+1
   omega
 clear ht
 rw [hs] at hgl ⊢
 have hmm:=@run_makeMap Tryd.prog
 have HS:=Lib.hid hs
 go_enter Tryd.func17,Tryd.ntmps17
 go_wp2_with fail
 generalize (w.alloc (.cells #[ptrV xb] 69)).alloc (.map #[] 0)=w1 at H0 ⊢
 refine (makeP_any _ _ _ _ w1).mono ?_
 rintro e w2 ⟨rfl,ho,ht,hb,hz⟩
 have hz0:=H0.out.size
 have H2:Hid (StM s w [(s+3,.func (.func 39) #[] #[]),(s+2,.func (.func 30) #[] #[ptrV s]),(s,ptrV xb)] (fun _=>none) 4 0 (.map []) w2):=StM.call H0.out hb [(s+3,.func (.func 39) #[] #[]),(s+2,.func (.func 30) #[] #[ptrV s])] 2 (by omega) (fun p hp=>by
  rw [hz0] at ho ht
  rcases List.mem_cons.1 hp with hp | hp
  ·subst hp; exact ht
  ·obtain rfl:=List.mem_singleton.1 hp
   exact ho) (fun p hp=>by
  rw [hz0]
  rcases List.mem_cons.1 hp with hp | hp
  ·subst hp; show s+2≤s+3; omega
  ·obtain rfl:=List.mem_singleton.1 hp
   exact Nat.le_refl _) hz
 rw [hz0]
 clear hz0 hb hz ho ht H0
 have hkey:keyOf Tryd.prog 9 (.string ⟨#[112,97,99,107,97,103,101]⟩)=some (.string wPackage):=by have:=strKey (s:=Ident.mk wPackage) (by decide); rwa [mk_list] at this
 go_wp2_with (refine wpList_insert_size _ rfl _ _ _ 67 rfl 9 72 strKeyed Tryd.underlying67 fnElem (s+1) 0 (.map []) rfl H2.out.own (by unfold maxLen; omega) _ _ _ rfl rfl hkey (.held (.func (.func 53) #[] #[ptrV (s+2),ptrV (s+3)])) [] rfl ?_)
 intro w3 hown hgrow hz
 obtain ⟨D3,h⟩:∃ D,StM s w [(s+3,.func (.func 39) #[] #[]),(s+2,.func (.func 30) #[] #[ptrV s]),(s,ptrV xb)] (fun n=>if n=wPackage then some (53,#[ptrV (s+2),ptrV (s+3)]) else (fun _=>none) n) 4 1 D w3:=⟨_,H2.out.put hown hgrow hz⟩
 have H3:=Lib.hid h
 clear h hown hgrow hz hkey H2
 go_wp2_with fail
 refine (makePub_any _ w3).mono ?_
 rintro e w4 ⟨rfl,ho,hb,hz⟩
 have hz0:=H3.out.size
 have H4:Hid (StM s w [(s+4,.bool false),(s+3,.func (.func 39) #[] #[]),(s+2,.func (.func 30) #[] #[ptrV s]),(s,ptrV xb)] (fun n=>if n=wPackage then some (53,#[ptrV (s+2),ptrV (s+3)]) else (fun _=>none) n) 5 1 D3 w4):=StM.call H3.out hb [(s+4,.bool false)] 1 (by omega) (fun p hp=>by
  rw [hz0] at ho
  obtain rfl:=List.mem_singleton.1 hp
  exact ho) (fun p hp=>by
  rw [hz0]
  obtain rfl:=List.mem_singleton.1 hp
  exact Nat.le_refl _) hz
 rw [hz0]
 clear hz0 hb hz ho H3
 go_wp2_with fail
 refine (makeR_any _ _ _ _ w4).mono ?_
 rintro e w5 ⟨rfl,ho,ht,hb,hz⟩
 have hz0:=H4.out.size
 have H5:Hid (StM s w [(s+6,.func (.func 56) #[] #[ptrV (s+4)]),(s+5,.func (.func 31) #[] #[ptrV s]),(s+4,.bool false),(s+3,.func (.func 39) #[] #[]),(s+2,.func (.func 30) #[] #[ptrV s]),(s,ptrV xb)] (fun n=>if n=wPackage then some (53,#[ptrV (s+2),ptrV (s+3)]) else (fun _=>none) n) 7 1 D3 w5):=StM.call H4.out hb [(s+6,.func (.func 56) #[] #[ptrV (s+4)]),(s+5,.func (.func 31) #[] #[ptrV s])] 2 (by omega) (fun p hp=>by
  rw [hz0] at ho ht
  rcases List.mem_cons.1 hp with hp | hp
  ·subst hp; exact ht
  ·obtain rfl:=List.mem_singleton.1 hp
   exact ho) (fun p hp=>by
  rw [hz0]
  rcases List.mem_cons.1 hp with hp | hp
  ·subst hp; show s+5≤s+6; omega
  ·obtain rfl:=List.mem_singleton.1 hp
   exact Nat.le_refl _) hz
 rw [hz0]
 clear hz0 hb hz ho ht H4
 have hkey:keyOf Tryd.prog 9 (.string ⟨#[118,101,114,115,105,111,110]⟩)=some (.string wVersion):=by have:=strKey (s:=Ident.mk wVersion) (by decide); rwa [mk_list] at this
 go_wp2_with (refine wpList_insert_size _ rfl _ _ _ 67 rfl 9 72 strKeyed Tryd.underlying67 fnElem (s+1) 1 D3 rfl H5.out.own (by unfold maxLen; omega) _ _ _ rfl rfl hkey (.held (.func (.func 55) #[] #[ptrV (s+5),ptrV (s+6)])) [] rfl ?_)
 intro w6 hown hgrow hz
 obtain ⟨D6,h⟩:∃ D,StM s w [(s+6,.func (.func 56) #[] #[ptrV (s+4)]),(s+5,.func (.func 31) #[] #[ptrV s]),(s+4,.bool false),(s+3,.func (.func 39) #[] #[]),(s+2,.func (.func 30) #[] #[ptrV s]),(s,ptrV xb)] (fun n=>if n=wVersion then some (55,#[ptrV (s+5),ptrV (s+6)]) else (fun n=>if n=wPackage then some (53,#[ptrV (s+2),ptrV (s+3)]) else (fun _=>none) n) n) 7 2 D w6:=⟨_,H5.out.put hown hgrow hz⟩
 have H6:=Lib.hid h
 clear h hown hgrow hz hkey H5
 go_wp2_with fail
 refine (makePub_any _ w6).mono ?_
 rintro e w7 ⟨rfl,ho,hb,hz⟩
 have hz0:=H6.out.size
 have H7:Hid (StM s w [(s+7,.bool true),(s+6,.func (.func 56) #[] #[ptrV (s+4)]),(s+5,.func (.func 31) #[] #[ptrV s]),(s+4,.bool false),(s+3,.func (.func 39) #[] #[]),(s+2,.func (.func 30) #[] #[ptrV s]),(s,ptrV xb)] (fun n=>if n=wVersion then some (55,#[ptrV (s+5),ptrV (s+6)]) else (fun n=>if n=wPackage then some (53,#[ptrV (s+2),ptrV (s+3)]) else (fun _=>none) n) n) 8 2 D6 w7):=StM.call H6.out hb [(s+7,.bool true)] 1 (by omega) (fun p hp=>by
  rw [hz0] at ho
  obtain rfl:=List.mem_singleton.1 hp
  exact ho) (fun p hp=>by
  rw [hz0]
  obtain rfl:=List.mem_singleton.1 hp
  exact Nat.le_refl _) hz
 rw [hz0]
 clear hz0 hb hz ho H6
 go_wp2_with fail
 refine (makeR_any _ _ _ _ w7).mono ?_
 rintro e w8 ⟨rfl,ho,ht,hb,hz⟩
 have hz0:=H7.out.size
 have H8:Hid (StM s w [(s+9,.func (.func 56) #[] #[ptrV (s+7)]),(s+8,.func (.func 31) #[] #[ptrV s]),(s+7,.bool true),(s+6,.func (.func 56) #[] #[ptrV (s+4)]),(s+5,.func (.func 31) #[] #[ptrV s]),(s+4,.bool false),(s+3,.func (.func 39) #[] #[]),(s+2,.func (.func 30) #[] #[ptrV s]),(s,ptrV xb)] (fun n=>if n=wVersion then some (55,#[ptrV (s+5),ptrV (s+6)]) else (fun n=>if n=wPackage then some (53,#[ptrV (s+2),ptrV (s+3)]) else (fun _=>none) n) n) 10 2 D6 w8):=StM.call H7.out hb [(s+9,.func (.func 56) #[] #[ptrV (s+7)]),(s+8,.func (.func 31) #[] #[ptrV s])] 2 (by omega) (fun p hp=>by
  rw [hz0] at ho ht
  rcases List.mem_cons.1 hp with hp | hp
  ·subst hp; exact ht
  ·obtain rfl:=List.mem_singleton.1 hp
   exact ho) (fun p hp=>by
  rw [hz0]
  rcases List.mem_cons.1 hp with hp | hp
  ·subst hp; show s+8≤s+9; omega
  ·obtain rfl:=List.mem_singleton.1 hp
   exact Nat.le_refl _) hz
 rw [hz0]
 clear hz0 hb hz ho ht H7
 have hkey:keyOf Tryd.prog 9 (.string ⟨#[121,97,110,107,101,100]⟩)=some (.string wYanked):=by have:=strKey (s:=Ident.mk wYanked) (by decide); rwa [mk_list] at this
 go_wp2_with (refine wpList_insert_size _ rfl _ _ _ 67 rfl 9 72 strKeyed Tryd.underlying67 fnElem (s+1) 2 D6 rfl H8.out.own (by unfold maxLen; omega) _ _ _ rfl rfl hkey (.held (.func (.func 55) #[] #[ptrV (s+8),ptrV (s+9)])) [] rfl ?_)
 intro w9 hown hgrow hz
 obtain ⟨D9,h⟩:∃ D,StM s w [(s+9,.func (.func 56) #[] #[ptrV (s+7)]),(s+8,.func (.func 31) #[] #[ptrV s]),(s+7,.bool true),(s+6,.func (.func 56) #[] #[ptrV (s+4)]),(s+5,.func (.func 31) #[] #[ptrV s]),(s+4,.bool false),(s+3,.func (.func 39) #[] #[]),(s+2,.func (.func 30) #[] #[ptrV s]),(s,ptrV xb)] (fun n=>if n=wYanked then some (55,#[ptrV (s+8),ptrV (s+9)]) else (fun n=>if n=wVersion then some (55,#[ptrV (s+5),ptrV (s+6)]) else (fun n=>if n=wPackage then some (53,#[ptrV (s+2),ptrV (s+3)]) else (fun _=>none) n) n) n) 10 3 D w9:=⟨_,H8.out.put hown hgrow hz⟩
 have H9:=Lib.hid h
 clear h hown hgrow hz hkey H8
 go_wp2_with fail
 refine (makeD_any _ _ _ _ w9).mono ?_
 rintro e w10 ⟨rfl,ho,ht,hb,hz⟩
 have hz0:=H9.out.size
 have H10:Hid (StM s w [(s+11,.func (.func 11) #[] #[]),(s+10,.func (.func 33) #[] #[ptrV s]),(s+9,.func (.func 56) #[] #[ptrV (s+7)]),(s+8,.func (.func 31) #[] #[ptrV s]),(s+7,.bool true),(s+6,.func (.func 56) #[] #[ptrV (s+4)]),(s+5,.func (.func 31) #[] #[ptrV s]),(s+4,.bool false),(s+3,.func (.func 39) #[] #[]),(s+2,.func (.func 30) #[] #[ptrV s]),(s,ptrV xb)] (fun n=>if n=wYanked then some (55,#[ptrV (s+8),ptrV (s+9)]) else (fun n=>if n=wVersion then some (55,#[ptrV (s+5),ptrV (s+6)]) else (fun n=>if n=wPackage then some (53,#[ptrV (s+2),ptrV (s+3)]) else (fun _=>none) n) n) n) 12 3 D9 w10):=StM.call H9.out hb [(s+11,.func (.func 11) #[] #[]),(s+10,.func (.func 33) #[] #[ptrV s])] 2 (by omega) (fun p hp=>by
  rw [hz0] at ho ht
  rcases List.mem_cons.1 hp with hp | hp
  ·subst hp; exact ht
  ·obtain rfl:=List.mem_singleton.1 hp
   exact ho) (fun p hp=>by
  rw [hz0]
  rcases List.mem_cons.1 hp with hp | hp
  ·subst hp; show s+10≤s+11; omega
  ·obtain rfl:=List.mem_singleton.1 hp
   exact Nat.le_refl _) hz
 rw [hz0]
 clear hz0 hb hz ho ht H9
 have hkey:keyOf Tryd.prog 9 (.string ⟨#[110,101,101,100,115]⟩)=some (.string wNeeds):=by have:=strKey (s:=Ident.mk wNeeds) (by decide); rwa [mk_list] at this
 go_wp2_with (refine wpList_insert_size _ rfl _ _ _ 67 rfl 9 72 strKeyed Tryd.underlying67 fnElem (s+1) 3 D9 rfl H10.out.own (by unfold maxLen; omega) _ _ _ rfl rfl hkey (.held (.func (.func 42) #[] #[ptrV (s+10),ptrV (s+11)])) [] rfl ?_)
 intro w11 hown hgrow hz
 obtain ⟨D11,h⟩:∃ D,StM s w [(s+11,.func (.func 11) #[] #[]),(s+10,.func (.func 33) #[] #[ptrV s]),(s+9,.func (.func 56) #[] #[ptrV (s+7)]),(s+8,.func (.func 31) #[] #[ptrV s]),(s+7,.bool true),(s+6,.func (.func 56) #[] #[ptrV (s+4)]),(s+5,.func (.func 31) #[] #[ptrV s]),(s+4,.bool false),(s+3,.func (.func 39) #[] #[]),(s+2,.func (.func 30) #[] #[ptrV s]),(s,ptrV xb)] (fun n=>if n=wNeeds then some (42,#[ptrV (s+10),ptrV (s+11)]) else (fun n=>if n=wYanked then some (55,#[ptrV (s+8),ptrV (s+9)]) else (fun n=>if n=wVersion then some (55,#[ptrV (s+5),ptrV (s+6)]) else (fun n=>if n=wPackage then some (53,#[ptrV (s+2),ptrV (s+3)]) else (fun _=>none) n) n) n) n) 12 4 D w11:=⟨_,H10.out.put hown hgrow hz⟩
 have H11:=Lib.hid h
 clear h hown hgrow hz hkey H10
 go_wp2_with fail
 refine (makeD_any _ _ _ _ w11).mono ?_
 rintro e w12 ⟨rfl,ho,ht,hb,hz⟩
 have hz0:=H11.out.size
 have H12:Hid (StM s w [(s+13,.func (.func 11) #[] #[]),(s+12,.func (.func 36) #[] #[ptrV s]),(s+11,.func (.func 11) #[] #[]),(s+10,.func (.func 33) #[] #[ptrV s]),(s+9,.func (.func 56) #[] #[ptrV (s+7)]),(s+8,.func (.func 31) #[] #[ptrV s]),(s+7,.bool true),(s+6,.func (.func 56) #[] #[ptrV (s+4)]),(s+5,.func (.func 31) #[] #[ptrV s]),(s+4,.bool false),(s+3,.func (.func 39) #[] #[]),(s+2,.func (.func 30) #[] #[ptrV s]),(s,ptrV xb)] (fun n=>if n=wNeeds then some (42,#[ptrV (s+10),ptrV (s+11)]) else (fun n=>if n=wYanked then some (55,#[ptrV (s+8),ptrV (s+9)]) else (fun n=>if n=wVersion then some (55,#[ptrV (s+5),ptrV (s+6)]) else (fun n=>if n=wPackage then some (53,#[ptrV (s+2),ptrV (s+3)]) else (fun _=>none) n) n) n) n) 14 4 D11 w12):=StM.call H11.out hb [(s+13,.func (.func 11) #[] #[]),(s+12,.func (.func 36) #[] #[ptrV s])] 2 (by omega) (fun p hp=>by
  rw [hz0] at ho ht
  rcases List.mem_cons.1 hp with hp | hp
  ·subst hp; exact ht
  ·obtain rfl:=List.mem_singleton.1 hp
   exact ho) (fun p hp=>by
  rw [hz0]
  rcases List.mem_cons.1 hp with hp | hp
  ·subst hp; show s+12≤s+13; omega
  ·obtain rfl:=List.mem_singleton.1 hp
   exact Nat.le_refl _) hz
 rw [hz0]
 clear hz0 hb hz ho ht H11
 have hkey:keyOf Tryd.prog 9 (.string ⟨#[98,97,110,115]⟩)=some (.string wBans):=by have:=strKey (s:=Ident.mk wBans) (by decide); rwa [mk_list] at this
 go_wp2_with (refine wpList_insert_size _ rfl _ _ _ 67 rfl 9 72 strKeyed Tryd.underlying67 fnElem (s+1) 4 D11 rfl H12.out.own (by unfold maxLen; omega) _ _ _ rfl rfl hkey (.held (.func (.func 42) #[] #[ptrV (s+12),ptrV (s+13)])) [] rfl ?_)
 intro w13 hown hgrow hz
 obtain ⟨D13,h⟩:∃ D,StM s w [(s+13,.func (.func 11) #[] #[]),(s+12,.func (.func 36) #[] #[ptrV s]),(s+11,.func (.func 11) #[] #[]),(s+10,.func (.func 33) #[] #[ptrV s]),(s+9,.func (.func 56) #[] #[ptrV (s+7)]),(s+8,.func (.func 31) #[] #[ptrV s]),(s+7,.bool true),(s+6,.func (.func 56) #[] #[ptrV (s+4)]),(s+5,.func (.func 31) #[] #[ptrV s]),(s+4,.bool false),(s+3,.func (.func 39) #[] #[]),(s+2,.func (.func 30) #[] #[ptrV s]),(s,ptrV xb)] (fun n=>if n=wBans then some (42,#[ptrV (s+12),ptrV (s+13)]) else (fun n=>if n=wNeeds then some (42,#[ptrV (s+10),ptrV (s+11)]) else (fun n=>if n=wYanked then some (55,#[ptrV (s+8),ptrV (s+9)]) else (fun n=>if n=wVersion then some (55,#[ptrV (s+5),ptrV (s+6)]) else (fun n=>if n=wPackage then some (53,#[ptrV (s+2),ptrV (s+3)]) else (fun _=>none) n) n) n) n) n) 14 5 D w13:=⟨_,H12.out.put hown hgrow hz⟩
 have H13:=Lib.hid h
 clear h hown hgrow hz hkey H12
 go_wp2
 go_ret
 have hB:Below s w w13:=H13.out.bel
 exact ⟨rfl,⟨⟨_,5,by omega,H13.out.own,H13.out.fits⟩,H13.out.ones (s,ptrV xb) (by repeat (first | exact List.mem_cons_self | apply List.mem_cons_of_mem)),H13.out.ones (s+2,.func (.func 30) #[] #[ptrV s]) (by repeat (first | exact List.mem_cons_self | apply List.mem_cons_of_mem)),H13.out.ones (s+3,.func (.func 39) #[] #[]) (by repeat (first | exact List.mem_cons_self | apply List.mem_cons_of_mem)),H13.out.ones (s+4,.bool false) (by repeat (first | exact List.mem_cons_self | apply List.mem_cons_of_mem)),H13.out.ones (s+5,.func (.func 31) #[] #[ptrV s]) (by repeat (first | exact List.mem_cons_self | apply List.mem_cons_of_mem)),H13.out.ones (s+6,.func (.func 56) #[] #[ptrV (s+4)]) (by repeat (first | exact List.mem_cons_self | apply List.mem_cons_of_mem)),H13.out.ones (s+7,.bool true) (by repeat (first | exact List.mem_cons_self | apply List.mem_cons_of_mem)),H13.out.ones (s+8,.func (.func 31) #[] #[ptrV s]) (by repeat (first | exact List.mem_cons_self | apply List.mem_cons_of_mem)),H13.out.ones (s+9,.func (.func 56) #[] #[ptrV (s+7)]) (by repeat (first | exact List.mem_cons_self | apply List.mem_cons_of_mem)),H13.out.ones (s+10,.func (.func 33) #[] #[ptrV s]) (by repeat (first | exact List.mem_cons_self | apply List.mem_cons_of_mem)),H13.out.ones (s+11,.func (.func 11) #[] #[]) (by repeat (first | exact List.mem_cons_self | apply List.mem_cons_of_mem)),H13.out.ones (s+12,.func (.func 36) #[] #[ptrV s]) (by repeat (first | exact List.mem_cons_self | apply List.mem_cons_of_mem)),H13.out.ones (s+13,.func (.func 11) #[] #[]) (by repeat (first | exact List.mem_cons_self | apply List.mem_cons_of_mem)),HT.out.keep (Range.Keep.of_below (by have:=HS.out; subst this; exact hB))⟩,hB,H13.out.size⟩
end Go.Proofs.YtgakcdcfblgagaaDoor.Sheet
namespace Go.Proofs.YtgakcdcfblgagaaDoor.Sheet
open Go.RowKit Num Ident Semver Fr
open KR (KRow AtV)
open Range (KeepS LtB From OpsTab)
open Model (PDep PRel PPack PPin MDep MVer MRel MPack MPin DepOk VerOk PinOk RelOk PackOk DRow SPRow RRow PRow)

def PostI (l:List UInt8) (w:World) (e:Ending) (w':World):Prop :=
 ∃ (A:Option Addr) (c:Nat) (xs:List MPack) (q:Int),e=.returned (.tuple #[.agg #[.slice A xs.length c],.int .i64 q,.int .i64 (((indexF l).1:Nat):Int)])∧xs.map MPack.p=(indexF l).2∧PRow w' (LtB w'.heap.size) A xs.length xs∧xs.length≤c∧c≤maxLen∧(A=none→c=0)∧((indexF l).1=0→q=0)∧Below w.heap.size w w'
theorem readIndex_any (A0:Option Addr) (n c0:Nat) (l:List UInt8) (w:World) (hr:Row w A0 n l) (hn:n≤16777216) (hc:n≤c0) (hm:c0≤maxLen) (ht:OpsTab w) (hgl:1<w.heap.size) :
  Calls Tryd.prog 9 #[.slice A0 n c0] w (PostI l w):=by
 have HR:=Lib.hid hr
 have hln:l.length=n:=hr.1
 have HRUN:=Lib.hid (index_run (b:=l) (by omega))
 have H0:Hid (Below w.heap.size w (w.alloc (.cells #[.slice none 0 0] 36))):=(Below.refl _ _).alloc (Nat.le_refl _) _
 have HXB:Hid (AtV (w.alloc (.cells #[.slice none 0 0] 36)) w.heap.size [.slice none 0 0]):=AtV.new w _ _
 have hz0:(w.alloc (.cells #[.slice none 0 0] 36)).heap.size=w.heap.size+1:=by simp
 have HT:=Lib.hid (ht.keep (Range.Keep.of_below H0.out))
 clear ht hr
 obtain ⟨xb,hxb⟩:∃ xb,w.heap.size=xb:=⟨_,rfl⟩
 have HE:=Lib.hid hxb
 go_enter Tryd.func9,Tryd.ntmps9
 go_wp2_with fail
 generalize w.alloc (.cells #[.slice none 0 0] 36)=w1 at H0 HXB HT hz0 ⊢
 rw [hxb] at HXB hz0 hgl
 try rw [hxb]
 refine (indexWords_any xb w1 HT.out (by omega)).mono ?_
 rintro e w2 ⟨rfl,hst,hb,hz2⟩
 have HST:=Lib.hid hst
 have HB2:=Lib.hid hb
 have HX2:=Lib.hid (HXB.out.kept hb HXB.out.lt)
 rw [hz0] at HST hz2 ⊢
 clear hst hb hxb
 have HB:Hid (Below w.heap.size w w2):=H0.out.trans (HB2.out.mono H0.out.size)
 obtain ⟨E,hE⟩:∃ E,(indexF l).1=E:=⟨_,rfl⟩
 have HEE:=Lib.hid hE
 obtain ⟨Bz,hBz⟩:∃ Bz,w2.heap.size=Bz:=⟨_,rfl⟩
 have HBZ:=Lib.hid hBz
 have hB14:xb+1+14=Bz:=by omega
 have HH0:Hid (HoldX (xb+1) xb Bz [] Bz w2 (fun _=>False) none 0 [] none [] none) :=
  ⟨HST.out,Tree.zero HX2.out (by omega) (by omega),rfl,(fun _=>rfl),by omega,by omega,by omega,Nat.le_refl _⟩
 have HREAD:Hid (Calls Tryd.prog 16 #[.slice A0 n c0,.map (some (xb+1+1))] w2 fun e w'=>∃ q:Int,e=.returned (.tuple #[.int .i64 q,.int .i64 E])∧(E=0→∃ M S A c ps o rs q,HoldX (xb+1) xb Bz (indexF l).2 M w' S A c ps o rs q)∧(∃ v,AtV w' xb [v])∧But (fun g=>g=xb∨Bz≤g) w2 w'):=by
  have hrun:=HRUN.out
  rcases Nat.eq_zero_or_pos n with h0 | h0
  ·have hnil:l=[]:=List.eq_nil_of_length_eq_zero (by omega)
   subst h0
   refine (read_zero A0 c0 (xb+1+1) w2).mono ?_
   rintro e w' ⟨rfl,rfl⟩
   have hE0:E=0:=by rw [← hE,hnil]; rfl
   refine ⟨0,by rw [hE0]; rfl,fun _=>⟨Bz,(fun _=>False),none,0,[],none,[],none,?_⟩,⟨_,HX2.out⟩,But.refl _ _⟩
   rw [hnil]; exact HH0.out
  ·obtain ⟨b,o,rfl,hbl,_⟩:=HR.out.2.2 h0
   have hr3:=HR.out.kept HB.out
   have hbx:b<xb:=by have:=HE.out; omega
   refine (read_lines (keepX (xb+1) xb Bz b) [] Bz o n c0 l w2 hr3 hn hc hm ⟨_,_,_,_,_,_,_,HH0.out⟩ (SmallX.none_ 0) (by rintro (h | h) <;> omega) (by omega)).mono ?_
   rintro e w' ⟨q,rfl,hq,hbt,hv⟩
   have h1:(runT stepX [] l).1=E:=by rw [← hE,hrun]
   refine ⟨q,by rw [h1],fun h=>?_,hv,hbt⟩
   obtain ⟨_,S,A,c,ps,o',rs,q',hh⟩:=hq (by rw [h1,h])
   have h2:(indexF l).2=(runT stepX [] l).2:=by rw [hrun]; exact if_pos (by rw [h1,h])
   exact ⟨_,S,A,c,ps,o',rs,q',by rw [h2]; exact hh⟩
 have HNIL:Hid (E≠0→(indexF l).2=[]):=fun h=>by
  have h1:(runT stepX [] l).1=E:=by rw [← hE,HRUN.out]
  rw [HRUN.out]; exact if_neg (by rw [h1]; exact h)
 have hBab:xb<Bz:=by omega
 clear hE hBz
 go_wp2_with fail
 refine HREAD.out.mono ?_
 rintro e w4 ⟨q,rfl,h0,⟨v,hv⟩,hbt⟩
 have HH:=Lib.hid h0
 have HV:=Lib.hid hv
 have HBT:=Lib.hid hbt
 clear h0 hbt
 have f0:=hv.fr 0
 have HBEL:Hid (Below w.heap.size w w4):=HB.out.trans (HBT.out.below (B:=w.heap.size) (fun k e=>by have:=HE.out; rcases e with e | e <;> omega) HB.out.size)
 by_cases hE0:E=0
 ·have hEb:((E:Int) != 0)=false:=by rw [hE0]; rfl
  obtain ⟨M,S,A,c,ps,o,rs,q',hh⟩:=HH.out hE0
  have HHH:=Lib.hid hh
  have HE0:=Lib.hid hE0
  obtain ⟨xs,hxs⟩:∃ xs,ps ++ o.toList=xs:=⟨_,rfl⟩
  have HXS:=Lib.hid hxs
  have HCE:Hid (AtV w4 xb [.slice A xs.length c]):=by have:=hh.tree.cell; rwa [hxs] at this
  have c0':=HCE.out.at_ 0 _ rfl
  clear hh hE0 hv hxs
  go_wp2
  have HK:Hid (But (fun g=>g=xb) w4 (w4.setCell ⟨xb,0,none⟩ (.slice A xs.length c))):=but_one w4 xb 0 _
  have HV5:Hid (AtV (w4.setCell ⟨xb,0,none⟩ (.slice A xs.length c)) xb [.slice A xs.length c]):=atv_one HCE.out _
  generalize w4.setCell ⟨xb,0,none⟩ (.slice A xs.length c)=w5 at HK HV5 ⊢
  clear c0' f0
  have c0':=HV5.out.at_ 0 _ rfl
  have ht4:=HHH.out.tree
  have hown:w5.ownsRow Bz 41 2 (.slice A xs.length c) xs.length (xs.flatMap MPack.vals):=by
   have:=own_but ht4.own HK.out (fun g e d=>by have:=(ht4.own.lt g e).1; omega)
   rwa [HXS.out] at this
  have hcaps:=own_caps hown
  have hrow:PRow w5 (LtB w5.heap.size) A xs.length xs:=by
   have hz:=HK.out.size
   have hle:=ht4.le
   refine ⟨krow_own Model.pack_len hown rfl fun g e=>(hown.lt g e).2,fun p hp=>?_⟩
   rw [← HXS.out] at hp
   rcases List.mem_append.1 hp with hp | hp
   ·exact PackOk.mono ((ht4.ini p hp).keep (keepS_but HK.out fun g hg e=>by have:=(ht4.lt g hg).1; omega)) fun g hg _=>by have:=(ht4.lt g hg).2; show g<_; omega
   ·cases o with
    | none=>cases hp
    | some p' =>
     have e:p=p':=by simpa using hp
     subst e
     have hl:=ht4.lst p rfl
     exact (hl.but HK.out (fun g hg e=>by have:=(ht4.lt g hg).1; omega) (fun g hg e=>by have:=(hl.from g hg).1; omega) M (Nat.le_refl _)).ok (fun g hg=>by have:=(ht4.lt g hg).2; show g<_; omega) fun g hg=>by have:=(hl.from g hg).2; show g<_; omega
  have hbel:Below w.heap.size w w5:=HBEL.out.trans (HK.out.below (B:=w.heap.size) (fun k e=>by have:=HE.out; omega) HBEL.out.size)
  have his:xs.map MPack.p=(indexF l).2:=by rw [← HXS.out]; exact HHH.out.is
  have hpost:PostI l w (.returned (.tuple #[.agg #[.slice A xs.length c],.int .i64 0,.int .i64 0])) w5:=⟨A,c,xs,0,by rw [HEE.out,HE0.out]; rfl,his,hrow,hcaps.1,hcaps.2.1,hcaps.2.2,(fun _=>rfl),hbel⟩
  exact bodyPost_ret (v:=.tuple #[.agg #[.slice A xs.length c],.int .i64 0,.int .i64 0]) (by simp [results,Tryd.results9,go_sem,c0']) rfl hpost
 ·have hEb:((E:Int) != 0)=true:=by simp [hE0]
  have c0':=hv.at_ 0 _ rfl
  have HE0:=Lib.hid hE0
  clear hE0 hv
  go_wp2
  have HK:Hid (But (fun g=>g=xb) w4 (w4.setCell ⟨xb,0,none⟩ (.slice none 0 0))):=but_one w4 xb 0 _
  have HV5:Hid (AtV (w4.setCell ⟨xb,0,none⟩ (.slice none 0 0)) xb [.slice none 0 0]):=atv_one HV.out _
  generalize w4.setCell ⟨xb,0,none⟩ (.slice none 0 0)=w5 at HK HV5 ⊢
  clear c0' f0
  have c0':=HV5.out.at_ 0 _ rfl
  have hbel:Below w.heap.size w w5:=HBEL.out.trans (HK.out.below (B:=w.heap.size) (fun k e=>by have:=HE.out; omega) HBEL.out.size)
  have hpost:PostI l w (.returned (.tuple #[.agg #[.slice none 0 0],.int .i64 q,.int .i64 E])) w5:=⟨none,0,[],q,by rw [HEE.out]; rfl,(HNIL.out HE0.out).symm,⟨KRow.none_ _ _ _,fun d hd=>by cases hd⟩,Nat.le_refl _,by unfold maxLen; omega,(fun _=>rfl),(fun h=>absurd (HEE.out.symm.trans h) HE0.out),hbel⟩
  exact bodyPost_ret (v:=.tuple #[.agg #[.slice none 0 0],.int .i64 q,.int .i64 E]) (by simp [results,Tryd.results9,go_sem,c0']) rfl hpost
end Go.Proofs.YtgakcdcfblgagaaDoor.Sheet
namespace Go.Proofs.YtgakcdcfblgagaaDoor.Sheet
open Go.RowKit Num Ident Semver Fr
open KR (KRow AtV)
open Range (KeepS LtB From OpsTab)
open Model (PDep PRel PPack PPin MDep MVer MRel MPack MPin DepOk VerOk PinOk RelOk PackOk DRow SPRow RRow PRow)

def awT:List UInt8:=[112,97,99,107,97,103,101,32,97,10,118,101,114,115,105,111,110,32,49,46,48,46,48,10,110,101,101,100,115,32,98,32,94,49,46,48,46,48,10]
theorem aw_ok:(indexF awT).1=0:=by decide +kernel
theorem aw_shape:(indexF awT).2.map (fun p=>p.rels.map fun r=>r.needs.length)=[[1]]:=by decide +kernel
theorem aw_one {xs:List MPack} (h:xs.map MPack.p=(indexF awT).2):∃ p r,xs=[p]∧p.rels=[r]∧r.needs.length=1:=by
 have e:(xs.map MPack.p).map (fun p=>p.rels.map fun r=>r.needs.length)=[[1]]:=by rw [h]; exact aw_shape
 rw [List.map_map] at e
 match xs,e with
 | [p],e =>
  have e:(p.rels.map MRel.p).map (fun r=>r.needs.length)=[1]:=by simpa [MPack.p] using e
  rw [List.map_map] at e
  match hr:p.rels,e with
  | [],e=>simp at e
  | [r],e=>exact ⟨p,r,rfl,hr,by simpa [MRel.p] using e⟩
  | _ :: _ :: _,e=>simp at e
 | [],e=>simp at e
 | _ :: _ :: _,e=>simp at e
theorem awake10_any (w:World) (ht:OpsTab w) (hgl:1<w.heap.size):Calls Tryd.prog 4 #[] w fun e w'=>e=.returned (.bool true)∧Below w.heap.size w w':=by
 have kc:=fun (w:World) (C:Array Value) (n c:Nat)=>Lib.run_convert_bytes_const (P:=Tryd.prog) w 22 5 C n c Tryd.underlying22 Tryd.underlying5
 have hcon:∀ (C:Array Value) (fr:Nat × Nat),C.toList=awT.map (fun b=>Value.int .u8 b.toNat)→Calls Tryd.prog 9 #[.slice (some ⟨w.heap.size,0,none⟩) 39 39] (w.alloc (.cells C 5 fr)) fun e w'=>∃ (A:Option Addr) (c:Nat) (xs:List MPack) (q:Int),e=.returned (.tuple #[.agg #[.slice A xs.length c],.int .i64 q,.int .i64 (((indexF awT).1:Nat):Int)])∧xs.map MPack.p=(indexF awT).2∧PRow w' (LtB w'.heap.size) A xs.length xs∧((indexF awT).1=0→q=0)∧Below w.heap.size w w':=fun C fr hC=>by
  have hb1:Below w.heap.size w (w.alloc (.cells C 5 fr)):=(Below.refl _ _).alloc (Nat.le_refl _) _
  have hr:Row (w.alloc (.cells C 5 fr)) (some ⟨w.heap.size,0,none⟩) 39 awT:=Row.new w awT C 5 _ hC (by decide)
  refine (readIndex_any (some ⟨w.heap.size,0,none⟩) 39 39 awT _ hr (by omega) (Nat.le_refl _) (by decide) (ht.keep (Range.Keep.of_below hb1)) (by have:=hb1.size; omega)).mono ?_
  rintro e w2 ⟨A,c,xs,q,he,his,hrow,hc1,hc2,hc3,hq,hb⟩
  exact ⟨A,c,xs,q,he,his,hrow,hq,hb1.trans (hb.mono hb1.size)⟩
 go_enter Tryd.func4,Tryd.ntmps4
 go_wp2_with fail
 refine Calls.mono (hcon _ _ ?hC) ?_
 case hC=>rfl
 rintro e w2 ⟨A,c,xs,q,rfl,his,hrow,hq,hb⟩
 obtain ⟨p,r,rfl,hp,hr⟩:=aw_one his
 obtain rfl:=hq aw_ok
 rw [aw_ok]
 have HB2:=Lib.hid hb
 obtain ⟨b,o,rfl,_,hbl,hcs⟩:=hrow.row.at_ (show 0<1 by omega)
 have hpok:=hrow.ok p (List.mem_singleton.2 rfl)
 have hrr:=hpok.rels.row
 have hd1:w2.cell? ⟨b,o+0 * 2+1,none⟩=some (.slice p.R p.rels.length p.rc):=hcs 1 _ rfl
 rw [hp] at hrr hd1
 obtain ⟨b2,o2,hR,_,hbl2,hcs2⟩:=hrr.at_ (show 0<1 by decide)
 have hd2:w2.cell? ⟨b2,o2+0 * 8+6,none⟩=some (.slice r.N r.needs.length r.nc):=hcs2 6 _ rfl
 rw [hR] at hd1
 rw [hr] at hd2
 clear hcs hcs2 hrr hpok hrow hb his hq hcon kc
 simp only [List.length_singleton] at hd1 ⊢
 go_wp2_with fail
 go_ret
 exact ⟨rfl,HB2.out.alloc HB2.out.size _⟩
end Go.Proofs.YtgakcdcfblgagaaDoor.Sheet
