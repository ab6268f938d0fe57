/-
  What the theorem of the last text needs of these: MoRels, MoIsPlain, MoCopyN, MoPinOk, MoRels2, MoArgs. Conditions: as each theorem states.
-/
import Derived.Test.YtgakcdcfblgagaaGreatDoorRoA1
import Derived.Test.YtgakcdcfblgagaaGreatDoorRoA8
import Derived.Test.YtgakcdcfblgagaaGreatDoorRoA11
import Derived.Test.YtgakcdcfblgagaaGreatDoorRoA13
import Derived.Test.YtgakcdcfblgagaaGreatDoorRoA21
import Derived.Test.YtgakcdcfblgagaaGreatDoorRoA24
import Derived.Test.YtgakcdcfblgagaaGreatDoorRoA25
import Derived.Test.YtgakcdcfblgagaaGreatDoorRoA27
import Derived.Test.YtgakcdcfblgagaaGreatDoorRoA28
import Derived.Shelf.Abstract
import Derived.StillTailTactics
set_option maxRecDepth 100000
set_option maxHeartbeats 25600000
namespace Go.Proofs.YtgakcdcfblgagaaGreatDoor.Model
open Go.RowKit Num Ident Semver Fr
open Range (Rng noRng RV KeepS LtB LenOk goodR wt)
open KR (KRow AtV)
open Name (isName)
open Nrm (hasR inV)

theorem good_vtext {v:Ver} (h:goodV v=true):(vtext v).length≤24144:=by
 unfold goodV at h
 rw [Bool.and_eq_true,Bool.and_eq_true] at h
 obtain ⟨h1,h2,h3⟩:=h
 unfold heldB maxField at h1
 have h1:=of_decide_eq_true h1
 have a:=dec_le v.a (by omega)
 have b:=dec_le v.b (by omega)
 have c:=dec_le v.c (by omega)
 have s1:shortB v.pre=true:=by
  rw [shortB_iff]
  have:=goodFrom_bound v.pre 0 h2
  refine ⟨?_,fun x hx=>Nat.le_trans (this.2 x hx) (by omega)⟩
  by_cases hn:v.pre=[]
  ·rw [hn]; exact Nat.zero_le _
  ·have:=this.1 hn; omega
 have s2:shortB v.build=true:=by
  rw [shortB_iff]
  have:=goodFrom_bound v.build 0 h3
  refine ⟨?_,fun x hx=>Nat.le_trans (this.2 x hx) (by omega)⟩
  by_cases hn:v.build=[]
  ·rw [hn]; exact Nat.zero_le _
  ·have:=this.1 hn; omega
 have p:=rowText_le (m:=45) s1
 have q:=rowText_le (m:=43) s2
 unfold vtext
 simp only [List.length_append,List.length_singleton]
 omega
theorem good_short2 {v:Ver} (h:goodV v=true):shortB v.pre=true∧shortB v.build=true:=by
 unfold goodV at h
 rw [Bool.and_eq_true,Bool.and_eq_true] at h
 obtain ⟨_,h2,h3⟩:=h
 have b1:=goodFrom_bound _ _ h2
 have b2:=goodFrom_bound _ _ h3
 refine ⟨(shortB_iff _).2 ⟨?_,fun x hx=>Nat.le_trans (b1.2 x hx) (by omega)⟩,(shortB_iff _).2 ⟨?_,fun x hx=>Nat.le_trans (b2.2 x hx) (by omega)⟩⟩
 ·by_cases e:v.pre=[]
  ·rw [e]; simp
  ·have:=b1.1 e; omega
 ·by_cases e:v.build=[]
  ·rw [e]; simp
  ·have:=b2.1 e; omega
theorem vtext_inj {u v:Ver} (hu:goodV u=true) (hv:goodV v=true) (h:vtext u=vtext v):u=v:=by
 have a:=text_read hu
 rw [h,text_read hv] at a
 injection a with _ a
 injection a with _ a
 exact a.symm
def relK (x:List (List UInt8)) (pn:List UInt8) (r:PRel):Int × Int:=if goodV r.v=false then (-1,3) else if vtext r.v ∈ x then (-1,6) else out2 (depsF pn r)
theorem relK_ver {x:List (List UInt8)} {pn:List UInt8} {r:PRel} (h:goodV r.v=false):relK x pn r=(-1,3):=by unfold relK; rw [if_pos h]
theorem relK_there {x:List (List UInt8)} {pn:List UInt8} {r:PRel} (h:goodV r.v=true) (g:vtext r.v ∈ x):relK x pn r=(-1,6):=by unfold relK; rw [if_neg (by rw [h]; decide),if_pos g]
theorem relK_deps {x:List (List UInt8)} {pn:List UInt8} {r:PRel} (h:goodV r.v=true) (g:vtext r.v ∉ x):relK x pn r=out2 (depsF pn r):=by unfold relK; rw [if_neg (by rw [h]; decide),if_neg g]
structure RelPost1 (x:List (List UInt8)) (s:List UInt8) (mb db:Nat) (q:Int × Int) (w:World) (e:Ending) (w':World):Prop where
 out:e=.returned (.int .i64 q.2)
 dep:AtV w' db [.int .i64 q.1]
 seen:q.2=0→SeenAt w' mb (x ++ [s])
 but:But (fun b=>b=mb∨b=db) w w'
theorem rel1_any (r:MRel) (p:MPack) (sb pb db mb:Nat) (x:List (List UInt8)) (B:Nat) (w:World) (hr:RelOk w (LtB B) r) (hf:FewRel r) (hs:AtV w sb [.map (some mb)]) (hp:AtV w pb [.string (Ident.mk p.name),.slice p.R p.rels.length p.rc]) (hd:AtV w db [.int .i64 (-1)]) (hx:SeenAt w mb x) (hxl:x.length≤1000)
  (hne:sb≠mb∧sb≠db∧pb≠mb∧pb≠db∧db≠mb) (hml:B≤mb∧B≤db) (hB:B≤w.heap.size) (ht:Tab w) :
  Calls Tryz.prog 163 #[r.agg,.pointer (some ⟨sb,0,none⟩),.pointer (some ⟨pb,0,none⟩),.pointer (some ⟨db,0,none⟩)] w (RelPost1 x (vtext r.ver.v) mb db (relK x p.name r.p) w):=by
 have HF:=Lib.hid hf
 have HNE:=Lib.hid hne
 have HML:=Lib.hid hml
 have HE1:=Lib.hid (fun h=>relK_ver (x:=x) (pn:=p.name) (r:=r.p) h)
 have HE2:=Lib.hid (fun h g=>relK_there (x:=x) (pn:=p.name) (r:=r.p) h g)
 have HE3:=Lib.hid (fun h g=>relK_deps (x:=x) (pn:=p.name) (r:=r.p) h g)
 obtain ⟨W0,hW,hav,hb0⟩:∃ W,W=w.alloc (.cells #[r.ver.v.a,r.ver.v.b,r.ver.v.c,.slice r.ver.A r.ver.v.pre.length r.ver.c,.slice r.ver.B r.ver.v.build.length r.ver.d,.bool r.yanked,.slice r.N r.needs.length r.nc,.slice r.B r.bans.length r.bc] 46)∧AtV W w.heap.size [.int .u64 r.ver.v.a,.int .u64 r.ver.v.b,.int .u64 r.ver.v.c,.slice r.ver.A r.ver.v.pre.length r.ver.c,.slice r.ver.B r.ver.v.build.length r.ver.d,.bool r.yanked,.slice r.N r.needs.length r.nc,.slice r.B r.bans.length r.bc]∧Below w.heap.size w W:=⟨_,rfl,AtV.new w _ _,(Below.refl _ _).alloc (Nat.le_refl _) _⟩
 have HAV:=Lib.hid hav
 have HB0:Hid (But (fun b=>b=mb∨b=db) w W0):=But.of_same hb0 _
 have HR0:=Lib.hid (hr.keep (KeepS.of_below (S:=LtB B) hb0))
 have HS0:=Lib.hid (hs.kept hb0 hs.lt)
 have HP0:=Lib.hid (hp.kept hb0 hp.lt)
 have HD0:=Lib.hid (hd.kept hb0 hd.lt)
 have HX0:=Lib.hid (hx.kept hb0 hx.lt)
 have HT0:=Lib.hid (ht.kept hb0)
 have HL0:Hid (B≤W0.heap.size):=Nat.le_trans hB hb0.size
 have HQ0:Hid (¬ (w.heap.size=mb∨w.heap.size=db)):=fun h=>by have a:=hx.lt; have b:=hd.lt; omega
 clear hav hb0 hr hs hp hd hx hf hne hml ht
 obtain ⟨bd,hbd⟩:∃ bd,w.heap.size=bd:=⟨_,rfl⟩
 unfold MRel.agg
 go_enter Tryz.func163,Tryz.ntmps163
 go_upto_region 1 with (fail)
 rw [← hW]
 clear hW
 rw [hbd] at HAV HQ0
 clear hbd hB
 have c0:=HAV.out.at_ 0 _ rfl
 have c1:=HAV.out.at_ 1 _ rfl
 have c2:=HAV.out.at_ 2 _ rfl
 have c3:=HAV.out.at_ 3 _ rfl
 have c4:=HAV.out.at_ 4 _ rfl
 go_wp2_with fail
 refine (vgood_any r.ver.v r.ver.A r.ver.c r.ver.B r.ver.d _ HR0.out.ver.pre HR0.out.ver.build HR0.out.ver.fit.pre HR0.out.ver.fit.build HR0.out.ver.fit.pres HR0.out.ver.fit.builds).mono ?_
 rintro e W1 ⟨rfl,hb⟩
 have HAV1:=Lib.hid (HAV.out.kept hb HAV.out.lt)
 have HB1:=Lib.hid (HB0.out.then_same hb)
 have HR1:=Lib.hid (HR0.out.keep (KeepS.of_below (S:=LtB B) hb))
 have HS1:=Lib.hid (HS0.out.kept hb HS0.out.lt)
 have HP1:=Lib.hid (HP0.out.kept hb HP0.out.lt)
 have HD1:=Lib.hid (HD0.out.kept hb HD0.out.lt)
 have HX1:=Lib.hid (HX0.out.kept hb HX0.out.lt)
 have HT1:=Lib.hid (HT0.out.kept hb)
 have HL1:Hid (B≤W1.heap.size):=Nat.le_trans HL0.out hb.size
 clear hb c0 c1 c2 c3 c4
 cases hg:goodV r.ver.v
 ·have HZ:=Lib.hid (HE1.out hg)
  clear hg
  go_wp2
  go_ret
  exact ⟨by rw [HZ.out]; rfl,by rw [HZ.out]; exact HD1.out,(fun h=>by rw [HZ.out] at h; cases h),HB1.out⟩
 ·have HG:=Lib.hid hg
  clear hg
  have c0:=HAV1.out.at_ 0 _ rfl
  have c1:=HAV1.out.at_ 1 _ rfl
  have c2:=HAV1.out.at_ 2 _ rfl
  have c3:=HAV1.out.at_ 3 _ rfl
  have c4:=HAV1.out.at_ 4 _ rfl
  have s0:=HS1.out.at_ 0 _ rfl
  have hsl:sb<W1.heap.size:=HS1.out.lt
  have hal:bd<W1.heap.size:=HAV1.out.lt
  go_wp2
  have HH0:Hid (Below W1.heap.size W1 W1.drew):=(Below.refl _ _).drew
  refine wp_region_held_drew (S:=fun w'=>But (fun b=>b=mb∨b=db) W1 w') (by kernel_rfl) (But.of_same HH0.out _) (fun hHeld=>?_)
  generalize W1.drew=wd at HH0 hHeld ⊢
  have hsn:¬ (sb=mb∨sb=db):=fun h=>by have:=HNE.out; omega
  have hbn:¬ (bd=mb∨bd=db):=HQ0.out
  refine tk 0 rfl (.map (some mb)) ?_ (hv:=fun w' hS'=>by (have z0:=(hS'.cell (b:=sb) (o:=0) hsl hsn).trans s0); go_simp)
  refine tk 1 rfl (.pointer (some ⟨bd,0,none⟩)) ?_
  refine tk 2 rfl (.agg #[r.ver.v.a,r.ver.v.b,r.ver.v.c,.slice r.ver.A r.ver.v.pre.length r.ver.c,.slice r.ver.B r.ver.v.build.length r.ver.d]) ?_ (hv:=fun w' hS'=>by ((have z0:=(hS'.cell (b:=bd) (o:=0) hal hbn).trans c0); (have z1:=(hS'.cell (b:=bd) (o:=1) hal hbn).trans c1); (have z2:=(hS'.cell (b:=bd) (o:=2) hal hbn).trans c2); (have z3:=(hS'.cell (b:=bd) (o:=3) hal hbn).trans c3); (have z4:=(hS'.cell (b:=bd) (o:=4) hal hbn).trans c4)); go_simp)
  refine cl 3 rfl fun K hK=>?_
  go_simp
  refine (vtext_any r.ver.v r.ver.A r.ver.c r.ver.B r.ver.d _ HR1.out.ver.fit.a HR1.out.ver.fit.b HR1.out.ver.fit.c (HR1.out.ver.pre.kept HH0.out) (HR1.out.ver.build.kept HH0.out) HR1.out.ver.cp HR1.out.ver.cb (good_short2 HG.out).1 (good_short2 HG.out).2 (HT1.out.kept HH0.out)).mono ?_
  rintro e W2 ⟨rfl,hb⟩
  have HH2:=Lib.hid (HH0.out.trans (hb.mono HH0.out.size))
  refine hK.out _ _ (But.of_same HH2.out _) (fun hHeld2=>?_)
  clear hK K hb
  try simp only [Act.put,p1,p2,p3]
  have HX2:=Lib.hid (HX1.out.kept HH2.out HX1.out.lt)
  have HTL:=Lib.hid (good_vtext HG.out)
  refine cl 4 rfl fun K hK=>?_
  go_simp
  refine (again_any mb x (Ident.mk (vtext r.ver.v)) _ HX2.out (by rw [mk_size]; have:=HTL.out; unfold maxLen; omega) (by omega)).mono ?_
  rw [mk_list]
  rintro e W3 ⟨rfl,hx3,hb⟩
  have HX3:=Lib.hid hx3
  have HH3:Hid (But (fun b=>b=mb∨b=db) W1 W3):=(But.of_same HH2.out _).trans hb fun i e=>.inl (.inl e)
  refine hK.out _ _ HH3.out (fun hHeld3=>?_)
  have HM23:=Lib.hid hb
  clear hK K hb hx3
  try simp only [Act.put,p1,p2,p3]
  have HIN:Hid (decide (vtext r.ver.v ∈ x)=decide (vtext r.ver.v ∈ x)):=rfl
  obtain ⟨b,hb⟩:∃ b,decide (vtext r.ver.v ∈ x)=b:=⟨_,rfl⟩
  have HIN:=Lib.hid hb
  rw [hb]
  clear hb
  refine tk 5 rfl (.bool b) ?_
  refine wpAnyH_done (by kernel_rfl) ?_ _
  have HB3:=Lib.hid (HB1.out.then_ HH3.out)
  have HK3:Hid (KeepS (LtB B) W1 W3):=keepS_but HH3.out fun g hg e=>by have:=HML.out; have hg:g<B:=hg; omega
  have HAV3:=Lib.hid (HAV1.out.but HH3.out hbn)
  have HP3:=Lib.hid (HP1.out.but HH3.out (fun e=>by have:=HNE.out; omega))
  have HD3:=Lib.hid (HD1.out.but (W':=W3) ((But.of_same HH2.out (fun b=>b=mb)).trans HM23.out fun i e=>.inl e) (fun e=>by have:=HNE.out; omega))
  have HR3:=Lib.hid (HR1.out.keep HK3.out)
  have HL3:Hid (B≤W3.heap.size):=Nat.le_trans HL1.out HH3.out.size
  clear c0 c1 c2 c3 c4 s0 hsl hal hsn hbn
  cases b
  ·have HZ:=Lib.hid (HE3.out HG.out (of_decide_eq_false HIN.out))
   have c0:=HAV3.out.at_ 0 _ rfl
   have c1:=HAV3.out.at_ 1 _ rfl
   have c2:=HAV3.out.at_ 2 _ rfl
   have c3:=HAV3.out.at_ 3 _ rfl
   have c4:=HAV3.out.at_ 4 _ rfl
   have c5:=HAV3.out.at_ 5 _ rfl
   have c6:=HAV3.out.at_ 6 _ rfl
   have c7:=HAV3.out.at_ 7 _ rfl
   have hpb0:=HP3.out.at_ 0 _ rfl
   have hdl:db<W3.heap.size:=HD3.out.lt
   go_wp2_with fail
   refine (depsFault_any p.name r B _ HR3.out HF.out.2.2.1 HF.out.2.2.2 HG.out HL3.out).mono ?_
   rintro e W4 ⟨rfl,hb⟩
   have HB4:=Lib.hid (HB3.out.then_same hb)
   have HD4:=Lib.hid (HD3.out.kept hb HD3.out.lt)
   have HX4:=Lib.hid (HX3.out.kept hb HX3.out.lt)
   clear hb c0 c1 c2 c3 c4 c5 c6 c7 hpb0 hdl
   obtain ⟨q,hq⟩:∃ q,out2 (depsF p.name r.p)=q:=⟨_,rfl⟩
   have HQ:=Lib.hid (HZ.out.trans hq)
   unfold out2V
   rw [hq]
   clear hq HZ
   have d0:=HD4.out.at_ 0 _ rfl
   have hdl:db<W4.heap.size:=HD4.out.lt
   have hdf:=HD4.out.fr
   go_wp2
   go_ret
   refine ⟨by rw [HQ.out]; rfl,by rw [HQ.out]; exact HD4.out.set 0 (.int .i64 q.1) (by simp),fun _=>HX4.out.but ((But.refl (fun k=>k=db) _).set _ _ _ (.inl rfl)) (fun e=>by have:=HNE.out; omega),HB4.out.set _ _ _ (.inl (.inr rfl))⟩
  ·have HZ:=Lib.hid (HE2.out HG.out (of_decide_eq_true HIN.out))
   go_wp2
   go_ret
   exact ⟨by rw [HZ.out]; rfl,by rw [HZ.out]; exact HD3.out,(fun h=>by rw [HZ.out] at h; cases h),HB3.out⟩
end Go.Proofs.YtgakcdcfblgagaaGreatDoor.Model
namespace Go.Proofs.YtgakcdcfblgagaaGreatDoor.Model
open Go.RowKit Num Ident Semver Fr
open Range (Rng noRng RV KeepS LtB)
open KR (KRow AtV)
open Prec (fullV fullV_ordr)
theorem cb_lt:∀ a b:List UInt8,Lib.compareBytes a b<0↔a<b
 | [],[]=>by simp [Lib.compareBytes]
 | [],b :: lb=>by simp [Lib.compareBytes]
 | a :: la,[]=>by simp [Lib.compareBytes]
 | a :: la,b :: lb=>by
  unfold Lib.compareBytes
  rw [List.cons_lt_cons_iff]
  by_cases h1:a<b
  ·simp [h1]
  ·by_cases h2:b<a
   ·have h3:a≠b:=fun e=>by rw [e] at h2; exact absurd h2 (UInt8.lt_irrefl b)
    simp [h1,h2,h3]
   ·have h3:a=b:=UInt8.le_antisymm (UInt8.not_lt.1 h2) (UInt8.not_lt.1 h1)
    simp [h3,cb_lt la lb]
end Go.Proofs.YtgakcdcfblgagaaGreatDoor.Model
namespace Go.Proofs.YtgakcdcfblgagaaGreatDoor.Copy
open Go.RowKit Num Ident Semver Fr
open Range (Rng noRng RV Lies RgRow CellsAt KeepS LtB InS FitV)
open KR (KRow AtV)
open Model (MDep MVer MRel MPack DepOk VerOk RelOk PackOk DRow RRow PRow FewD FewRel FewX SlOk)
theorem fineDep:Fine DepOk:=⟨fun h k=>h.keep k,fun h k=>h.mono k⟩
theorem copiedDep_list (g:Nat) (cb:Array Value) (eg:∀ args w,(callFunc g args).run Tryz.prog w=.ok (.enter g args) w) (A:Option Addr) (n c:Nat) (l:List MDep) (S:Nat→Prop) (B:Nat) (w:World) (hr:KRow MDep.vals 8 w S A n l) (hn:n≤1000) (hB:B≤w.heap.size)
  (hcall:∀ (W:World) (x:MDep),x ∈ l→Below w.heap.size w W→Calls Tryz.prog g (#[x.agg] ++ cb) W (OnePost MDep.agg MDep.p DepOk W B x)) :
  Calls Tryz.prog 100 #[.slice A n c,.func (.func g) #[] cb] w (CopyPost MDep.vals 8 67 MDep.p DepOk w B l):=by
 have HC:=Lib.hid hcall
 have HR:=Lib.hid hr
 have HLB:=Lib.hid hB
 have HL:Hid (l.length=n):=hr.1
 clear hr hcall hB
 go_enter Tryz.func100,Tryz.ntmps100
 go_wp2_with fail
 refine (cloneDep_any A n c l S w HR.out (by omega) (by unfold maxLen; omega)).mono ?_
 rintro e W0 ⟨v0,rfl,ho,hb⟩
 have hl:=HL.out
 have H0:Hid (Copied MDep.vals 8 67 MDep.p DepOk w B l 0 v0 l W0):=⟨rfl,by rw [hl]; exact ho,fun j hj=>absurd hj (Nat.not_lt_zero j),fun _ _=>rfl,hb⟩
 obtain ⟨A0,c0,rfl,_⟩:=own_slice ho
 clear ho hb HR hl
 go_wp2
 go_loopw [11] (fun y W=>∃ (k:Nat) (cs:List MDep),k≤n∧y=.int .i64 k∧Hid (Copied MDep.vals 8 67 MDep.p DepOk w B l k (.slice A0 n c0) cs W)) (fun y _=>n - (intOf y).toNat)
 case atStart=>exact ⟨0,l,Nat.zero_le _,rfl,H0.out⟩
 case round =>
  rename World=>wk
  obtain ⟨k,cs,hk,rfl,HI⟩:=hrel
  by_cases hlt:k<n
  ·have hkl:k<l.length:=by rw [HL.out]; exact hlt
   obtain ⟨cb0,cc,hv,_,hg0,hgl,hgf,hcl⟩:=HI.out.cells Model.dep_len hkl
   rw [HI.out.rest k (Nat.le_refl _)] at hcl
   have hmem:l.getD k default ∈ l:=by rw [List.getD_eq_getElem?_getD,List.getElem?_eq_getElem hkl]; exact List.getElem_mem _
   rw [HL.out] at hv
   injection hv with e1 _ e2
   subst e1
   subst e2
   have hcl2:=HC.out wk _ hmem HI.out.bel
   have HPK:Hid (∀ W' y,Below wk.heap.size wk W'→MDep.p y=MDep.p (l.getD k default)→DepOk W' (Aside wk B) y→Copied MDep.vals 8 67 MDep.p DepOk w B l (k+1) (.slice (some ⟨cb0,0,none⟩) n c0) (cs.set k y) (setAll W' cb0 (k * 8) (MDep.vals y))):=fun W' y hb hp hy=>by
    have h1:=HI.out
    rw [← HL.out] at h1 ⊢
    exact h1.next (by decide) Model.dep_len fineDep HLB.out hkl hb hp hy
   have HI2:Hid (∀ W',Below wk.heap.size wk W'→cb0<W'.heap.size∧(∀ o,W'.frozen? ⟨cb0,o,none⟩=false)∧∀ i u,(MDep.vals (l.getD k default))[i]?=some u→W'.cell? ⟨cb0,k * 8+i,none⟩=some u):=fun W' hb =>
    ⟨Nat.lt_of_lt_of_le hgl hb.size,fun o=>(hb.frozen (p:=⟨cb0,o,none⟩) hgl).trans (hgf o),fun i u hu=>(hb.cell (p:=⟨cb0,k * 8+i,none⟩) hgl).trans (hcl i u hu)⟩
   generalize l.getD k default=x at hcl hcl2 HPK HI2 hmem
   unfold MDep.agg at hcl2
   have q0:wk.cell? ⟨cb0,k * 8,none⟩=_:=hcl 0 _ rfl
   have q1:=hcl 1 _ rfl
   have q2:=hcl 2 _ rfl
   have q3:=hcl 3 _ rfl
   have q4:=hcl 4 _ rfl
   have q5:=hcl 5 _ rfl
   have q6:=hcl 6 _ rfl
   have q7:=hcl 7 _ rfl
   clear hcl
   go_wp2_with fail
   refine hcl2.mono ?_
   rintro e W5 ⟨y,rfl,hp,hy,hb⟩
   obtain ⟨hgl5,hgf5,hcl5⟩:=HI2.out W5 hb
   have HN:Hid (Copied MDep.vals 8 67 MDep.p DepOk w B l (k+1) (.slice (some ⟨cb0,0,none⟩) n c0) (cs.set k y) ((((((((W5.setCell ⟨cb0,k * 8,none⟩ (.string (Ident.mk y.name))).setCell ⟨cb0,k * 8+1,none⟩ y.x.kind).setCell ⟨cb0,k * 8+2,none⟩ y.x.v.a).setCell ⟨cb0,k * 8+3,none⟩ y.x.v.b).setCell ⟨cb0,k * 8+4,none⟩ y.x.v.c).setCell ⟨cb0,k * 8+5,none⟩ (.slice y.x.A y.x.v.pre.length y.x.c)).setCell ⟨cb0,k * 8+6,none⟩ (.slice y.x.B y.x.v.build.length y.x.d)).setCell ⟨cb0,k * 8+7,none⟩ (.slice y.x.L y.x.n y.x.e))):=by
    have h:=HPK.out W5 y hb hp hy
    simp only [setAll,MDep.vals,RV.vals,Nat.add_assoc,Nat.reduceAdd] at h
    exact h
   clear q0 q1 q2 q3 q4 q5 q6 q7 hgl hgf hp hy hb HPK HI2 hmem
   have q0:W5.cell? ⟨cb0,k * 8,none⟩=_:=hcl5 0 _ rfl
   have q1:=hcl5 1 _ rfl
   have q2:=hcl5 2 _ rfl
   have q3:=hcl5 3 _ rfl
   have q4:=hcl5 4 _ rfl
   have q5:=hcl5 5 _ rfl
   have q6:=hcl5 6 _ rfl
   have q7:=hcl5 7 _ rfl
   clear hcl5
   dsimp only
   go_wp2
   exact ⟨⟨k+1,_,by omega,by go_num,HN⟩,by simp [intOf]; omega⟩
  ·obtain rfl:k=n:=by omega
   go_wp2
   go_ret
   exact ⟨_,cs,rfl,by have h1:=HI.out; have hl:=HL.out; rw [hl]; exact h1⟩
theorem fineRelease:Fine RelOk:=⟨fun h k=>h.keep k,fun h k=>h.mono k⟩
theorem copiedRelease_list (g:Nat) (cb:Array Value) (eg:∀ args w,(callFunc g args).run Tryz.prog w=.ok (.enter g args) w) (A:Option Addr) (n c:Nat) (l:List MRel) (S:Nat→Prop) (B:Nat) (w:World) (hr:KRow MRel.vals 8 w S A n l) (hn:n≤1000) (hB:B≤w.heap.size)
  (hcall:∀ (W:World) (x:MRel),x ∈ l→Below w.heap.size w W→Calls Tryz.prog g (#[x.agg] ++ cb) W (OnePost MRel.agg MRel.p RelOk W B x)) :
  Calls Tryz.prog 46 #[.slice A n c,.func (.func g) #[] cb] w (CopyPost MRel.vals 8 46 MRel.p RelOk w B l):=by
 have HC:=Lib.hid hcall
 have HR:=Lib.hid hr
 have HLB:=Lib.hid hB
 have HL:Hid (l.length=n):=hr.1
 clear hr hcall hB
 go_enter Tryz.func46,Tryz.ntmps46
 go_wp2_with fail
 refine (cloneRelease_any A n c l S w HR.out (by omega) (by unfold maxLen; omega)).mono ?_
 rintro e W0 ⟨v0,rfl,ho,hb⟩
 have hl:=HL.out
 have H0:Hid (Copied MRel.vals 8 46 MRel.p RelOk w B l 0 v0 l W0):=⟨rfl,by rw [hl]; exact ho,fun j hj=>absurd hj (Nat.not_lt_zero j),fun _ _=>rfl,hb⟩
 obtain ⟨A0,c0,rfl,_⟩:=own_slice ho
 clear ho hb HR hl
 go_wp2
 go_loopw [11] (fun y W=>∃ (k:Nat) (cs:List MRel),k≤n∧y=.int .i64 k∧Hid (Copied MRel.vals 8 46 MRel.p RelOk w B l k (.slice A0 n c0) cs W)) (fun y _=>n - (intOf y).toNat)
 case atStart=>exact ⟨0,l,Nat.zero_le _,rfl,H0.out⟩
 case round =>
  rename World=>wk
  obtain ⟨k,cs,hk,rfl,HI⟩:=hrel
  by_cases hlt:k<n
  ·have hkl:k<l.length:=by rw [HL.out]; exact hlt
   obtain ⟨cb0,cc,hv,_,hg0,hgl,hgf,hcl⟩:=HI.out.cells Model.rel_len hkl
   rw [HI.out.rest k (Nat.le_refl _)] at hcl
   have hmem:l.getD k default ∈ l:=by rw [List.getD_eq_getElem?_getD,List.getElem?_eq_getElem hkl]; exact List.getElem_mem _
   rw [HL.out] at hv
   injection hv with e1 _ e2
   subst e1
   subst e2
   have hcl2:=HC.out wk _ hmem HI.out.bel
   have HPK:Hid (∀ W' y,Below wk.heap.size wk W'→MRel.p y=MRel.p (l.getD k default)→RelOk W' (Aside wk B) y→Copied MRel.vals 8 46 MRel.p RelOk w B l (k+1) (.slice (some ⟨cb0,0,none⟩) n c0) (cs.set k y) (setAll W' cb0 (k * 8) (MRel.vals y))):=fun W' y hb hp hy=>by
    have h1:=HI.out
    rw [← HL.out] at h1 ⊢
    exact h1.next (by decide) Model.rel_len fineRelease HLB.out hkl hb hp hy
   have HI2:Hid (∀ W',Below wk.heap.size wk W'→cb0<W'.heap.size∧(∀ o,W'.frozen? ⟨cb0,o,none⟩=false)∧∀ i u,(MRel.vals (l.getD k default))[i]?=some u→W'.cell? ⟨cb0,k * 8+i,none⟩=some u):=fun W' hb =>
    ⟨Nat.lt_of_lt_of_le hgl hb.size,fun o=>(hb.frozen (p:=⟨cb0,o,none⟩) hgl).trans (hgf o),fun i u hu=>(hb.cell (p:=⟨cb0,k * 8+i,none⟩) hgl).trans (hcl i u hu)⟩
   generalize l.getD k default=x at hcl hcl2 HPK HI2 hmem
   unfold MRel.agg at hcl2
   have q0:wk.cell? ⟨cb0,k * 8,none⟩=_:=hcl 0 _ rfl
   have q1:=hcl 1 _ rfl
   have q2:=hcl 2 _ rfl
   have q3:=hcl 3 _ rfl
   have q4:=hcl 4 _ rfl
   have q5:=hcl 5 _ rfl
   have q6:=hcl 6 _ rfl
   have q7:=hcl 7 _ rfl
   clear hcl
   go_wp2_with fail
   refine hcl2.mono ?_
   rintro e W5 ⟨y,rfl,hp,hy,hb⟩
   obtain ⟨hgl5,hgf5,hcl5⟩:=HI2.out W5 hb
   have HN:Hid (Copied MRel.vals 8 46 MRel.p RelOk w B l (k+1) (.slice (some ⟨cb0,0,none⟩) n c0) (cs.set k y) ((((((((W5.setCell ⟨cb0,k * 8,none⟩ y.ver.v.a).setCell ⟨cb0,k * 8+1,none⟩ y.ver.v.b).setCell ⟨cb0,k * 8+2,none⟩ y.ver.v.c).setCell ⟨cb0,k * 8+3,none⟩ (.slice y.ver.A y.ver.v.pre.length y.ver.c)).setCell ⟨cb0,k * 8+4,none⟩ (.slice y.ver.B y.ver.v.build.length y.ver.d)).setCell ⟨cb0,k * 8+5,none⟩ (.bool y.yanked)).setCell ⟨cb0,k * 8+6,none⟩ (.slice y.N y.needs.length y.nc)).setCell ⟨cb0,k * 8+7,none⟩ (.slice y.B y.bans.length y.bc))):=by
    have h:=HPK.out W5 y hb hp hy
    simp only [setAll,MRel.vals,MVer.vals,List.cons_append,List.nil_append,Nat.add_assoc,Nat.reduceAdd] at h
    exact h
   clear q0 q1 q2 q3 q4 q5 q6 q7 hgl hgf hp hy hb HPK HI2 hmem
   have q0:W5.cell? ⟨cb0,k * 8,none⟩=_:=hcl5 0 _ rfl
   have q1:=hcl5 1 _ rfl
   have q2:=hcl5 2 _ rfl
   have q3:=hcl5 3 _ rfl
   have q4:=hcl5 4 _ rfl
   have q5:=hcl5 5 _ rfl
   have q6:=hcl5 6 _ rfl
   have q7:=hcl5 7 _ rfl
   clear hcl5
   dsimp only
   go_wp2
   exact ⟨⟨k+1,_,by omega,by go_num,HN⟩,by simp [intOf]; omega⟩
  ·obtain rfl:k=n:=by omega
   go_wp2
   go_ret
   exact ⟨_,cs,rfl,by have h1:=HI.out; have hl:=HL.out; rw [hl]; exact h1⟩
end Go.Proofs.YtgakcdcfblgagaaGreatDoor.Copy
namespace Go.Proofs.YtgakcdcfblgagaaGreatDoor.Model
open Go.RowKit Num Ident Semver Fr
open Range (Rng noRng RV KeepS LtB LenOk goodR wt)
open KR (KRow AtV)
open Name (isName)
open Nrm (hasR)
theorem findRel_in {x:List MPack} {n:List UInt8} {v:Ver} {r:MRel} (h:findRel x n v=some r):∃ p ∈ x,r ∈ p.rels:=by
 unfold findRel at h
 obtain ⟨p,hp,hr⟩:=Option.bind_eq_some_iff.1 h
 exact ⟨p,List.mem_of_find?_eq_some hp,List.mem_of_find?_eq_some hr⟩
end Go.Proofs.YtgakcdcfblgagaaGreatDoor.Model
namespace Go.Proofs.YtgakcdcfblgagaaGreatDoor.Model
open Go.RowKit Num Ident Semver Fr
open Range (Rng noRng RV KeepS LtB LenOk goodR wt)
open KR (KRow AtV)
open Name (isName)
open Nrm (hasR inV)
def out3:Option (Nat × Int × Int)→Int × Int × Int
 | none=>(-1,-1,0)
 | some q=>((q.1:Int),q.2.1,q.2.2)
def relsV (q:Int × Int × Int):Value:=.tuple #[.int .i64 q.1,.int .i64 q.2.1,.int .i64 q.2.2]
def texts (l:List MRel) (k:Nat):List (List UInt8):=(l.take k).map fun r=>vtext r.ver.v
theorem texts_snoc {l:List MRel} {k:Nat} (h:k<l.length):texts l (k+1)=texts l k ++ [vtext (l.getD k default).ver.v]:=take_map_snoc (fun r:MRel=>vtext r.ver.v) l h
theorem relK_zero {x:List (List UInt8)} {pn:List UInt8} {r:PRel} (h:(relK x pn r).2=0):goodV r.v=true∧vtext r.v ∉ x∧depsF pn r=none∧relK x pn r=(-1,0):=by
 unfold relK at h ⊢
 by_cases h1:goodV r.v=false
 ·rw [if_pos h1] at h; cases h
 ·rw [if_neg h1] at h ⊢
  by_cases h2:vtext r.v ∈ x
  ·rw [if_pos h2] at h; cases h
  ·rw [if_neg h2] at h ⊢
   have hn:depsF pn r=none:=by
    cases hd:depsF pn r with
    | none=>rfl
    | some q =>
     rw [hd] at h
     exact absurd h (firstE_some (g:=fun j d=>banE pn r.v r.needs.length j d) hd).1
   exact ⟨by rwa [Bool.not_eq_false] at h1,h2,hn,by rw [hn]; rfl⟩
theorem relK_some {x:List (List UInt8)} {pn:List UInt8} {l:List PRel} {k:Nat} {r:PRel} (hv:goodV r.v=true→(vtext r.v ∈ x↔verB l k=true)):relF pn l k r=if (relK x pn r).2=0 then none else some (relK x pn r):=by
 unfold relF
 by_cases h1:goodV r.v=false
 ·rw [if_pos h1,relK_ver h1]; rfl
 ·have hg:goodV r.v=true:=by rwa [Bool.not_eq_false] at h1
  rw [if_neg h1]
  by_cases h2:verB l k=true
  ·rw [if_pos h2,relK_there hg ((hv hg).2 h2)]; rfl
  ·rw [if_neg h2,relK_deps hg (fun g=>h2 ((hv hg).1 g))]
   show (depsF pn r).map _=_
   cases hd:depsF pn r with
   | none=>rfl
   | some q =>
    have:=(firstE_some (g:=fun j d=>banE pn r.v r.needs.length j d) hd).1
    show some ((q.1:Int),q.2)=if q.2=0 then none else some ((q.1:Int),q.2)
    rw [if_neg this]
theorem verB_texts {l:List MRel} {k:Nat} (hk:k<l.length) (hg:∀ j,j<k→goodV (l.getD j default).ver.v=true) (hv:goodV (l.getD k default).ver.v=true):vtext (l.getD k default).ver.v ∈ texts l k↔verB (l.map MRel.p) k=true:=by
 unfold texts verB
 rw [List.any_eq_true,map_at MRel.p l hk]
 simp only [List.mem_map]
 constructor
 ·rintro ⟨r,hr,e⟩
  obtain ⟨j,hj,rfl⟩:=List.mem_take_iff_getElem.1 hr
  have hj2:j<k:=by omega
  have e0:l.getD j default=l[j]:=by rw [List.getD_eq_getElem?_getD,List.getElem?_eq_getElem (by omega)]; rfl
  refine ⟨(l[j]).p,List.mem_take_iff_getElem.2 ⟨j,by rw [List.length_map]; omega,by simp⟩,?_⟩
  have:l[j].ver.v=(l.getD k default).ver.v:=vtext_inj (by have:=hg j hj2; rwa [e0] at this) hv e
  show sameV l[j].ver.v (l.getD k default).ver.v=true
  rw [this]; exact sameV_self _
 ·rintro ⟨r,hr,e⟩
  obtain ⟨j,hj,rfl⟩:=List.mem_take_iff_getElem.1 hr
  rw [List.length_map] at hj
  refine ⟨l[j],List.mem_take_iff_getElem.2 ⟨j,by omega,rfl⟩,?_⟩
  have e2:sameV l[j].ver.v (l.getD k default).ver.v=true:=by
   have e:sameV ((l.map MRel.p)[j]).v (l.getD k default).p.v=true:=e
   rw [List.getElem_map] at e
   exact e
  rw [Range.sameV_eq e2]
theorem rels_made (w:World) (p:MPack):∃ W,W=(((w.alloc (.cells #[.string (Ident.mk p.name),.slice p.R p.rels.length p.rc] 48)).alloc (.cells #[.int .i64 (-1)] 3)).alloc (.map #[] 0)).alloc (.cells #[.map (some (w.heap.size+1+1))] 178)∧AtV W w.heap.size [.string (Ident.mk p.name),.slice p.R p.rels.length p.rc]∧AtV W (w.heap.size+1) [.int .i64 (-1)]∧SeenAt W (w.heap.size+1+1) []∧AtV W (w.heap.size+1+1+1) [.map (some (w.heap.size+1+1))]∧Below w.heap.size w W:=by
 obtain ⟨V1,hV1⟩:∃ V,V=w.alloc (.cells #[.string (Ident.mk p.name),.slice p.R p.rels.length p.rc] 48):=⟨_,rfl⟩
 have a1:AtV V1 w.heap.size [.string (Ident.mk p.name),.slice p.R p.rels.length p.rc]:=by rw [hV1]; exact AtV.new w _ _
 have z1:V1.heap.size=w.heap.size+1:=by rw [hV1]; simp
 have b1:Below w.heap.size w V1:=by rw [hV1]; exact (Below.refl _ _).alloc (Nat.le_refl _) _
 obtain ⟨V2,hV2⟩:∃ V,V=V1.alloc (.cells #[.int .i64 (-1)] 3):=⟨_,rfl⟩
 have k2:Below V1.heap.size V1 V2:=by rw [hV2]; exact (Below.refl _ _).alloc (Nat.le_refl _) _
 have a2:AtV V2 (w.heap.size+1) [.int .i64 (-1)]:=by rw [hV2,← z1]; exact AtV.new V1 _ _
 have z2:V2.heap.size=w.heap.size+1+1:=by rw [hV2]; simp [z1]
 obtain ⟨V3,hV3⟩:∃ V,V=V2.alloc (.map #[] 0):=⟨_,rfl⟩
 have k3:Below V2.heap.size V2 V3:=by rw [hV3]; exact (Below.refl _ _).alloc (Nat.le_refl _) _
 have a3:SeenAt V3 (w.heap.size+1+1) []:=by rw [hV3,← z2]; exact SeenAt.made V2
 have z3:V3.heap.size=w.heap.size+1+1+1:=by rw [hV3]; simp [z2]
 obtain ⟨V4,hV4⟩:∃ V,V=V3.alloc (.cells #[.map (some (w.heap.size+1+1))] 178):=⟨_,rfl⟩
 have k4:Below V3.heap.size V3 V4:=by rw [hV4]; exact (Below.refl _ _).alloc (Nat.le_refl _) _
 have a4:AtV V4 (w.heap.size+1+1+1) [.map (some (w.heap.size+1+1))]:=by rw [hV4,← z3]; exact AtV.new V3 _ _
 refine ⟨V4,by rw [hV4,hV3,hV2,hV1],((a1.kept k2 (by omega)).kept k3 (by omega)).kept k4 (by omega),(a2.kept k3 (by omega)).kept k4 (by omega),a3.kept k4 (by omega),a4,b1.trans ((k2.trans ((k3.trans (k4.mono (by omega))).mono (by omega))).mono (by omega))⟩
theorem rels_first (p:MPack) (B pb:Nat) (w W:World) (hp:PackOk w (LtB B) p) (hf:∀ r ∈ p.rels,FewRel r) (hn:p.rels.length≤6) (ht:Tab w) (hB:B≤pb) (hpb:pb=w.heap.size) (hb:Below w.heap.size w W) (h1:AtV W pb [.string (Ident.mk p.name),.slice p.R p.rels.length p.rc]) (h2:AtV W (pb+1) [.int .i64 (-1)]) (h3:SeenAt W (pb+1+1) []) (h4:AtV W (pb+1+1+1) [.map (some (pb+1+1))]) :
  Calls Tryz.prog 162 #[.slice p.R p.rels.length p.rc,.func (.func 163) #[] #[.pointer (some ⟨pb+1+1+1,0,none⟩),.pointer (some ⟨pb,0,none⟩),.pointer (some ⟨pb+1,0,none⟩)]] W fun e w'=>∃ a d f:Int,e=.returned (.tuple #[.int .i64 a,.int .i64 f])∧AtV w' (pb+1) [.int .i64 d]∧Below w.heap.size w w'∧out3 (firstG (relF p.name p.p.rels) 0 p.p.rels)=(a,d,f):=by
 have hrow:∀ W',But (fun b=>b=pb+1+1∨b=pb+1) W W'→RRow W' (LtB B) p.R p.rels.length p.rels:=fun W' hw=>(hp.rels.keep (KeepS.of_below hb)).keep (keepS_but hw fun g hg e=>by have hg:g<B:=hg; omega)
 refine (firstRelease_any 163 #[.pointer (some ⟨pb+1+1+1,0,none⟩),.pointer (some ⟨pb,0,none⟩),.pointer (some ⟨pb+1,0,none⟩)] (enters_of Tryz.func163 (by kernel_rfl) rfl) p.R p.rels.length p.rc p.rels
  (fun k=>(relK (texts p.rels k) p.name (p.rels.getD k default).p).2)
  (fun k W'=>SeenAt W' (pb+1+1) (texts p.rels k)∧AtV W' (pb+1) [.int .i64 (-1)]∧But (fun b=>b=pb+1+1∨b=pb+1) W W')
  (fun k W'=>AtV W' (pb+1) [.int .i64 (relK (texts p.rels k) p.name (p.rels.getD k default).p).1]∧But (fun b=>b=pb+1+1∨b=pb+1) W W') (LtB B) W (by unfold maxLen; omega)
  (fun k W' _ hI=>hrow W' hI.2.2) (fun k W' hk hI=>?_) ⟨h3,h2,But.refl _ _⟩).mono ?_
 ·refine (rel1_any (p.rels.getD k default) p (pb+1+1+1) pb (pb+1) (pb+1+1) (texts p.rels k) B W' ((hrow W' hI.2.2).ok _ (hp.rels.row.mem hk)) (hf _ (hp.rels.row.mem hk)) (h4.but hI.2.2 (by omega)) (h1.but hI.2.2 (by omega)) hI.2.1 hI.1 (by unfold texts; simp; omega) ⟨by omega,by omega,by omega,by omega,by omega⟩ ⟨by omega,by omega⟩ (by have:=hb.size; have:=hI.2.2.size; omega) (ht.kept (hb.trans (hI.2.2.below (B:=w.heap.size) (fun k e=>by omega) hb.size)))).mono ?_
  rintro e w' ⟨ho,hd,hs,hbt⟩
  refine ⟨ho,fun h0=>⟨?_,?_,hI.2.2.then_ hbt⟩,fun _=>⟨hd,hI.2.2.then_ hbt⟩⟩
  ·rw [texts_snoc hk]; exact hs h0
  ·have:=(relK_zero h0).2.2.2
   rw [this] at hd; exact hd
 ·intro e w' hp2
  have rel:∀ k,k<p.rels.length→(∀ j,j<k→(relK (texts p.rels j) p.name (p.rels.getD j default).p).2=0)→relF p.name p.p.rels k (p.p.rels.getD k default)=if (relK (texts p.rels k) p.name (p.rels.getD k default).p).2=0 then none else some (relK (texts p.rels k) p.name (p.rels.getD k default).p):=fun k hk ha=>by
   have e0:p.p.rels.getD k default=(p.rels.getD k default).p:=map_at MRel.p p.rels hk
   rw [e0]
   exact relK_some fun hv=>verB_texts hk (fun j hj=>(relK_zero (ha j hj)).1) hv
  have len:p.p.rels.length=p.rels.length:=List.length_map _
  rcases hp2 with ⟨k,hk,ha,hne,he,hd,hbt⟩ | ⟨ha,he,_,hd,hbt⟩
  ·refine ⟨_,_,_,he,hd,hb.trans (hbt.below (B:=w.heap.size) (fun k e=>by omega) hb.size),?_⟩
   have e1:=firstG_stop (relF p.name p.p.rels) p.p.rels 0 k _ (by omega) (fun j hj=>by
    rw [Nat.zero_add,rel j (by omega) (fun i hi=>ha i (by omega)),if_pos (ha j hj)]) (by
    rw [Nat.zero_add,rel k hk ha,if_neg hne])
   rw [e1,Nat.zero_add]; rfl
  ·refine ⟨_,_,_,he,hd,hb.trans (hbt.below (B:=w.heap.size) (fun k e=>by omega) hb.size),?_⟩
   have e1:=firstG_none (relF p.name p.p.rels) p.p.rels 0 (fun j hj=>by
    rw [Nat.zero_add,rel j (by omega) (fun i hi=>ha i (by omega)),if_pos (ha j (by omega))])
   rw [e1]; rfl
theorem releasesFault_any (p:MPack) (B:Nat) (w:World) (hp:PackOk w (LtB B) p) (hf:∀ r ∈ p.rels,FewRel r) (hn:p.rels.length≤6) (ht:Tab w) (hB:B≤w.heap.size) :
  Calls Tryz.prog 108 #[p.agg] w fun e w'=>e=.returned (relsV (out3 (firstG (relF p.name p.p.rels) 0 p.p.rels)))∧Below w.heap.size w w':=by
 obtain ⟨W,hW,h1,h2,h3,h4,hb⟩:=rels_made w p
 obtain ⟨pb,hpb⟩:∃ pb,w.heap.size=pb:=⟨_,rfl⟩
 rw [hpb] at hW h1 h2 h3 h4
 have hfst:=rels_first p B pb w W hp hf hn ht (by omega) hpb.symm hb h1 h2 h3 h4
 have H1:=Lib.hid h1
 have HPB:=Lib.hid hpb
 clear h1 h2 h3 h4 hb hp hf ht
 have hmm:=@run_makeMap Tryz.prog
 unfold MPack.agg
 go_enter Tryz.func108,Tryz.ntmps108
 go_upto_region 3 with (fail)
 rw [← hW]
 clear hW hpb hmm hB hn
 have c1:=H1.out.at_ 1 _ rfl
 go_wp2_with fail
 refine hfst.mono ?_
 rintro e W2 ⟨a,d,f,rfl,hd,hb,hq⟩
 clear hfst c1
 have HQ:=Lib.hid hq
 have HB2:=Lib.hid hb
 have HD2:=Lib.hid hd
 clear hq hb hd
 go_wp2
 have HDW:Hid (AtV W2.drew (pb+1) [.int .i64 d]):=HD2.out.kept (Below.refl _ _).drew HD2.out.lt
 have HBW:Hid (Below w.heap.size w W2.drew):=HB2.out.drew
 refine wp_region_held_drew (S:=fun w'=>Below w.heap.size w w'∧AtV w' (pb+1) [.int .i64 d]) (by kernel_rfl) ⟨HBW.out,HDW.out⟩ (fun hHeld=>?_)
 generalize W2.drew=wd at HDW HBW hHeld ⊢
 refine tk 0 rfl (.int .i64 a) ?_
 refine tk 1 rfl (.int .i64 d) ?_ (hv:=fun w' hS'=>by (have z0:=hS'.2.at_ 0 _ rfl); go_simp)
 refine tk 2 rfl (.int .i64 f) ?_
 refine tk 3 rfl (.int .i64 a) ?_
 have d0:=HDW.out.at_ 0 _ rfl
 have hdl:pb+1<wd.heap.size:=HDW.out.lt
 have hdf:=HDW.out.fr
 refine cl 4 rfl fun K hK=>?_
 go_simp
 have HD5:Hid (AtV (wd.setCell ⟨pb+1,0,none⟩ (.int .i64 d)) (pb+1) [.int .i64 d]):=HDW.out.set 0 (.int .i64 d) (by simp)
 have HB5:Hid (Below w.heap.size w (wd.setCell ⟨pb+1,0,none⟩ (.int .i64 d))):=HBW.out.setCell (p:=⟨pb+1,0,none⟩) (by have:=HPB.out; show w.heap.size≤pb+1; omega) _
 refine hK.out _ _ ⟨HB5.out,HD5.out⟩ (fun hHeld2=>?_)
 clear hK K d0 hdl hdf
 generalize wd.setCell ⟨pb+1,0,none⟩ (.int .i64 d)=W5 at HD5 HB5 ⊢
 try simp only [Act.put,p1,p2,p3]
 refine tk 5 rfl (.int .i64 f) ?_ (hS:=⟨HB5.out,HD5.out⟩)
 refine wpAnyH_done (by kernel_rfl) ?_ _
 have d0:=HD5.out.at_ 0 _ rfl
 go_wp2
 refine bodyPost_ret (v:=.tuple #[.int .i64 a,.int .i64 d,.int .i64 f]) (by simp [results,Tryz.results108,go_sem,d0]) rfl ⟨by rw [HQ.out]; rfl,HB5.out⟩
end Go.Proofs.YtgakcdcfblgagaaGreatDoor.Model
namespace Go.Proofs.YtgakcdcfblgagaaGreatDoor.Came
open Go.ChangeShapes Go.WideShapes Go.RowKit Go.Deep
open Range (LtB)
open Model (MDep MVer MRel MPack MPin DRow PRow SPRow VerOk SlOk)

theorem index {H:Type} {enc:TypeId × Value→H} {W:World} {r:Reach} {b0:Nat} {x:Value} {d:DataW H} {ps:List MemPlace} (hv:Value.okWide Tryz.prog W r b0 26 x)
  (h:DataW.Trod enc Tryz.prog W 0 (fun _=>true) true 26 x d ps) (hs0:Sized 26 d) :
  ∃ (a:Option Addr) (cap:Nat) (l:List MPack),x=.agg #[.slice a l.length cap]∧PRow W (LtB W.heap.size) a l.length l∧SlOk a l.length cap:=by
 obtain ⟨cs,rfl,_⟩:=okWide_struct Tryz.underlying26 hv
 obtain ⟨fuel,hf⟩:=h
 obtain ⟨l⟩:=cs
 have hC:Tryz.prog.cellsOf 26=1:=by kernel_rfl
 have cp:Tryz.prog.cellsOf 24=1:=by kernel_rfl
 obtain ⟨xs,n,_,hy0,hsz,hlen,hg⟩:=DataW.trod_struct Tryz.underlying26 hf
 have hl:xs.length=1:=hlen
 rw [hC] at hsz
 have hsz:l.length=1:=by simpa [Value.cells] using hsz
 match l,hsz with
 | [z0],_ =>
  match xs,hl with
  | [y0],_ =>
   have f0:DataW.trod enc Tryz.prog W 0 (fun _=>true) true n 24 (([z0].drop 0).take (Tryz.prog.cellsOf 24))=some y0:=hg 0 _ rfl
   rw [cp] at f0
   have g0:DataW.trod enc Tryz.prog W 0 (fun _=>true) true n 24 [z0]=some y0:=f0
   obtain ⟨A,c,l,e,h1,h2,h3,h4⟩:=packs_at g0 (by
    have e:d=.agg ([y0].map (·.1)):=congrArg Prod.fst hy0
    rw [e] at hs0
    exact hs0.part Tryz.underlying26 (i:=0) rfl rfl)
   simp at e
   subst e
   exact ⟨A,c,l,rfl,h1,h2,h3,h4⟩
end Go.Proofs.YtgakcdcfblgagaaGreatDoor.Came
