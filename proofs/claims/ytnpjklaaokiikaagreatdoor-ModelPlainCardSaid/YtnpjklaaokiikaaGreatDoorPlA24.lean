/-
  What the theorem of the last text needs of these: MoClos, MoFind. Conditions: as each theorem states.
-/
import Derived.Test.YtnpjklaaokiikaaGreatDoorPlA1
import Derived.Test.YtnpjklaaokiikaaGreatDoorPlA5
import Derived.Test.YtnpjklaaokiikaaGreatDoorPlA21
import Derived.Test.YtnpjklaaokiikaaGreatDoorPlA22
import Derived.Test.YtnpjklaaokiikaaGreatDoorPlA23
import Derived.Test.YtnpjklaaokiikaaGreatDoorShelfHas2
import Derived.Shelf.SlicesQ.IndexFunc
set_option maxRecDepth 100000
set_option maxHeartbeats 25600000
namespace Go.Proofs.YtnpjklaaokiikaaGreatDoor.Model
open Go.RowKit Num Ident Semver Fr
open Range (Rng noRng RV KeepS LtB LenOk goodR wt)
open KR (KRow AtV)
open Name (isName)

structure Elem {α:Type} (l:List α) where
 x:α
 h:x ∈ l
theorem elems_of {α:Type} (l:List α):∃ zs:List (Elem l),zs.length=l.length∧(∀ j (h:j<zs.length),l[j]?=some zs[j].x)∧∀ p:α→Bool,(zs.any fun z=>p z.x)=l.any p:=by
 obtain ⟨zs,hz⟩:∃ zs:List (Elem l),zs.map Elem.x=l:=⟨l.pmap (fun x h=>(⟨x,h⟩:Elem l)) fun _ h=>h,by simp [List.map_pmap]⟩
 refine ⟨zs,by simpa using congrArg List.length hz,fun j h=>?_,fun p=>?_⟩
 ·have:=congrArg (fun q=>q[j]?) hz
  simp only [List.getElem?_map,List.getElem?_eq_getElem h,Option.map_some] at this
  exact this.symm
 ·have:=congrArg (fun q=>q.any p) hz
  simp only [List.any_map] at this
  exact this
theorem indexDep_none (P:Option Addr) (c:Nat) (f:Value) (w:World):Calls Tryz.prog 74 #[.slice P 0 c,f] w fun e w'=>e=.returned (.int .i64 (-1))∧w=w':=by
 go_enter Tryz.func74,Tryz.ntmps74
 go_wp2
 go_loop [5,8] (fun _ i=>i=.int .i64 0) (fun _ _=>0)
 case atStart=>rfl
 case round =>
  subst hrel
  go_wp2
  go_ret
  exact ⟨rfl,rfl⟩
theorem containsDep_none (P:Option Addr) (c:Nat) (f:Value) (w:World):Calls Tryz.prog 30 #[.slice P 0 c,f] w fun e w'=>e=.returned (.bool false)∧w=w':=by
 go_enter Tryz.func30,Tryz.ntmps30
 go_wp2_with fail
 refine (indexDep_none _ _ _ _).mono ?_
 rintro e w' ⟨rfl,rfl⟩
 go_wp2
 go_ret
 exact ⟨rfl,rfl⟩
theorem containsDep_any (A:Option Addr) (n c:Nat) (l:List MDep) (g:Nat) (lb:Array Value) (eg:∀ args w,(callFunc g args).run Tryz.prog w=.ok (.enter g args) w) (p:MDep→Bool) (S:Nat→Prop) (w:World) (hr:KRow MDep.vals 8 w S A n l) (hn:n≤100000)
  (hp:∀ (W:World) (x:MDep),x ∈ l→Below w.heap.size w W→Calls Tryz.prog g (#[x.agg] ++ lb) W fun e w'=>e=.returned (.bool (p x))∧Below W.heap.size W w') :
  Calls Tryz.prog 30 #[.slice A n c,.func (.func g) #[] lb] w fun e w'=>e=.returned (.bool (l.any p))∧Below w.heap.size w w':=by
 rcases Nat.eq_zero_or_pos n with h0 | h0
 ·subst h0
  obtain rfl:l=[]:=List.eq_nil_of_length_eq_zero hr.1
  exact (containsDep_none A c _ w).mono fun e w' ⟨he,hw⟩=>⟨he,by subst hw; exact Below.refl _ _⟩
 ·obtain ⟨hl,hc⟩:=hr
  obtain ⟨b,o,rfl,_,hb,hcell⟩:=hc h0
  obtain ⟨zs,hzl0,hzg,hza⟩:=elems_of l
  have hzl:zs.length=n:=hzl0.trans hl
  haveI:Inhabited (Elem l):=⟨⟨l.getD 0 default,by rw [List.getD_eq_getElem?_getD,List.getElem?_eq_getElem (by omega)]; exact List.getElem_mem _⟩⟩
  have hpb:PredBelow Tryz.prog g lb (fun x:Elem l=>.agg x.x.vals.toArray) (fun x=>p x.x) w:=fun W x hB=>(hp W x.x x.h hB).mono fun e w' ⟨he,hb⟩=>⟨he,hB.trans (hb.mono hB.size)⟩
  have hcon:=AnyQ.slices_ContainsFunc Tryz.hasD 8 Tryz.isAgg57 Tryz.sizeOf57 (fun x:Elem l=>x.x.vals) (fun _=>rfl) (fun x=>p x.x) g lb eg b o n c zs w hpb (by rw [hzl]; exact Nat.le_refl _) (by omega) hb
   (fun j hj i v hv=>hcell j (by omega) i v (by
    have e:l.getD j default=zs[j]!.x:=by
     rw [getElem!_pos zs j hj]
     rw [List.getD_eq_getElem?_getD,hzg j hj]; rfl
    rw [e]; exact hv))
  refine hcon.mono fun e w' ⟨he,hb'⟩=>⟨?_,hb'⟩
  rw [he,List.take_of_length_le (by rw [hzl]; exact Nat.le_refl _)]
  rw [hza p]
theorem indexPack_none (P:Option Addr) (c:Nat) (f:Value) (w:World):Calls Tryz.prog 92 #[.slice P 0 c,f] w fun e w'=>e=.returned (.int .i64 (-1))∧w=w':=by
 go_enter Tryz.func92,Tryz.ntmps92
 go_wp2
 go_loop [5,8] (fun _ i=>i=.int .i64 0) (fun _ _=>0)
 case atStart=>rfl
 case round =>
  subst hrel
  go_wp2
  go_ret
  exact ⟨rfl,rfl⟩
theorem containsPack_none (P:Option Addr) (c:Nat) (f:Value) (w:World):Calls Tryz.prog 46 #[.slice P 0 c,f] w fun e w'=>e=.returned (.bool false)∧w=w':=by
 go_enter Tryz.func46,Tryz.ntmps46
 go_wp2_with fail
 refine (indexPack_none _ _ _ _).mono ?_
 rintro e w' ⟨rfl,rfl⟩
 go_wp2
 go_ret
 exact ⟨rfl,rfl⟩
theorem containsPack_any (A:Option Addr) (n c:Nat) (l:List MPack) (g:Nat) (lb:Array Value) (eg:∀ args w,(callFunc g args).run Tryz.prog w=.ok (.enter g args) w) (p:MPack→Bool) (S:Nat→Prop) (w:World) (hr:KRow MPack.vals 2 w S A n l) (hn:n≤100000)
  (hp:∀ (W:World) (x:MPack),x ∈ l→Below w.heap.size w W→Calls Tryz.prog g (#[x.agg] ++ lb) W fun e w'=>e=.returned (.bool (p x))∧Below W.heap.size W w') :
  Calls Tryz.prog 46 #[.slice A n c,.func (.func g) #[] lb] w fun e w'=>e=.returned (.bool (l.any p))∧Below w.heap.size w w':=by
 rcases Nat.eq_zero_or_pos n with h0 | h0
 ·subst h0
  obtain rfl:l=[]:=List.eq_nil_of_length_eq_zero hr.1
  exact (containsPack_none A c _ w).mono fun e w' ⟨he,hw⟩=>⟨he,by subst hw; exact Below.refl _ _⟩
 ·obtain ⟨hl,hc⟩:=hr
  obtain ⟨b,o,rfl,_,hb,hcell⟩:=hc h0
  obtain ⟨zs,hzl0,hzg,hza⟩:=elems_of l
  have hzl:zs.length=n:=hzl0.trans hl
  haveI:Inhabited (Elem l):=⟨⟨l.getD 0 default,by rw [List.getD_eq_getElem?_getD,List.getElem?_eq_getElem (by omega)]; exact List.getElem_mem _⟩⟩
  have hpb:PredBelow Tryz.prog g lb (fun x:Elem l=>.agg x.x.vals.toArray) (fun x=>p x.x) w:=fun W x hB=>(hp W x.x x.h hB).mono fun e w' ⟨he,hb⟩=>⟨he,hB.trans (hb.mono hB.size)⟩
  have hcon:=AnyQ.slices_ContainsFunc Tryz.hasP 2 Tryz.isAgg60 Tryz.sizeOf60 (fun x:Elem l=>x.x.vals) (fun _=>rfl) (fun x=>p x.x) g lb eg b o n c zs w hpb (by rw [hzl]; exact Nat.le_refl _) (by omega) hb
   (fun j hj i v hv=>hcell j (by omega) i v (by
    have e:l.getD j default=zs[j]!.x:=by
     rw [getElem!_pos zs j hj]
     rw [List.getD_eq_getElem?_getD,hzg j hj]; rfl
    rw [e]; exact hv))
  refine hcon.mono fun e w' ⟨he,hb'⟩=>⟨?_,hb'⟩
  rw [he,List.take_of_length_le (by rw [hzl]; exact Nat.le_refl _)]
  rw [hza p]
theorem indexPin_none (P:Option Addr) (c:Nat) (f:Value) (w:World):Calls Tryz.prog 131 #[.slice P 0 c,f] w fun e w'=>e=.returned (.int .i64 (-1))∧w=w':=by
 go_enter Tryz.func131,Tryz.ntmps131
 go_wp2
 go_loop [5,8] (fun _ i=>i=.int .i64 0) (fun _ _=>0)
 case atStart=>rfl
 case round =>
  subst hrel
  go_wp2
  go_ret
  exact ⟨rfl,rfl⟩
theorem containsPin_none (P:Option Addr) (c:Nat) (f:Value) (w:World):Calls Tryz.prog 71 #[.slice P 0 c,f] w fun e w'=>e=.returned (.bool false)∧w=w':=by
 go_enter Tryz.func71,Tryz.ntmps71
 go_wp2_with fail
 refine (indexPin_none _ _ _ _).mono ?_
 rintro e w' ⟨rfl,rfl⟩
 go_wp2
 go_ret
 exact ⟨rfl,rfl⟩
theorem containsPin_any (A:Option Addr) (n c:Nat) (l:List MPin) (g:Nat) (lb:Array Value) (eg:∀ args w,(callFunc g args).run Tryz.prog w=.ok (.enter g args) w) (p:MPin→Bool) (S:Nat→Prop) (w:World) (hr:KRow MPin.vals 6 w S A n l) (hn:n≤100000)
  (hp:∀ (W:World) (x:MPin),x ∈ l→Below w.heap.size w W→Calls Tryz.prog g (#[x.agg] ++ lb) W fun e w'=>e=.returned (.bool (p x))∧Below W.heap.size W w') :
  Calls Tryz.prog 71 #[.slice A n c,.func (.func g) #[] lb] w fun e w'=>e=.returned (.bool (l.any p))∧Below w.heap.size w w':=by
 rcases Nat.eq_zero_or_pos n with h0 | h0
 ·subst h0
  obtain rfl:l=[]:=List.eq_nil_of_length_eq_zero hr.1
  exact (containsPin_none A c _ w).mono fun e w' ⟨he,hw⟩=>⟨he,by subst hw; exact Below.refl _ _⟩
 ·obtain ⟨hl,hc⟩:=hr
  obtain ⟨b,o,rfl,_,hb,hcell⟩:=hc h0
  obtain ⟨zs,hzl0,hzg,hza⟩:=elems_of l
  have hzl:zs.length=n:=hzl0.trans hl
  haveI:Inhabited (Elem l):=⟨⟨l.getD 0 default,by rw [List.getD_eq_getElem?_getD,List.getElem?_eq_getElem (by omega)]; exact List.getElem_mem _⟩⟩
  have hpb:PredBelow Tryz.prog g lb (fun x:Elem l=>.agg x.x.vals.toArray) (fun x=>p x.x) w:=fun W x hB=>(hp W x.x x.h hB).mono fun e w' ⟨he,hb⟩=>⟨he,hB.trans (hb.mono hB.size)⟩
  have hcon:=AnyQ.slices_ContainsFunc Tryz.hasS 6 Tryz.isAgg62 Tryz.sizeOf62 (fun x:Elem l=>x.x.vals) (fun _=>rfl) (fun x=>p x.x) g lb eg b o n c zs w hpb (by rw [hzl]; exact Nat.le_refl _) (by omega) hb
   (fun j hj i v hv=>hcell j (by omega) i v (by
    have e:l.getD j default=zs[j]!.x:=by
     rw [getElem!_pos zs j hj]
     rw [List.getD_eq_getElem?_getD,hzg j hj]; rfl
    rw [e]; exact hv))
  refine hcon.mono fun e w' ⟨he,hb'⟩=>⟨?_,hb'⟩
  rw [he,List.take_of_length_le (by rw [hzl]; exact Nat.le_refl _)]
  rw [hza p]
theorem everyDep1_any (d:MDep) (g:Nat) (cb:Array Value) (eg:∀ args w,(callFunc g args).run Tryz.prog w=.ok (.enter g args) w) (fb:Nat) (b:Bool) (w:World) (hf:AtV w fb [.func (.func g) #[] cb])
  (hp:∀ W:World,Below w.heap.size w W→Calls Tryz.prog g (#[d.agg] ++ cb) W fun e w'=>e=.returned (.bool b)∧Below W.heap.size W w') :
  Calls Tryz.prog 70 #[d.agg,.pointer (some ⟨fb,0,none⟩)] w fun e w'=>e=.returned (.bool !b)∧Below w.heap.size w w':=by
 obtain ⟨W0,hW,hav,hb0⟩:∃ W,W=w.alloc (.cells #[.string (Ident.mk d.name),d.x.kind,d.x.v.a,d.x.v.b,d.x.v.c,.slice d.x.A d.x.v.pre.length d.x.c,.slice d.x.B d.x.v.build.length d.x.d,.slice d.x.L d.x.n d.x.e] 57)∧AtV W w.heap.size [.string (Ident.mk d.name),.int .i64 d.x.kind,.int .u64 d.x.v.a,.int .u64 d.x.v.b,.int .u64 d.x.v.c,.slice d.x.A d.x.v.pre.length d.x.c,.slice d.x.B d.x.v.build.length d.x.d,.slice d.x.L d.x.n d.x.e]∧Below w.heap.size w W:=⟨_,rfl,AtV.new w _ _,(Below.refl _ _).alloc (Nat.le_refl _) _⟩
 have HAV:=Lib.hid hav
 have HF:=Lib.hid (hf.kept hb0 hf.lt)
 have hcl:=hp W0 hb0
 have HB0:=Lib.hid hb0
 clear hav hb0 hf hp
 obtain ⟨bd,hbd⟩:∃ bd,w.heap.size=bd:=⟨_,rfl⟩
 unfold MDep.agg at hcl ⊢
 go_enter Tryz.func70,Tryz.ntmps70
 go_upto_region 1 with (fail)
 rw [← hW]
 rw [hbd] at HAV
 clear hW hbd
 have c0:=HAV.out.at_ 0 _ rfl
 have c1:=HAV.out.at_ 1 _ rfl
 have c2:=HAV.out.at_ 2 _ rfl
 have c3:=HAV.out.at_ 3 _ rfl
 have c4:=HAV.out.at_ 4 _ rfl
 have c5:=HAV.out.at_ 5 _ rfl
 have c6:=HAV.out.at_ 6 _ rfl
 have c7:=HAV.out.at_ 7 _ rfl
 have f0:=HF.out.at_ 0 _ rfl
 go_wp2_with (go_at_fn g; refine hcl.mono ?_; rintro e w' ⟨rfl,hb⟩)
 have HB:=Lib.hid (HB0.out.trans (hb.mono HB0.out.size))
 clear hb
 cases b
 ·go_wp2
  go_ret
  exact ⟨rfl,HB.out⟩
 ·go_wp2
  go_ret
  exact ⟨rfl,HB.out⟩
theorem everyDep_any (A:Option Addr) (n c:Nat) (l:List MDep) (g:Nat) (cb:Array Value) (eg:∀ args w,(callFunc g args).run Tryz.prog w=.ok (.enter g args) w) (p:MDep→Bool) (S:Nat→Prop) (w:World) (hr:KRow MDep.vals 8 w S A n l) (hn:n≤100000)
  (hp:∀ (W:World) (x:MDep),x ∈ l→Below w.heap.size w W→Calls Tryz.prog g (#[x.agg] ++ cb) W fun e w'=>e=.returned (.bool (p x))∧Below W.heap.size W w') :
  Calls Tryz.prog 26 #[.slice A n c,.func (.func g) #[] cb] w fun e w'=>e=.returned (.bool (l.all p))∧Below w.heap.size w w':=by
 obtain ⟨W0,hW,hav,hb0⟩:∃ W,W=w.alloc (.cells #[.func (.func g) #[] cb] 68)∧AtV W w.heap.size [.func (.func g) #[] cb]∧Below w.heap.size w W:=⟨_,rfl,AtV.new w _ _,(Below.refl _ _).alloc (Nat.le_refl _) _⟩
 obtain ⟨fb,hfb⟩:∃ fb,w.heap.size=fb:=⟨_,rfl⟩
 have HB0:=Lib.hid hb0
 have hfst:=containsDep_any A n c l 70 #[.pointer (some ⟨fb,0,none⟩)] (enters_of Tryz.func70 (by kernel_rfl) rfl) (fun x=>!p x) S W0 (hr.keep (KeepS.of_below hb0)) hn (fun W x hx hb=>by
  rw [hfb] at hav
  exact everyDep1_any x g cb eg fb (p x) W (hav.kept hb hav.lt) (fun V hv=>hp V x hx (hb0.trans ((hb.trans (hv.mono hb.size)).mono hb0.size))))
 rw [show (l.any fun x=>!p x)=!l.all p by rw [List.all_eq_not_any_not]; simp] at hfst
 clear hav hb0 hr hp
 go_enter Tryz.func26,Tryz.ntmps26
 go_upto_region 1 with (fail)
 rw [← hW]
 clear hW hfb
 go_wp2_with fail
 refine hfst.mono ?_
 rintro e W2 ⟨rfl,hb⟩
 clear hfst
 have HB:=Lib.hid (HB0.out.trans (hb.mono HB0.out.size))
 clear hb
 obtain ⟨b,hb⟩:∃ b,l.all p=b:=⟨_,rfl⟩
 have HBB:=Lib.hid hb
 rw [hb]
 clear hb
 cases b
 ·go_wp2
  go_ret
  exact ⟨by rw [HBB.out]; rfl,HB.out⟩
 ·go_wp2
  go_ret
  exact ⟨by rw [HBB.out]; rfl,HB.out⟩
theorem everyPin1_any (d:MPin) (g:Nat) (cb:Array Value) (eg:∀ args w,(callFunc g args).run Tryz.prog w=.ok (.enter g args) w) (fb:Nat) (b:Bool) (w:World) (hf:AtV w fb [.func (.func g) #[] cb])
  (hp:∀ W:World,Below w.heap.size w W→Calls Tryz.prog g (#[d.agg] ++ cb) W fun e w'=>e=.returned (.bool b)∧Below W.heap.size W w') :
  Calls Tryz.prog 72 #[d.agg,.pointer (some ⟨fb,0,none⟩)] w fun e w'=>e=.returned (.bool !b)∧Below w.heap.size w w':=by
 obtain ⟨W0,hW,hav,hb0⟩:∃ W,W=w.alloc (.cells #[.string (Ident.mk d.name),d.ver.v.a,d.ver.v.b,d.ver.v.c,.slice d.ver.A d.ver.v.pre.length d.ver.c,.slice d.ver.B d.ver.v.build.length d.ver.d] 62)∧AtV W w.heap.size [.string (Ident.mk d.name),.int .u64 d.ver.v.a,.int .u64 d.ver.v.b,.int .u64 d.ver.v.c,.slice d.ver.A d.ver.v.pre.length d.ver.c,.slice d.ver.B d.ver.v.build.length d.ver.d]∧Below w.heap.size w W:=⟨_,rfl,AtV.new w _ _,(Below.refl _ _).alloc (Nat.le_refl _) _⟩
 have HAV:=Lib.hid hav
 have HF:=Lib.hid (hf.kept hb0 hf.lt)
 have hcl:=hp W0 hb0
 have HB0:=Lib.hid hb0
 clear hav hb0 hf hp
 obtain ⟨bd,hbd⟩:∃ bd,w.heap.size=bd:=⟨_,rfl⟩
 unfold MPin.agg at hcl ⊢
 go_enter Tryz.func72,Tryz.ntmps72
 go_upto_region 1 with (fail)
 rw [← hW]
 rw [hbd] at HAV
 clear hW hbd
 have c0:=HAV.out.at_ 0 _ rfl
 have c1:=HAV.out.at_ 1 _ rfl
 have c2:=HAV.out.at_ 2 _ rfl
 have c3:=HAV.out.at_ 3 _ rfl
 have c4:=HAV.out.at_ 4 _ rfl
 have c5:=HAV.out.at_ 5 _ rfl
 have f0:=HF.out.at_ 0 _ rfl
 go_wp2_with (go_at_fn g; refine hcl.mono ?_; rintro e w' ⟨rfl,hb⟩)
 have HB:=Lib.hid (HB0.out.trans (hb.mono HB0.out.size))
 clear hb
 cases b
 ·go_wp2
  go_ret
  exact ⟨rfl,HB.out⟩
 ·go_wp2
  go_ret
  exact ⟨rfl,HB.out⟩
theorem everyPin_any (A:Option Addr) (n c:Nat) (l:List MPin) (g:Nat) (cb:Array Value) (eg:∀ args w,(callFunc g args).run Tryz.prog w=.ok (.enter g args) w) (p:MPin→Bool) (S:Nat→Prop) (w:World) (hr:KRow MPin.vals 6 w S A n l) (hn:n≤100000)
  (hp:∀ (W:World) (x:MPin),x ∈ l→Below w.heap.size w W→Calls Tryz.prog g (#[x.agg] ++ cb) W fun e w'=>e=.returned (.bool (p x))∧Below W.heap.size W w') :
  Calls Tryz.prog 27 #[.slice A n c,.func (.func g) #[] cb] w fun e w'=>e=.returned (.bool (l.all p))∧Below w.heap.size w w':=by
 obtain ⟨W0,hW,hav,hb0⟩:∃ W,W=w.alloc (.cells #[.func (.func g) #[] cb] 72)∧AtV W w.heap.size [.func (.func g) #[] cb]∧Below w.heap.size w W:=⟨_,rfl,AtV.new w _ _,(Below.refl _ _).alloc (Nat.le_refl _) _⟩
 obtain ⟨fb,hfb⟩:∃ fb,w.heap.size=fb:=⟨_,rfl⟩
 have HB0:=Lib.hid hb0
 have hfst:=containsPin_any A n c l 72 #[.pointer (some ⟨fb,0,none⟩)] (enters_of Tryz.func72 (by kernel_rfl) rfl) (fun x=>!p x) S W0 (hr.keep (KeepS.of_below hb0)) hn (fun W x hx hb=>by
  rw [hfb] at hav
  exact everyPin1_any x g cb eg fb (p x) W (hav.kept hb hav.lt) (fun V hv=>hp V x hx (hb0.trans ((hb.trans (hv.mono hb.size)).mono hb0.size))))
 rw [show (l.any fun x=>!p x)=!l.all p by rw [List.all_eq_not_any_not]; simp] at hfst
 clear hav hb0 hr hp
 go_enter Tryz.func27,Tryz.ntmps27
 go_upto_region 1 with (fail)
 rw [← hW]
 clear hW hfb
 go_wp2_with fail
 refine hfst.mono ?_
 rintro e W2 ⟨rfl,hb⟩
 clear hfst
 have HB:=Lib.hid (HB0.out.trans (hb.mono HB0.out.size))
 clear hb
 obtain ⟨b,hb⟩:∃ b,l.all p=b:=⟨_,rfl⟩
 have HBB:=Lib.hid hb
 rw [hb]
 clear hb
 cases b
 ·go_wp2
  go_ret
  exact ⟨by rw [HBB.out]; rfl,HB.out⟩
 ·go_wp2
  go_ret
  exact ⟨by rw [HBB.out]; rfl,HB.out⟩
end Go.Proofs.YtnpjklaaokiikaaGreatDoor.Model
namespace Go.Proofs.YtnpjklaaokiikaaGreatDoor.Model
open Go.RowKit Num Ident Semver Fr
open Range (Rng noRng RV KeepS LtB LenOk goodR wt)
open KR (KRow AtV)
open Name (isName)

theorem below_set8 {w W:World} {b:Nat} (h:Below w.heap.size w W) (hb:w.heap.size≤b) (u0 u1 u2 u3 u4 u5 u6 u7:Value):Below w.heap.size w ((((((((W.setCell ⟨b,0,none⟩ (u0)).setCell ⟨b,1,none⟩ (u1)).setCell ⟨b,2,none⟩ (u2)).setCell ⟨b,3,none⟩ (u3)).setCell ⟨b,4,none⟩ (u4)).setCell ⟨b,5,none⟩ (u5)).setCell ⟨b,6,none⟩ (u6)).setCell ⟨b,7,none⟩ (u7)) :=
 (((((((h.setCell (p:=⟨b,0,none⟩) hb _).setCell (p:=⟨b,1,none⟩) hb _).setCell (p:=⟨b,2,none⟩) hb _).setCell (p:=⟨b,3,none⟩) hb _).setCell (p:=⟨b,4,none⟩) hb _).setCell (p:=⟨b,5,none⟩) hb _).setCell (p:=⟨b,6,none⟩) hb _).setCell (p:=⟨b,7,none⟩) hb _
def pubF (l:List MRel) (v:Ver):Option MRel:=l.find? fun r=>sameV r.ver.v v
structure PubAt (w:World) (vb:Nat) (v:MVer) (W:World):Prop where
 ver:AtV W vb [.int .u64 v.v.a,.int .u64 v.v.b,.int .u64 v.v.c,.slice v.A v.v.pre.length v.c,.slice v.B v.v.build.length v.d]
 res:AtV W (vb+1) [.int .u64 0,.int .u64 0,.int .u64 0,.slice none 0 0,.slice none 0 0,.bool false,.slice none 0 0,.slice none 0 0]
 hi:w.heap.size≤vb
 bel:Below w.heap.size w W
theorem PubAt.kept {w:World} {vb:Nat} {v:MVer} {W W':World} (h:PubAt w vb v W) (hb:Below W.heap.size W W'):PubAt w vb v W' :=
 ⟨h.ver.kept hb h.ver.lt,h.res.kept hb h.res.lt,h.hi,h.bel.trans (hb.mono h.bel.size)⟩
theorem pub_start (w:World) (v:MVer):∃ W,W=(w.alloc (v.v,v.A,v.c,v.B,v.d)).alloc (.cells #[.int .u64 0,.int .u64 0,.int .u64 0,.slice none 0 0,.slice none 0 0,.bool false,.slice none 0 0,.slice none 0 0] 36)∧PubAt w w.heap.size v W:=by
 refine ⟨_,rfl,(AtV.new w _ _).kept ((Below.refl _ _).alloc (Nat.le_refl _) _) (by simp),?_,Nat.le_refl _,((Below.refl _ _).alloc (Nat.le_refl _) _).alloc (by simp) _⟩
 have h:=AtV.new (w.alloc (v.v,v.A,v.c,v.B,v.d)) 36 [.int .u64 0,.int .u64 0,.int .u64 0,.slice none 0 0,.slice none 0 0,.bool false,.slice none 0 0,.slice none 0 0]
 rwa [size_alloc] at h
theorem published_any (A:Option Addr) (n c:Nat) (l:List MRel) (v:MVer) (B:Nat) (w:World) (h:RRow w (LtB B) A n l) (hn:n≤maxLen) (hv:VerOk w (LtB B) v) :
  Calls Tryz.prog 73 #[.slice A n c,v.agg] w fun e w'=>e=.returned (relV (pubF l v.v))∧Below w.heap.size w w':=by
 have HO:=Lib.hid h
 have HL:=Lib.hid h.row.1
 have HV:=Lib.hid hv
 unfold maxLen at hn
 clear h hv
 unfold MVer.agg
 obtain ⟨W0,hW,hc0⟩:=pub_start w v
 have HC0:=Lib.hid hc0
 clear hc0
 obtain ⟨vb,hvb⟩:∃ vb,w.heap.size=vb:=⟨_,rfl⟩
 go_enter Tryz.func73,Tryz.ntmps73
 go_upto_region 1 with (fail)
 rw [← hW]
 clear hW
 rw [hvb] at HC0
 clear hvb
 go_wp2
 go_loopw [10] (fun y W=>∃ k:Nat,k≤n∧y=.int .i64 k∧Hid (∀ j,j<k→sameV (l.getD j default).ver.v v.v=false)∧Hid (PubAt w vb v W)) (fun y _=>n - (intOf y).toNat)
 case atStart=>exact ⟨0,Nat.zero_le _,rfl,(fun j hj=>by omega),HC0.out⟩
 case round =>
  rename World=>wk
  obtain ⟨k,hk,rfl,HD,HC⟩:=hrel
  by_cases hlt:k<n
  ·have hrow:=HO.out.keep (KeepS.of_below (S:=LtB B) HC.out.bel)
   have HRO:Hid (RelOk wk (LtB B) (l.getD k default)):=hrow.ok _ (getD_mem (by rw [HL.out]; exact hlt))
   obtain ⟨b,o,rfl,_,hb,c0,c1,c2,c3,c4,c5,c6,c7⟩:=hrow.cells hlt
   have HYES:Hid (sameV (l.getD k default).ver.v v.v=true→pubF l v.v=some (l.getD k default)):=fun h=>find_first _ l k (by rw [HL.out]; exact hlt) HD.out h
   have HNO:Hid (sameV (l.getD k default).ver.v v.v=false→∀ j,j<k+1→sameV (l.getD j default).ver.v v.v=false):=fun h j hj=>by
    rcases Nat.lt_or_ge j k with h1 | h1
    ·exact HD.out j h1
    ·obtain rfl:j=k:=by omega
     exact h
   obtain ⟨r,hr⟩:∃ r,l.getD k default=r:=⟨_,rfl⟩
   rw [hr] at c0 c1 c2 c3 c4 c5 c6 c7 HRO HYES HNO
   clear hr hrow
   obtain ⟨W1,hW1,hav,hb1⟩:∃ W,W=wk.alloc (.cells #[r.ver.v.a,r.ver.v.b,r.ver.v.c,.slice r.ver.A r.ver.v.pre.length r.ver.c,.slice r.ver.B r.ver.v.build.length r.ver.d,.bool r.yanked,.slice r.N r.needs.length r.nc,.slice r.B r.bans.length r.bc] 36)∧AtV W wk.heap.size [.int .u64 r.ver.v.a,.int .u64 r.ver.v.b,.int .u64 r.ver.v.c,.slice r.ver.A r.ver.v.pre.length r.ver.c,.slice r.ver.B r.ver.v.build.length r.ver.d,.bool r.yanked,.slice r.N r.needs.length r.nc,.slice r.B r.bans.length r.bc]∧Below wk.heap.size wk W:=⟨_,rfl,AtV.new wk _ _,(Below.refl _ _).alloc (Nat.le_refl _) _⟩
   have HC1:=Lib.hid (HC.out.kept hb1)
   have HR1:=Lib.hid (HRO.out.keep (KeepS.of_below (S:=LtB B) hb1))
   have HAV:=Lib.hid hav
   clear hb1 hav
   obtain ⟨q,hq⟩:∃ q,wk.heap.size=q:=⟨_,rfl⟩
   go_upto_region 4 with (fail)
   rw [← hW1]
   rw [hq] at HAV
   clear hW1 hq c0 c1 c2 c3 c4 c5 c6 c7 hb
   have a0:=HAV.out.at_ 0 _ rfl
   have a1:=HAV.out.at_ 1 _ rfl
   have a2:=HAV.out.at_ 2 _ rfl
   have a3:=HAV.out.at_ 3 _ rfl
   have a4:=HAV.out.at_ 4 _ rfl
   have v0:=HC1.out.ver.at_ 0 _ rfl
   have v1:=HC1.out.ver.at_ 1 _ rfl
   have v2:=HC1.out.ver.at_ 2 _ rfl
   have v3:=HC1.out.ver.at_ 3 _ rfl
   have v4:=HC1.out.ver.at_ 4 _ rfl
   go_wp2_with fail
   refine (same_parts r.ver.A r.ver.v.pre.length r.ver.c r.ver.v.pre r.ver.B r.ver.v.build.length r.ver.d r.ver.v.build v.A v.v.pre.length v.c v.v.pre v.B v.v.build.length v.d v.v.build r.ver.v.a r.ver.v.b r.ver.v.c v.v.a v.v.b v.v.c _ HR1.out.ver.pre HR1.out.ver.build (HV.out.pre.kept HC1.out.bel) (HV.out.build.kept HC1.out.bel) HR1.out.ver.fit.pre HR1.out.ver.fit.build HV.out.fit.pre HV.out.fit.build).mono ?_
   rintro e W2 ⟨rfl,hb2⟩
   have HC2:=Lib.hid (HC1.out.kept hb2)
   have HAV2:=Lib.hid (HAV.out.kept hb2 HAV.out.lt)
   clear hb2 a0 a1 a2 a3 a4 v0 v1 v2 v3 v4
   have hsv:sameV ⟨r.ver.v.a,r.ver.v.b,r.ver.v.c,r.ver.v.pre,r.ver.v.build⟩ ⟨v.v.a,v.v.b,v.v.c,v.v.pre,v.v.build⟩=sameV r.ver.v v.v:=rfl
   rw [hsv]
   clear hsv
   obtain ⟨s,hs⟩:∃ s,sameV r.ver.v v.v=s:=⟨_,rfl⟩
   have HSV:=Lib.hid hs
   rw [hs]
   clear hs
   cases s
   ·have HN:=Lib.hid (HNO.out HSV.out)
    go_wp2
    exact ⟨⟨k+1,by omega,by go_num,HN.out,HC2.out⟩,by simp [intOf]; omega⟩
   ·have HY:=Lib.hid (HYES.out HSV.out)
    have a0:=HAV2.out.at_ 0 _ rfl
    have a1:=HAV2.out.at_ 1 _ rfl
    have a2:=HAV2.out.at_ 2 _ rfl
    have a3:=HAV2.out.at_ 3 _ rfl
    have a4:=HAV2.out.at_ 4 _ rfl
    have a5:=HAV2.out.at_ 5 _ rfl
    have a6:=HAV2.out.at_ 6 _ rfl
    have a7:=HAV2.out.at_ 7 _ rfl
    have r0:=HC2.out.res.at_ 0 _ rfl
    have r1:=HC2.out.res.at_ 1 _ rfl
    have r2:=HC2.out.res.at_ 2 _ rfl
    have r3:=HC2.out.res.at_ 3 _ rfl
    have r4:=HC2.out.res.at_ 4 _ rfl
    have r5:=HC2.out.res.at_ 5 _ rfl
    have r6:=HC2.out.res.at_ 6 _ rfl
    have r7:=HC2.out.res.at_ 7 _ rfl
    have hrl:vb+1<W2.heap.size:=HC2.out.res.lt
    have hrf:=HC2.out.res.fr
    go_wp2
    refine bodyPost_ret (v:=.tuple #[.agg #[r.ver.v.a,r.ver.v.b,r.ver.v.c,.slice r.ver.A r.ver.v.pre.length r.ver.c,.slice r.ver.B r.ver.v.build.length r.ver.d,.bool r.yanked,.slice r.N r.needs.length r.nc,.slice r.B r.bans.length r.bc],.bool true]) (by simp [results,Tryz.results73,go_sem,r0,r1,r2,r3,r4,r5,r6,r7]) rfl ⟨by rw [HY.out]; rfl,below_set8 HC2.out.bel (by have:=HC2.out.hi; omega) _ _ _ _ _ _ _ _⟩
  ·obtain rfl:k=n:=by omega
   have HF:Hid (pubF l v.v=none):=find_none _ fun j hj=>HD.out j (by rw [← HL.out]; exact hj)
   have r0:=HC.out.res.at_ 0 _ rfl
   have r1:=HC.out.res.at_ 1 _ rfl
   have r2:=HC.out.res.at_ 2 _ rfl
   have r3:=HC.out.res.at_ 3 _ rfl
   have r4:=HC.out.res.at_ 4 _ rfl
   have r5:=HC.out.res.at_ 5 _ rfl
   have r6:=HC.out.res.at_ 6 _ rfl
   have r7:=HC.out.res.at_ 7 _ rfl
   have hrl:vb+1<wk.heap.size:=HC.out.res.lt
   have hrf:=HC.out.res.fr
   go_wp2
   refine bodyPost_ret (v:=.tuple #[.agg #[.int .u64 0,.int .u64 0,.int .u64 0,.slice none 0 0,.slice none 0 0,.bool false,.slice none 0 0,.slice none 0 0],.bool false]) (by simp [results,Tryz.results73,go_sem,r0,r1,r2,r3,r4,r5,r6,r7]) rfl ⟨by rw [HF.out]; rfl,below_set8 HC.out.bel (by have:=HC.out.hi; omega) _ _ _ _ _ _ _ _⟩
structure FindAt (w:World) (ib:Nat) (A:Option Addr) (n c:Nat) (p:MPin) (W:World):Prop where
 ix:AtV W ib [.slice A n c]
 pin:AtV W (ib+1) [.string (Ident.mk p.name),.int .u64 p.ver.v.a,.int .u64 p.ver.v.b,.int .u64 p.ver.v.c,.slice p.ver.A p.ver.v.pre.length p.ver.c,.slice p.ver.B p.ver.v.build.length p.ver.d]
 res:AtV W (ib+1+1) [.int .u64 0,.int .u64 0,.int .u64 0,.slice none 0 0,.slice none 0 0,.bool false,.slice none 0 0,.slice none 0 0]
 hi:w.heap.size≤ib
 bel:Below w.heap.size w W
theorem FindAt.kept {w:World} {ib:Nat} {A:Option Addr} {n c:Nat} {p:MPin} {W W':World} (h:FindAt w ib A n c p W) (hb:Below W.heap.size W W'):FindAt w ib A n c p W' :=
 ⟨h.ix.kept hb h.ix.lt,h.pin.kept hb h.pin.lt,h.res.kept hb h.res.lt,h.hi,h.bel.trans (hb.mono h.bel.size)⟩
theorem find_start (w:World) (A:Option Addr) (n c:Nat) (p:MPin):∃ W,W=((w.alloc (.cells #[.slice A n c] 24)).alloc (.cells #[.string (Ident.mk p.name),p.ver.v.a,p.ver.v.b,p.ver.v.c,.slice p.ver.A p.ver.v.pre.length p.ver.c,.slice p.ver.B p.ver.v.build.length p.ver.d] 62)).alloc (.cells #[.int .u64 0,.int .u64 0,.int .u64 0,.slice none 0 0,.slice none 0 0,.bool false,.slice none 0 0,.slice none 0 0] 36)∧FindAt w w.heap.size A n c p W:=by
 obtain ⟨V1,hV1⟩:∃ V,V=w.alloc (.cells #[.slice A n c] 24):=⟨_,rfl⟩
 have a1:AtV V1 w.heap.size [.slice A n c]:=by rw [hV1]; exact AtV.new w _ _
 have z1:V1.heap.size=w.heap.size+1:=by rw [hV1]; simp
 have b1:Below w.heap.size w V1:=by rw [hV1]; exact (Below.refl _ _).alloc (Nat.le_refl _) _
 obtain ⟨V2,hV2⟩:∃ V,V=V1.alloc (.cells #[.string (Ident.mk p.name),p.ver.v.a,p.ver.v.b,p.ver.v.c,.slice p.ver.A p.ver.v.pre.length p.ver.c,.slice p.ver.B p.ver.v.build.length p.ver.d] 62):=⟨_,rfl⟩
 have k2:Below V1.heap.size V1 V2:=by rw [hV2]; exact (Below.refl _ _).alloc (Nat.le_refl _) _
 have a2:AtV V2 (w.heap.size+1) [.string (Ident.mk p.name),.int .u64 p.ver.v.a,.int .u64 p.ver.v.b,.int .u64 p.ver.v.c,.slice p.ver.A p.ver.v.pre.length p.ver.c,.slice p.ver.B p.ver.v.build.length p.ver.d]:=by rw [hV2,← z1]; exact AtV.new V1 _ _
 have z2:V2.heap.size=w.heap.size+1+1:=by rw [hV2]; simp [z1]
 obtain ⟨V3,hV3⟩:∃ V,V=V2.alloc (.cells #[.int .u64 0,.int .u64 0,.int .u64 0,.slice none 0 0,.slice none 0 0,.bool false,.slice none 0 0,.slice none 0 0] 36):=⟨_,rfl⟩
 have k3:Below V2.heap.size V2 V3:=by rw [hV3]; exact (Below.refl _ _).alloc (Nat.le_refl _) _
 have a3:AtV V3 (w.heap.size+1+1) [.int .u64 0,.int .u64 0,.int .u64 0,.slice none 0 0,.slice none 0 0,.bool false,.slice none 0 0,.slice none 0 0]:=by rw [hV3,← z2]; exact AtV.new V2 _ _
 exact ⟨V3,by rw [hV3,hV2,hV1],(a1.kept k2 (by omega)).kept k3 (by omega),a2.kept k3 (by omega),a3,Nat.le_refl _,b1.trans ((k2.trans (k3.mono (by omega))).mono (by omega))⟩
theorem find_any (A:Option Addr) (n c:Nat) (x:List MPack) (p:MPin) (B:Nat) (w:World) (h:PRow w (LtB B) A n x) (hn:n≤maxLen) (hp:PinOk w (LtB B) p) :
  Calls Tryz.prog 29 #[.agg #[.slice A n c],p.agg] w fun e w'=>e=.returned (relV (findRel x p.name p.ver.v))∧Below w.heap.size w w':=by
 have HO:=Lib.hid h
 have HL:=Lib.hid h.row.1
 have HP:=Lib.hid hp
 unfold maxLen at hn
 clear h hp
 unfold MPin.agg
 obtain ⟨W0,hW,hc0⟩:=find_start w A n c p
 have HC0:=Lib.hid hc0
 clear hc0
 obtain ⟨ib,hib⟩:∃ ib,w.heap.size=ib:=⟨_,rfl⟩
 go_enter Tryz.func29,Tryz.ntmps29
 go_upto_region 1 with (fail)
 rw [← hW]
 clear hW
 rw [hib] at HC0
 clear hib
 have i0:=HC0.out.ix.at_ 0 _ rfl
 go_wp2
 clear i0
 go_loopw [11] (fun y W=>∃ k:Nat,k≤n∧y=.int .i64 k∧Hid (∀ j,j<k→(x.getD j default).name≠p.name)∧Hid (FindAt w ib A n c p W)) (fun y _=>n - (intOf y).toNat)
 case atStart=>exact ⟨0,Nat.zero_le _,rfl,(fun j hj=>by omega),HC0.out⟩
 case round =>
  rename World=>wk
  obtain ⟨k,hk,rfl,HD,HC⟩:=hrel
  by_cases hlt:k<n
  ·have hrow:=HO.out.keep (KeepS.of_below (S:=LtB B) HC.out.bel)
   have HPK:Hid (PackOk wk (LtB B) (x.getD k default)):=hrow.ok _ (getD_mem (by rw [HL.out]; exact hlt))
   obtain ⟨b,o,rfl,_,hb,c0,c1⟩:=hrow.cells hlt
   have HYES:Hid ((x.getD k default).name=p.name→findRel x p.name p.ver.v=pubF (x.getD k default).rels p.ver.v):=fun e=>by
    unfold findRel
    rw [find_first (fun q:MPack=>q.name == p.name) x k (by rw [HL.out]; exact hlt) (fun j hj=>beq_eq_false_iff_ne.2 (HD.out j hj)) (by rw [beq_iff_eq]; exact e)]; rfl
   have HNO:Hid ((x.getD k default).name≠p.name→∀ j,j<k+1→(x.getD j default).name≠p.name):=fun h j hj=>by
    rcases Nat.lt_or_ge j k with h1 | h1
    ·exact HD.out j h1
    ·obtain rfl:j=k:=by omega
     exact h
   obtain ⟨r,hr⟩:∃ r,x.getD k default=r:=⟨_,rfl⟩
   rw [hr] at c0 c1 HPK HYES HNO
   clear hr hrow
   obtain ⟨W1,hW1,hav,hb1⟩:∃ W,W=wk.alloc (.cells #[.string (Ident.mk r.name),.slice r.R r.rels.length r.rc] 60)∧AtV W wk.heap.size [.string (Ident.mk r.name),.slice r.R r.rels.length r.rc]∧Below wk.heap.size wk W:=⟨_,rfl,AtV.new wk _ _,(Below.refl _ _).alloc (Nat.le_refl _) _⟩
   have HC1:=Lib.hid (HC.out.kept hb1)
   have HR1:=Lib.hid (HPK.out.keep (KeepS.of_below (S:=LtB B) hb1))
   have HAV:=Lib.hid hav
   clear hb1 hav
   obtain ⟨q,hq⟩:∃ q,wk.heap.size=q:=⟨_,rfl⟩
   go_upto_region 4 with (fail)
   rw [← hW1]
   rw [hq] at HAV
   clear hW1 hq c0 c1 hb
   have a0:=HAV.out.at_ 0 _ rfl
   have p0:=HC1.out.pin.at_ 0 _ rfl
   by_cases hnq:r.name=p.name
   ·have hbe:((Ident.mk r.name).toList == (Ident.mk p.name).toList)=true:=by rw [hnq]; exact mk_eq _
    have HY:=Lib.hid (HYES.out hnq)
    clear hnq
    have a1:=HAV.out.at_ 1 _ rfl
    have p1:=HC1.out.pin.at_ 1 _ rfl
    have p2:=HC1.out.pin.at_ 2 _ rfl
    have p3:=HC1.out.pin.at_ 3 _ rfl
    have p4:=HC1.out.pin.at_ 4 _ rfl
    have p5:=HC1.out.pin.at_ 5 _ rfl
    go_wp2_with fail
    refine (published_any r.R r.rels.length r.rc r.rels p.ver B _ HR1.out.rels (Nat.le_trans HR1.out.rc.1 HR1.out.rc.2) (HP.out.ver.keep (KeepS.of_below HC1.out.bel))).mono ?_
    rintro e W2 ⟨rfl,hb2⟩
    have HC2:=Lib.hid (HC1.out.kept hb2)
    clear hb2 a0 a1 p0 p1 p2 p3 p4 p5 hbe
    obtain ⟨m,hm⟩:∃ m,pubF r.rels p.ver.v=m:=⟨_,rfl⟩
    rw [hm] at HY ⊢
    clear hm
    have r0:=HC2.out.res.at_ 0 _ rfl
    have r1:=HC2.out.res.at_ 1 _ rfl
    have r2:=HC2.out.res.at_ 2 _ rfl
    have r3:=HC2.out.res.at_ 3 _ rfl
    have r4:=HC2.out.res.at_ 4 _ rfl
    have r5:=HC2.out.res.at_ 5 _ rfl
    have r6:=HC2.out.res.at_ 6 _ rfl
    have r7:=HC2.out.res.at_ 7 _ rfl
    have hrl:ib+1+1<W2.heap.size:=HC2.out.res.lt
    have hrf:=HC2.out.res.fr
    cases m with
    | none =>
     unfold relV
     go_wp2
     refine bodyPost_ret (v:=.tuple #[.agg #[.int .u64 0,.int .u64 0,.int .u64 0,.slice none 0 0,.slice none 0 0,.bool false,.slice none 0 0,.slice none 0 0],.bool false]) (by simp [results,Tryz.results29,go_sem,r0,r1,r2,r3,r4,r5,r6,r7]) rfl ⟨by rw [HY.out]; rfl,below_set8 HC2.out.bel (by have:=HC2.out.hi; omega) _ _ _ _ _ _ _ _⟩
    | some r =>
     unfold relV MRel.agg
     go_wp2
     refine bodyPost_ret (v:=.tuple #[.agg #[r.ver.v.a,r.ver.v.b,r.ver.v.c,.slice r.ver.A r.ver.v.pre.length r.ver.c,.slice r.ver.B r.ver.v.build.length r.ver.d,.bool r.yanked,.slice r.N r.needs.length r.nc,.slice r.B r.bans.length r.bc],.bool true]) (by simp [results,Tryz.results29,go_sem,r0,r1,r2,r3,r4,r5,r6,r7]) rfl ⟨by rw [HY.out]; rfl,below_set8 HC2.out.bel (by have:=HC2.out.hi; omega) _ _ _ _ _ _ _ _⟩
   ·have hbe:((Ident.mk r.name).toList == (Ident.mk p.name).toList)=false:=mk_ne hnq
    have HN:=Lib.hid (HNO.out hnq)
    clear hnq
    go_wp2
    exact ⟨⟨k+1,by omega,by go_num,HN.out,HC1.out⟩,by simp [intOf]; omega⟩
  ·obtain rfl:k=n:=by omega
   have HF:Hid (findRel x p.name p.ver.v=none):=by
    unfold findRel Hid
    rw [find_none (fun q:MPack=>q.name == p.name) fun j hj=>beq_eq_false_iff_ne.2 (HD.out j (by rw [← HL.out]; exact hj))]; rfl
   have r0:=HC.out.res.at_ 0 _ rfl
   have r1:=HC.out.res.at_ 1 _ rfl
   have r2:=HC.out.res.at_ 2 _ rfl
   have r3:=HC.out.res.at_ 3 _ rfl
   have r4:=HC.out.res.at_ 4 _ rfl
   have r5:=HC.out.res.at_ 5 _ rfl
   have r6:=HC.out.res.at_ 6 _ rfl
   have r7:=HC.out.res.at_ 7 _ rfl
   have hrl:ib+1+1<wk.heap.size:=HC.out.res.lt
   have hrf:=HC.out.res.fr
   go_wp2
   refine bodyPost_ret (v:=.tuple #[.agg #[.int .u64 0,.int .u64 0,.int .u64 0,.slice none 0 0,.slice none 0 0,.bool false,.slice none 0 0,.slice none 0 0],.bool false]) (by simp [results,Tryz.results29,go_sem,r0,r1,r2,r3,r4,r5,r6,r7]) rfl ⟨by rw [HF.out]; rfl,below_set8 HC.out.bel (by have:=HC.out.hi; omega) _ _ _ _ _ _ _ _⟩
end Go.Proofs.YtnpjklaaokiikaaGreatDoor.Model
