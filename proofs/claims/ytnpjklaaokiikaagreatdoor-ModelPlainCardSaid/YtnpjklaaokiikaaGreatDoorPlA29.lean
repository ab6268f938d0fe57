/-
  What the theorem of the last text needs of these: MoAwake, MoArgs, MoChk. Conditions: as each theorem states.
-/
import Derived.Test.YtnpjklaaokiikaaGreatDoorPlA1
import Derived.Test.YtnpjklaaokiikaaGreatDoorPlA22
import Derived.Test.YtnpjklaaokiikaaGreatDoorPlA27
import Derived.Test.YtnpjklaaokiikaaGreatDoorPlA28
set_option maxRecDepth 100000
set_option maxHeartbeats 25600000
namespace Go.Proofs.YtnpjklaaokiikaaGreatDoor.Model
open Go.RowKit Num Ident Semver
open Range (Rng noRng RV KeepS LtB LenOk goodR wt zeroRV)
open KR (KRow AtV)

theorem KRow.one_new {α:Type} [Inhabited α] {vals:α→List Value} {k:Nat} (w:World) (t:TypeId) (x:α) {B:Nat} (hB:w.heap.size<B):KRow vals k (w.alloc (.cells (vals x).toArray t)) (LtB B) (some ⟨w.heap.size,0,none⟩) 1 [x]:=by
 refine ⟨rfl,fun _=>⟨w.heap.size,0,rfl,hB,by simp,fun j hj i u hu=>?_⟩⟩
 obtain rfl:j=0:=by omega
 have:=(AtV.new w t (vals x)).at_ i u hu
 rw [show (0:Nat)+0 * k+i=i by omega]; exact this
def v100:Ver:=⟨1,0,0,[],[]⟩
def depA (s:List UInt8):MDep:=⟨s,noRng,zeroRV 0⟩
theorem depA_ok (s:List UInt8) (hs:s.length≤maxLen) (w:World) (S:Nat→Prop):DepOk w S (depA s):=⟨hs,Range.Lies.zero w S 0,LenOk.mk _ _ _ (by simp) (by simp),Nrm.Slim.mk _ _ _ (by decide) (by decide) (by simp)⟩
theorem verA_ok (w:World) (S:Nat→Prop):VerOk w S ⟨v100,none,0,none,0⟩ :=
 ⟨SRow.none_ _ _,SRow.none_ _ _,fun h=>absurd h (Nat.lt_irrefl _),fun h=>absurd h (Nat.lt_irrefl _),Nat.le_refl _,Nat.le_refl _,⟨by decide,by decide,by decide,by decide,by decide,by simp [v100],by simp [v100]⟩⟩
def relA (N:Option Addr) (nc:Nat) (needs:List MDep):MRel:=⟨⟨v100,none,0,none,0⟩,false,N,nc,needs,none,0,[]⟩
def packA (R:Addr) (r:MRel):MPack:=⟨[97],some R,1,[r]⟩
def pinA:MPin:=⟨[97],⟨v100,none,0,none,0⟩⟩
theorem few_depA (s:List UInt8) (hs:s.length≤300):FewD [depA s] :=
 ⟨by simp,fun d hd=>by obtain rfl:=List.mem_singleton.1 hd; exact ⟨hs,fun _=>by show Nrm.tot noRng≤12; decide⟩⟩
theorem few_packA (R:Addr) (N:Option Addr) (nc:Nat) (needs:List MDep) (h:FewD needs):FewX [packA R (relA N nc needs)] :=
 ⟨by simp,(fun p hp=>by obtain rfl:=List.mem_singleton.1 hp; exact ⟨by show 1≤300; omega,by show 1≤6; omega⟩),fun p hp r hr=>by
  obtain rfl:=List.mem_singleton.1 hp
  obtain rfl:r=relA N nc needs:=List.mem_singleton.1 hr
  exact ⟨by show 0≤20; omega,by show 0≤20; omega,h,fewD_none⟩⟩
theorem few_pinA:FewS [pinA]:=⟨by simp,fun p hp=>by obtain rfl:=List.mem_singleton.1 hp; exact ⟨by decide,by decide,by decide⟩⟩
def xA (needs:List PDep):List PPack:=[⟨[97],[⟨v100,false,needs,[]⟩]⟩]
theorem xA_p (R:Addr) (N:Option Addr) (nc:Nat) (needs:List MDep):[packA R (relA N nc needs)].map MPack.p=xA (needs.map MDep.p):=rfl
theorem chk1:checkF (xA [⟨[98],noRng⟩])=none:=by decide +kernel
theorem sol1:solvesB (xA [⟨[98],noRng⟩]) [⟨[97],noRng⟩] [⟨[97],v100⟩]=false:=by decide +kernel
theorem sol2:solvesB (xA []) [⟨[97],noRng⟩] [⟨[97],v100⟩]=true:=by decide +kernel
theorem awake_x (w:World):∃ W,W=((((w.alloc (.cells #[.string { data:=#[98] },.int .i64 0,.int .u64 0,.int .u64 0,.int .u64 0,.slice none 0 0,.slice none 0 0,.slice none 0 0] 57)).alloc (.cells #[.int .u64 1,.int .u64 0,.int .u64 0,.slice none 0 0,.slice none 0 0,.bool false,.slice (some ⟨w.heap.size,0,none⟩) 1 1,.slice none 0 0] 36)).alloc (.cells #[.string { data:=#[97] },.slice (some ⟨w.heap.size+1,0,none⟩) 1 1] 60)).alloc (.cells #[.slice (some ⟨w.heap.size+1+1,0,none⟩) 1 1] 24)).alloc (.cells #[.string { data:=#[97] },.int .i64 0,.int .u64 0,.int .u64 0,.int .u64 0,.slice none 0 0,.slice none 0 0,.slice none 0 0] 57)∧∃ R:Addr,∃ N:Option Addr,PRow W (LtB W.heap.size) (some ⟨w.heap.size+1+1,0,none⟩) 1 [packA R (relA N 1 [depA [98]])]∧DRow W (LtB W.heap.size) (some ⟨w.heap.size+1+1+1+1,0,none⟩) 1 [depA [97]]∧AtV W (w.heap.size+1+1+1) [.slice (some ⟨w.heap.size+1+1,0,none⟩) 1 1]∧Below w.heap.size w W:=by
 obtain ⟨d1,hd1⟩:∃ d:MDep,d=depA [98]:=⟨_,rfl⟩
 obtain ⟨B,hB⟩:∃ B,B=w.heap.size+5:=⟨_,rfl⟩
 have k1:KRow MDep.vals 8 (w.alloc (.cells (depA [98]).vals.toArray 57)) (LtB B) (some ⟨w.heap.size,0,none⟩) 1 [depA [98]]:=KRow.one_new w _ _ (by omega)
 obtain ⟨V1,hV1⟩:∃ V,V=w.alloc (.cells (depA [98]).vals.toArray 57):=⟨_,rfl⟩
 have z1:V1.heap.size=w.heap.size+1:=by rw [hV1]; simp
 rw [← hV1] at k1
 have ok1:DRow V1 (LtB B) (some ⟨w.heap.size,0,none⟩) 1 [depA [98]]:=⟨k1,fun d hd=>by obtain rfl:=List.mem_singleton.1 hd; exact depA_ok _ (by decide) _ _⟩
 obtain ⟨r,hr⟩:∃ r,r=relA (some ⟨w.heap.size,0,none⟩) 1 [depA [98]]:=⟨_,rfl⟩
 obtain ⟨V2,hV2⟩:∃ V,V=V1.alloc (.cells r.vals.toArray 36):=⟨_,rfl⟩
 have z2:V2.heap.size=w.heap.size+1+1:=by rw [hV2]; simp [z1]
 have k2:KRow MRel.vals 8 V2 (LtB B) (some ⟨w.heap.size+1,0,none⟩) 1 [r]:=by rw [hV2,← z1]; exact KRow.one_new V1 _ _ (by omega)
 have ro:RelOk V2 (LtB B) r:=by
  have:=ok1.keep (KeepS.alloc (S:=LtB B) V1 (.cells r.vals.toArray 36))
  rw [← hV2] at this
  rw [hr]
  exact ⟨verA_ok _ _,this,DRow.none_ _ _,⟨Nat.le_refl _,by show 1≤maxLen; unfold maxLen; omega⟩,⟨Nat.le_refl _,by show 0≤maxLen; unfold maxLen; omega⟩,(fun e=>by cases e),fun _=>rfl⟩
 have ok2:RRow V2 (LtB B) (some ⟨w.heap.size+1,0,none⟩) 1 [r]:=⟨k2,fun d hd=>by obtain rfl:=List.mem_singleton.1 hd; exact ro⟩
 obtain ⟨p,hp⟩:∃ p,p=packA ⟨w.heap.size+1,0,none⟩ r:=⟨_,rfl⟩
 obtain ⟨V3,hV3⟩:∃ V,V=V2.alloc (.cells p.vals.toArray 60):=⟨_,rfl⟩
 have z3:V3.heap.size=w.heap.size+1+1+1:=by rw [hV3]; simp [z2]
 have k3:KRow MPack.vals 2 V3 (LtB B) (some ⟨w.heap.size+1+1,0,none⟩) 1 [p]:=by rw [hV3,← z2]; exact KRow.one_new V2 _ _ (by omega)
 have po:PackOk V3 (LtB B) p:=by
  have:=ok2.keep (KeepS.alloc (S:=LtB B) V2 (.cells p.vals.toArray 60))
  rw [← hV3] at this
  rw [hp]
  exact ⟨by show 1≤maxLen; unfold maxLen; omega,this,⟨Nat.le_refl _,by show 1≤maxLen; unfold maxLen; omega⟩,fun e=>by cases e⟩
 have ok3:PRow V3 (LtB B) (some ⟨w.heap.size+1+1,0,none⟩) 1 [p]:=⟨k3,fun d hd=>by obtain rfl:=List.mem_singleton.1 hd; exact po⟩
 obtain ⟨V4,hV4⟩:∃ V,V=V3.alloc (.cells #[.slice (some ⟨w.heap.size+1+1,0,none⟩) 1 1] 24):=⟨_,rfl⟩
 have z4:V4.heap.size=w.heap.size+1+1+1+1:=by rw [hV4]; simp [z3]
 have a4:AtV V4 (w.heap.size+1+1+1) [.slice (some ⟨w.heap.size+1+1,0,none⟩) 1 1]:=by rw [hV4,← z3]; exact AtV.new V3 _ _
 have k5:KRow MDep.vals 8 (V4.alloc (.cells (depA [97]).vals.toArray 57)) (LtB B) (some ⟨w.heap.size+1+1+1+1,0,none⟩) 1 [depA [97]]:=by rw [← z4]; exact KRow.one_new V4 _ _ (by omega)
 have b45:Below V4.heap.size V4 (V4.alloc (.cells (depA [97]).vals.toArray 57)):=(Below.refl _ _).alloc (Nat.le_refl _) _
 have hB5:(V4.alloc (.cells (depA [97]).vals.toArray 57)).heap.size=B:=by simp [z4]; omega
 refine ⟨V4.alloc (.cells (depA [97]).vals.toArray 57),by rw [hV4,hV3,hp,hV2,hr,hV1]; rfl,⟨w.heap.size+1,0,none⟩,some ⟨w.heap.size,0,none⟩,?_,?_,a4.kept b45 (by omega),?_⟩
 ·rw [hB5,← hr,← hp]
  have:=(ok3.keep (KeepS.alloc (S:=LtB B) V3 (.cells #[.slice (some ⟨w.heap.size+1+1,0,none⟩) 1 1] 24)))
  rw [← hV4] at this
  exact this.keep (KeepS.alloc (S:=LtB B) V4 _)
 ·rw [hB5]
  exact ⟨k5,fun d hd=>by obtain rfl:=List.mem_singleton.1 hd; exact depA_ok _ (by decide) _ _⟩
 ·rw [hV4,hV3,hV2,hV1]
  exact (((((Below.refl _ _).alloc (Nat.le_refl _) _).alloc (by simp) _).alloc (by simp; omega) _).alloc (by simp; omega) _).alloc (by simp; omega) _
theorem awake_y (w:World):∃ W,W=(((w.alloc (.cells #[.string { data:=#[97] },.int .u64 1,.int .u64 0,.int .u64 0,.slice none 0 0,.slice none 0 0] 62)).alloc (.cells #[.int .u64 1,.int .u64 0,.int .u64 0,.slice none 0 0,.slice none 0 0,.bool false,.slice none 0 0,.slice none 0 0] 36)).alloc (.cells #[.string { data:=#[97] },.slice (some ⟨w.heap.size+1,0,none⟩) 1 1] 60)).alloc (.cells #[.slice (some ⟨w.heap.size+1+1,0,none⟩) 1 1] 24)∧∃ R:Addr,SPRow W (LtB W.heap.size) (some ⟨w.heap.size,0,none⟩) 1 [pinA]∧PRow W (LtB W.heap.size) (some ⟨w.heap.size+1+1,0,none⟩) 1 [packA R (relA none 0 [])]∧AtV W (w.heap.size+1+1+1) [.slice (some ⟨w.heap.size+1+1,0,none⟩) 1 1]∧Below w.heap.size w W:=by
 obtain ⟨B,hB⟩:∃ B,B=w.heap.size+4:=⟨_,rfl⟩
 have k1:KRow MPin.vals 6 (w.alloc (.cells pinA.vals.toArray 62)) (LtB B) (some ⟨w.heap.size,0,none⟩) 1 [pinA]:=KRow.one_new w _ _ (by omega)
 obtain ⟨V1,hV1⟩:∃ V,V=w.alloc (.cells pinA.vals.toArray 62):=⟨_,rfl⟩
 have z1:V1.heap.size=w.heap.size+1:=by rw [hV1]; simp
 rw [← hV1] at k1
 have ok1:SPRow V1 (LtB B) (some ⟨w.heap.size,0,none⟩) 1 [pinA]:=⟨k1,fun d hd=>by obtain rfl:=List.mem_singleton.1 hd; exact ⟨by show 1≤maxLen; unfold maxLen; omega,verA_ok _ _⟩⟩
 obtain ⟨r,hr⟩:∃ r,r=relA none 0 []:=⟨_,rfl⟩
 obtain ⟨V2,hV2⟩:∃ V,V=V1.alloc (.cells r.vals.toArray 36):=⟨_,rfl⟩
 have z2:V2.heap.size=w.heap.size+1+1:=by rw [hV2]; simp [z1]
 have k2:KRow MRel.vals 8 V2 (LtB B) (some ⟨w.heap.size+1,0,none⟩) 1 [r]:=by rw [hV2,← z1]; exact KRow.one_new V1 _ _ (by omega)
 have ro:RelOk V2 (LtB B) r:=by
  rw [hr]
  exact ⟨verA_ok _ _,DRow.none_ _ _,DRow.none_ _ _,⟨Nat.le_refl _,by show 0≤maxLen; unfold maxLen; omega⟩,⟨Nat.le_refl _,by show 0≤maxLen; unfold maxLen; omega⟩,(fun _=>rfl),fun _=>rfl⟩
 have ok2:RRow V2 (LtB B) (some ⟨w.heap.size+1,0,none⟩) 1 [r]:=⟨k2,fun d hd=>by obtain rfl:=List.mem_singleton.1 hd; exact ro⟩
 obtain ⟨p,hp⟩:∃ p,p=packA ⟨w.heap.size+1,0,none⟩ r:=⟨_,rfl⟩
 obtain ⟨V3,hV3⟩:∃ V,V=V2.alloc (.cells p.vals.toArray 60):=⟨_,rfl⟩
 have z3:V3.heap.size=w.heap.size+1+1+1:=by rw [hV3]; simp [z2]
 have k3:KRow MPack.vals 2 V3 (LtB B) (some ⟨w.heap.size+1+1,0,none⟩) 1 [p]:=by rw [hV3,← z2]; exact KRow.one_new V2 _ _ (by omega)
 have po:PackOk V3 (LtB B) p:=by
  have:=ok2.keep (KeepS.alloc (S:=LtB B) V2 (.cells p.vals.toArray 60))
  rw [← hV3] at this
  rw [hp]
  exact ⟨by show 1≤maxLen; unfold maxLen; omega,this,⟨Nat.le_refl _,by show 1≤maxLen; unfold maxLen; omega⟩,fun e=>by cases e⟩
 have ok3:PRow V3 (LtB B) (some ⟨w.heap.size+1+1,0,none⟩) 1 [p]:=⟨k3,fun d hd=>by obtain rfl:=List.mem_singleton.1 hd; exact po⟩
 have a4:AtV (V3.alloc (.cells #[.slice (some ⟨w.heap.size+1+1,0,none⟩) 1 1] 24)) (w.heap.size+1+1+1) [.slice (some ⟨w.heap.size+1+1,0,none⟩) 1 1]:=by rw [← z3]; exact AtV.new V3 _ _
 have hB5:(V3.alloc (.cells #[.slice (some ⟨w.heap.size+1+1,0,none⟩) 1 1] 24)).heap.size=B:=by simp [z3]; omega
 refine ⟨V3.alloc (.cells #[.slice (some ⟨w.heap.size+1+1,0,none⟩) 1 1] 24),by rw [hV3,hp,hV2,hr,hV1]; rfl,⟨w.heap.size+1,0,none⟩,?_,?_,a4,?_⟩
 ·rw [hB5]
  have h2:=ok1.keep (KeepS.alloc (S:=LtB B) V1 (.cells r.vals.toArray 36))
  rw [← hV2] at h2
  have h3:=h2.keep (KeepS.alloc (S:=LtB B) V2 (.cells p.vals.toArray 60))
  rw [← hV3] at h3
  exact h3.keep (KeepS.alloc (S:=LtB B) V3 _)
 ·rw [hB5,← hr,← hp]
  exact ok3.keep (KeepS.alloc (S:=LtB B) V3 _)
 ·rw [hV3,hV2,hV1]
  exact ((((Below.refl _ _).alloc (Nat.le_refl _) _).alloc (by simp) _).alloc (by simp; omega) _).alloc (by simp; omega) _
theorem one_ok (A:Addr):SlOk (some A) 1 1:=⟨Nat.le_refl _,by unfold maxLen; omega,fun e=>by cases e⟩
theorem awake_of (S:SaysA) (w:World) (ht:Tab w):Calls Tryz.prog 6 #[] w fun e w'=>e=.returned (.bool true)∧Below w.heap.size w w':=by
 have HS:=Lib.hid S
 have HT:=Lib.hid ht
 clear S ht
 obtain ⟨W,hW,R,N,hx,hr,hi,hb⟩:=awake_x w
 have HX:=Lib.hid hx
 have HR:=Lib.hid hr
 have HI:=Lib.hid hi
 have HB:=Lib.hid hb
 clear hx hr hi hb
 go_enter Tryz.func6,Tryz.ntmps6
 go_upto_region 3 with (fail)
 rw [← hW]
 clear hW
 obtain ⟨z,hz⟩:∃ z,w.heap.size=z:=⟨_,rfl⟩
 rw [hz] at HX HR HI ⊢
 have HZ:=Lib.hid hz
 clear hz
 have i0:=HI.out.at_ 0 _ rfl
 go_wp2_with fail
 refine (HS.out.check _ 1 1 _ W.heap.size W HX.out (Nat.le_refl _) (one_ok _) (few_packA R N 1 _ (few_depA _ (by decide))) (HT.out.kept HB.out)).mono ?_
 rw [xA_p]
 rw [show checkF (xA ([depA [98]].map MDep.p))=none from chk1,show checkV none=.tuple #[.agg #[.int .i64 (-1),.int .i64 (-1),.int .i64 (-1)],.int .i64 0] from rfl]
 rintro e W1 ⟨rfl,hb1⟩
 have HB1:=Lib.hid (HB.out.trans (hb1.mono HB.out.size))
 have HI1:=Lib.hid (HI.out.kept hb1 HI.out.lt)
 have HX1:=Lib.hid (HX.out.keep (KeepS.of_below (S:=LtB W.heap.size) hb1))
 have HR1:=Lib.hid (HR.out.keep (KeepS.of_below (S:=LtB W.heap.size) hb1))
 have HZ1:Hid (W.heap.size≤W1.heap.size):=hb1.size
 clear hb1 i0 HI
 go_upto_region 4 with (fail)
 have HAL:Hid (Below W1.heap.size W1 (W1.alloc (.cells #[.int .i64 (-1),.int .i64 (-1),.int .i64 (-1)] 42))):=(Below.refl _ _).alloc (Nat.le_refl _) _
 have HQ:Hid (AtV (W1.alloc (.cells #[.int .i64 (-1),.int .i64 (-1),.int .i64 (-1)] 42)) W1.heap.size [.int .i64 (-1),.int .i64 (-1),.int .i64 (-1)]):=AtV.new W1 _ _
 have HB2:=Lib.hid (HB1.out.trans (HAL.out.mono HB1.out.size))
 have HI2:=Lib.hid (HI1.out.kept HAL.out HI1.out.lt)
 have HX2:=Lib.hid (HX1.out.keep (KeepS.of_below (S:=LtB W.heap.size) HAL.out))
 have HR2:=Lib.hid (HR1.out.keep (KeepS.of_below (S:=LtB W.heap.size) HAL.out))
 have HZ2:Hid (W.heap.size≤(W1.alloc (.cells #[.int .i64 (-1),.int .i64 (-1),.int .i64 (-1)] 42)).heap.size):=Nat.le_trans HZ1.out HAL.out.size
 obtain ⟨q,hq⟩:∃ q,W1.heap.size=q:=⟨_,rfl⟩
 rw [hq] at HQ ⊢
 have HQE:=Lib.hid hq
 clear hq HAL HI1 HX1 HR1 HB1
 generalize W1.alloc (.cells #[.int .i64 (-1),.int .i64 (-1),.int .i64 (-1)] 42)=V at HQ HB2 HI2 HX2 HR2 HZ2 ⊢
 obtain ⟨U,hU,R',hs,hy,hi,hb⟩:=awake_y V
 have HS3:=Lib.hid hs
 have HY3:=Lib.hid hy
 have HI3:=Lib.hid hi
 have HB3:=Lib.hid (HB2.out.trans (hb.mono HB2.out.size))
 have HX3:Hid (PRow U (LtB U.heap.size) (some ⟨z+1+1,0,none⟩) 1 [packA R (relA N 1 [depA [98]])]):=(HX2.out.keep (KeepS.of_below (S:=LtB W.heap.size) hb)).mono fun b g _=>Nat.lt_of_lt_of_le g (Nat.le_trans HZ2.out hb.size)
 have HR3:Hid (DRow U (LtB U.heap.size) (some ⟨z+1+1+1+1,0,none⟩) 1 [depA [97]]):=(HR2.out.keep (KeepS.of_below (S:=LtB W.heap.size) hb)).mono fun b g _=>Nat.lt_of_lt_of_le g (Nat.le_trans HZ2.out hb.size)
 have HJ3:=Lib.hid (HI2.out.kept hb HI2.out.lt)
 have HQ3:=Lib.hid (HQ.out.kept hb HQ.out.lt)
 clear hs hy hi hb HX2 HR2 HI2 HQ HB2
 go_upto_region 6 with (fail)
 rw [← hU]
 clear hU
 obtain ⟨y,hy⟩:∃ y,V.heap.size=y:=⟨_,rfl⟩
 rw [hy] at HS3 HY3 HI3 ⊢
 have HYE:=Lib.hid hy
 clear hy
 have i0:=HJ3.out.at_ 0 _ rfl
 have q0:=HQ3.out.at_ 0 _ rfl
 go_wp2_with fail
 refine (HS.out.solves _ 1 1 _ _ 1 1 _ _ 1 1 _ U.heap.size U HX3.out HR3.out HS3.out (Nat.le_refl _) (one_ok _) (one_ok _) (one_ok _) (few_packA R N 1 _ (few_depA _ (by decide))) (few_depA _ (by decide)) few_pinA (HT.out.kept HB3.out)).mono ?_
 rw [xA_p,show solvesB (xA ([depA [98]].map MDep.p)) ([depA [97]].map MDep.p) ([pinA].map MPin.p)=false from sol1]
 rintro e U1 ⟨rfl,hb⟩
 have HB4:=Lib.hid (HB3.out.trans (hb.mono HB3.out.size))
 have HY4:=Lib.hid (HY3.out.keep (KeepS.of_below (S:=LtB U.heap.size) hb))
 have HR4:=Lib.hid (HR3.out.keep (KeepS.of_below (S:=LtB U.heap.size) hb))
 have HS4:=Lib.hid (HS3.out.keep (KeepS.of_below (S:=LtB U.heap.size) hb))
 have HI4:=Lib.hid (HI3.out.kept hb HI3.out.lt)
 have HZ4:Hid (U.heap.size≤U1.heap.size):=hb.size
 clear hb i0 q0
 have i0:=HI4.out.at_ 0 _ rfl
 go_wp2_with fail
 refine (HS.out.solves _ 1 1 _ _ 1 1 _ _ 1 1 _ U.heap.size U1 HY4.out HR4.out HS4.out HZ4.out (one_ok _) (one_ok _) (one_ok _) (few_packA R' none 0 [] fewD_none) (few_depA _ (by decide)) few_pinA (HT.out.kept HB4.out)).mono ?_
 rw [xA_p,show solvesB (xA (([]:List MDep).map MDep.p)) ([depA [97]].map MDep.p) ([pinA].map MPin.p)=true from sol2]
 rintro e U2 ⟨rfl,hb⟩
 have HB5:=Lib.hid (HB4.out.trans (hb.mono HB4.out.size))
 clear hb i0
 go_wp2
 go_ret
 exact ⟨rfl,HB5.out⟩
end Go.Proofs.YtnpjklaaokiikaaGreatDoor.Model
namespace Go.Proofs.YtnpjklaaokiikaaGreatDoor.Came
open Go.ChangeShapes Go.WideShapes Go.RowKit Go.Deep
open Range (LtB)
open Model (MDep MVer MRel MPack MPin DRow PRow SPRow VerOk SlOk)

theorem index {H:Type} {enc:TypeId × Value→H} {W:World} {r:Reach} {b0:Nat} {x:Value} {d:DataW H} {ps:List MemPlace} (hv:Value.okWide Tryz.prog W r b0 24 x)
  (h:DataW.Trod enc Tryz.prog W 0 (fun _=>true) true 24 x d ps) (hs0:Sized 24 d) :
  ∃ (a:Option Addr) (cap:Nat) (l:List MPack),x=.agg #[.slice a l.length cap]∧PRow W (LtB W.heap.size) a l.length l∧SlOk a l.length cap:=by
 obtain ⟨cs,rfl,_⟩:=okWide_struct Tryz.underlying24 hv
 obtain ⟨fuel,hf⟩:=h
 obtain ⟨l⟩:=cs
 have hC:Tryz.prog.cellsOf 24=1:=by kernel_rfl
 have cp:Tryz.prog.cellsOf 22=1:=by kernel_rfl
 obtain ⟨xs,n,_,hy0,hsz,hlen,hg⟩:=DataW.trod_struct Tryz.underlying24 hf
 have hl:xs.length=1:=hlen
 rw [hC] at hsz
 have hsz:l.length=1:=by simpa [Value.cells] using hsz
 match l,hsz with
 | [z0],_ =>
  match xs,hl with
  | [y0],_ =>
   have f0:DataW.trod enc Tryz.prog W 0 (fun _=>true) true n 22 (([z0].drop 0).take (Tryz.prog.cellsOf 22))=some y0:=hg 0 _ rfl
   rw [cp] at f0
   have g0:DataW.trod enc Tryz.prog W 0 (fun _=>true) true n 22 [z0]=some y0:=f0
   obtain ⟨A,c,l,e,h1,h2,h3,h4⟩:=packs_at g0 (by
    have e:d=.agg ([y0].map (·.1)):=congrArg Prod.fst hy0
    rw [e] at hs0
    exact hs0.part Tryz.underlying24 (i:=0) rfl rfl)
   simp at e
   subst e
   exact ⟨A,c,l,rfl,h1,h2,h3,h4⟩
theorem mver {H:Type} {enc:TypeId × Value→H} {W:World} {r:Reach} {b0:Nat} {x:Value} {d:DataW H} {ps:List MemPlace} (hv:Value.okWide Tryz.prog W r b0 34 x)
  (h:DataW.Trod enc Tryz.prog W 0 (fun _=>true) true 34 x d ps):∃ u:MVer,x=u.agg∧VerOk W (LtB W.heap.size) u:=by
 obtain ⟨cs,rfl,_⟩:=okWide_struct Tryz.underlying34 hv
 obtain ⟨fuel,hf⟩:=h
 obtain ⟨l⟩:=cs
 obtain ⟨u,e,hu⟩:=mver_at hf
 have e:l=u.vals:=e
 exact ⟨u,by rw [e]; rfl,hu⟩
end Go.Proofs.YtnpjklaaokiikaaGreatDoor.Came
namespace Go.Proofs.YtnpjklaaokiikaaGreatDoor.Model
open Go.RowKit Num Ident Semver Fr
open Range (Rng noRng RV KeepS LtB LenOk goodR wt)
open KR (KRow AtV)
open Name (isName)
open Nrm (hasR inV)
def packK (x:List (List UInt8)) (p:PPack):Int × Int × Int:=if isName p.name=false then (-1,-1,12) else if p.name ∈ x then (-1,-1,6) else out3 (firstG (relF p.name p.rels) 0 p.rels)
theorem packK_name {x:List (List UInt8)} {p:PPack} (h:isName p.name=false):packK x p=(-1,-1,12):=by unfold packK; rw [if_pos h]
theorem packK_there {x:List (List UInt8)} {p:PPack} (h:isName p.name=true) (g:p.name ∈ x):packK x p=(-1,-1,6):=by unfold packK; rw [if_neg (by rw [h]; decide),if_pos g]
theorem packK_rels {x:List (List UInt8)} {p:PPack} (h:isName p.name=true) (g:p.name ∉ x):packK x p=out3 (firstG (relF p.name p.rels) 0 p.rels):=by unfold packK; rw [if_neg (by rw [h]; decide),if_neg g]
theorem relF_ne {pn:List UInt8} {l:List PRel} {k:Nat} {r:PRel} {q:Int × Int} (h:relF pn l k r=some q):q.2≠0:=by
 unfold relF at h
 split at h
 ·injection h with h; subst h; decide
 ·split at h
  ·injection h with h; subst h; decide
  ·obtain ⟨p,hp,rfl⟩:=Option.map_eq_some_iff.1 h
   exact (firstE_some (g:=fun j d=>banE pn r.v r.needs.length j d) hp).1
theorem firstG_at {α β:Type} (f:Nat→α→Option β):∀ (l:List α) (m:Nat) (q:Nat × β),firstG f m l=some q→∃ k x,f k x=some q.2
 | [],_,_,h=>by cases h
 | x :: l,m,q,h=>by
  rw [firstG] at h
  cases hx:f m x with
  | some b=>rw [hx] at h; injection h with h; subst h; exact ⟨m,x,hx⟩
  | none=>rw [hx] at h; exact firstG_at f l (m+1) q h
theorem packK_zero {x:List (List UInt8)} {p:PPack} (h:(packK x p).2.2=0):packK x p=(-1,-1,0)∧firstG (relF p.name p.rels) 0 p.rels=none:=by
 unfold packK at h ⊢
 by_cases h1:isName p.name=false
 ·rw [if_pos h1] at h; cases h
 ·rw [if_neg h1] at h ⊢
  by_cases h2:p.name ∈ x
  ·rw [if_pos h2] at h; cases h
  ·rw [if_neg h2] at h ⊢
   cases hd:firstG (relF p.name p.rels) 0 p.rels with
   | none=>exact ⟨rfl,rfl⟩
   | some q =>
    rw [hd] at h
    obtain ⟨k,r,hr⟩:=firstG_at _ _ _ _ hd
    exact absurd h (relF_ne hr)
theorem packK_some {x:List (List UInt8)} {l:List PPack} {k:Nat} {p:PPack} (hv:p.name ∈ x↔nameB PPack.name l k=true):packF l k p=if (packK x p).2.2=0 then none else some (packK x p):=by
 unfold packF
 by_cases h1:isName p.name=false
 ·rw [if_pos h1,packK_name h1]; rfl
 ·have hg:isName p.name=true:=by rwa [Bool.not_eq_false] at h1
  rw [if_neg h1]
  by_cases h2:nameB PPack.name l k=true
  ·rw [if_pos h2,packK_there hg (hv.2 h2)]; rfl
  ·rw [if_neg h2,packK_rels hg (fun g=>h2 (hv.1 g))]
   cases hd:firstG (relF p.name p.rels) 0 p.rels with
   | none=>rfl
   | some q =>
    obtain ⟨k,r,hr⟩:=firstG_at _ _ _ _ hd
    have:=relF_ne hr
    show some ((q.1:Int),q.2.1,q.2.2)=if q.2.2=0 then none else some ((q.1:Int),q.2.1,q.2.2)
    rw [if_neg this]
structure PackPost1 (x:List (List UInt8)) (s:List UInt8) (mb wb:Nat) (q:Int × Int × Int) (w:World) (e:Ending) (w':World):Prop where
 out:e=.returned (.int .i64 q.2.2)
 dep:AtV w' wb [.int .i64 (-1),.int .i64 q.1,.int .i64 q.2.1]
 seen:q.2.2=0→SeenAt w' mb (x ++ [s])
 but:But (fun b=>b=mb∨b=wb) w w'
theorem pack1_any (p:MPack) (sb wb mb:Nat) (x:List (List UInt8)) (B:Nat) (w:World) (hp:PackOk w (LtB B) p) (hf:∀ r ∈ p.rels,FewRel r) (hn:p.rels.length≤6) (hs:AtV w sb [.map (some mb)]) (hd:AtV w wb [.int .i64 (-1),.int .i64 (-1),.int .i64 (-1)]) (hx:SeenAt w mb x) (hxl:x.length≤1000)
  (hne:sb≠mb∧sb≠wb∧wb≠mb) (hml:B≤mb∧B≤wb) (hB:B≤w.heap.size) (w0:World) (ht:Tab w0) (hw0:Below w0.heap.size w0 w) (hmw:w0.heap.size≤mb∧w0.heap.size≤wb) :
  Calls Tryz.prog 50 #[p.agg,.pointer (some ⟨sb,0,none⟩),.pointer (some ⟨wb,0,none⟩)] w (PackPost1 x p.name mb wb (packK x p.p) w):=by
 have HF:=Lib.hid hf
 have HNE:=Lib.hid hne
 have HML:=Lib.hid hml
 have HE1:=Lib.hid (fun h=>packK_name (x:=x) (p:=p.p) h)
 have HE2:=Lib.hid (fun h g=>packK_there (x:=x) (p:=p.p) h g)
 have HE3:=Lib.hid (fun h g=>packK_rels (x:=x) (p:=p.p) h g)
 obtain ⟨W0,hW,hav,hb0⟩:∃ W,W=w.alloc (.cells #[.string (Ident.mk p.name),.slice p.R p.rels.length p.rc] 60)∧AtV W w.heap.size [.string (Ident.mk p.name),.slice p.R p.rels.length p.rc]∧Below w.heap.size w W:=⟨_,rfl,AtV.new w _ _,(Below.refl _ _).alloc (Nat.le_refl _) _⟩
 have HAV:=Lib.hid hav
 have HB0:Hid (But (fun b=>b=mb∨b=wb) w W0):=But.of_same hb0 _
 have HP0:=Lib.hid (hp.keep (KeepS.of_below (S:=LtB B) hb0))
 have HS0:=Lib.hid (hs.kept hb0 hs.lt)
 have HD0:=Lib.hid (hd.kept hb0 hd.lt)
 have HX0:=Lib.hid (hx.kept hb0 hx.lt)
 have HT:Hid (∀ W',But (fun b=>b=mb∨b=wb) w W'→Tab W'):=fun W' h=>ht.kept (hw0.trans (h.below (B:=w0.heap.size) (fun k e=>by omega) hw0.size))
 have HL0:Hid (B≤W0.heap.size):=Nat.le_trans hB hb0.size
 have HQ0:Hid (¬ (w.heap.size=mb∨w.heap.size=wb)):=fun h=>by have a:=hx.lt; have b:=hd.lt; omega
 clear hav hb0 hp hs hd hx hf hne hml ht hw0 hmw
 obtain ⟨bd,hbd⟩:∃ bd,w.heap.size=bd:=⟨_,rfl⟩
 unfold MPack.agg
 go_enter Tryz.func50,Tryz.ntmps50
 go_upto_region 1 with (fail)
 rw [← hW]
 clear hW
 rw [hbd] at HAV HQ0
 clear hbd hB
 have c0:=HAV.out.at_ 0 _ rfl
 go_wp2_with fail
 refine (Name.good_any (Ident.mk p.name) _ (by rw [mk_size]; exact HP0.out.short)).mono ?_
 rw [mk_list]
 rintro e W1 ⟨rfl,hb⟩
 have HAV1:=Lib.hid (HAV.out.kept hb HAV.out.lt)
 have HB1:=Lib.hid (HB0.out.then_same hb)
 have HP1:=Lib.hid (HP0.out.keep (KeepS.of_below (S:=LtB B) hb))
 have HS1:=Lib.hid (HS0.out.kept hb HS0.out.lt)
 have HD1:=Lib.hid (HD0.out.kept hb HD0.out.lt)
 have HX1:=Lib.hid (HX0.out.kept hb HX0.out.lt)
 have HL1:Hid (B≤W1.heap.size):=Nat.le_trans HL0.out hb.size
 clear hb c0
 cases hnm:isName p.name
 ·have HZ:=Lib.hid (HE1.out hnm)
  clear hnm
  go_wp2
  go_ret
  exact ⟨by rw [HZ.out]; rfl,by rw [HZ.out]; exact HD1.out,(fun h=>by rw [HZ.out] at h; cases h),HB1.out⟩
 ·have HNM:=Lib.hid hnm
  clear hnm
  have c0:=HAV1.out.at_ 0 _ rfl
  have s0:=HS1.out.at_ 0 _ rfl
  go_wp2_with fail
  refine (again_any mb x (Ident.mk p.name) _ HX1.out (by rw [mk_size]; exact HP1.out.short) (by omega)).mono ?_
  rw [mk_list]
  rintro e W3 ⟨rfl,hx3,hb⟩
  have HX3:=Lib.hid hx3
  have HH3:Hid (But (fun b=>b=mb∨b=wb) W1 W3):=hb.mono fun k e=>.inl e
  have HB3:=Lib.hid (HB1.out.then_ HH3.out)
  have HP3:=Lib.hid (HP1.out.keep (keepS_but HH3.out fun g hg e=>by have:=HML.out; have hg:g<B:=hg; omega))
  have HAV3:=Lib.hid (HAV1.out.but HH3.out HQ0.out)
  have HD3:=Lib.hid (HD1.out.but hb (fun e=>by have:=HNE.out; omega))
  have HT3:Hid (Tab W3):=HT.out W3 HB3.out
  have HL3:Hid (B≤W3.heap.size):=Nat.le_trans HL1.out HH3.out.size
  clear hb hx3 c0 s0
  obtain ⟨b,hb⟩:∃ b,decide (p.name ∈ x)=b:=⟨_,rfl⟩
  have HIN:=Lib.hid hb
  rw [hb]
  clear hb
  cases b
  ·have HZ:=Lib.hid (HE3.out HNM.out (of_decide_eq_false HIN.out))
   have c0:=HAV3.out.at_ 0 _ rfl
   have c1:=HAV3.out.at_ 1 _ rfl
   have d0:=HD3.out.at_ 0 _ rfl
   have d1:=HD3.out.at_ 1 _ rfl
   have d2:=HD3.out.at_ 2 _ rfl
   go_wp2_with fail
   refine (releasesFault_any p B _ HP3.out HF.out hn HT3.out HL3.out).mono ?_
   rintro e W4 ⟨rfl,hb⟩
   have HB4:=Lib.hid (HB3.out.then_same hb)
   have HD4:=Lib.hid (HD3.out.kept hb HD3.out.lt)
   have HX4:=Lib.hid (HX3.out.kept hb HX3.out.lt)
   clear hb c0 c1 d0 d1 d2
   have hpn:p.p.name=p.name:=rfl
   rw [hpn] at HZ
   obtain ⟨q,hq⟩:∃ q,out3 (firstG (relF p.name p.p.rels) 0 p.p.rels)=q:=⟨_,rfl⟩
   have HQ:=Lib.hid (HZ.out.trans hq)
   rw [hq]
   unfold relsV
   clear hq HZ hpn
   have d0:=HD4.out.at_ 0 _ rfl
   have d1:=HD4.out.at_ 1 _ rfl
   have d2:=HD4.out.at_ 2 _ rfl
   have hdl:wb<W4.heap.size:=HD4.out.lt
   have hdf:=HD4.out.fr
   go_wp2
   go_ret
   have hs2:But (fun b=>b=mb∨b=wb) W4 ((W4.setCell ⟨wb,1,none⟩ (.int .i64 q.1)).setCell ⟨wb,2,none⟩ (.int .i64 q.2.1)):=((But.refl _ _).set _ _ _ (.inl (.inr rfl))).set _ _ _ (.inl (.inr rfl))
   refine ⟨by rw [HQ.out]; rfl,by rw [HQ.out]; exact (HD4.out.set 1 (.int .i64 q.1) (by simp)).set 2 (.int .i64 q.2.1) (by simp),fun _=>HX4.out.but (T:=fun b=>b=wb) (((But.refl (fun b=>b=wb) _).set _ _ _ (.inl rfl)).set _ _ _ (.inl rfl)) (fun e=>by have:=HNE.out; omega),HB4.out.then_ hs2⟩
  ·have HZ:=Lib.hid (HE2.out HNM.out (of_decide_eq_true HIN.out))
   go_wp2
   go_ret
   exact ⟨by rw [HZ.out]; rfl,by rw [HZ.out]; exact HD3.out,(fun h=>by rw [HZ.out] at h; cases h),HB3.out⟩
end Go.Proofs.YtnpjklaaokiikaaGreatDoor.Model
