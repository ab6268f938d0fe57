/-
  What the theorem of the last text needs of these: NmRefOf. Conditions: as each theorem states.
-/
import Derived.Test.YtgfbflnhjpbceaaGreatDoorSetB1
import Derived.Test.YtgfbflnhjpbceaaGreatDoorSetB14
import Derived.Test.YtgfbflnhjpbceaaGreatDoorSetB21
import Derived.Test.YtgfbflnhjpbceaaGreatDoorSetB25
import Derived.Test.YtgfbflnhjpbceaaGreatDoorSetB26
import Derived.Test.YtgfbflnhjpbceaaGreatDoorSetB31
import Derived.Test.YtgfbflnhjpbceaaGreatDoorSetB32
import Derived.BigQuiet
set_option maxRecDepth 100000
set_option maxHeartbeats 25600000
namespace Go.Proofs.YtgfbflnhjpbceaaGreatDoor.Nrm
open Go.RowKit Num Ident Semver Prec Span
open Range (Rng noRng goodR goodL fits wt wtL RV RAt KeepS LtB LenOk wt_mem CellsAt)
def RSetIn (w:World) (P:List Sp→Prop) (e:Ending) (w':World):Prop :=
 ∃ (A:Option Addr) (n c:Nat) (out:List RSp),e=.returned (.slice A n c)∧SpRow w' A n out∧P (out.map RSp.sp)∧n≤c∧(A=none→c=0)∧Below w.heap.size w w'
theorem RSetIn.imp {w w1:World} {P Q:List Sp→Prop} {e:Ending} {w':World} (h:RSetIn w1 P e w') (hb:Below w.heap.size w w1) (hPQ:∀ o,P o→Q o):RSetIn w Q e w':=by
 obtain ⟨A,n,c,out,h1,h2,h3,h4,h5,h6⟩:=h
 exact ⟨A,n,c,out,h1,h2,hPQ _ h3,h4,h5,hb.trans (h6.mono hb.size)⟩
theorem BuildFull.set {w:World} {l r:List RSp} {how:Int} {e:Ending} {w':World} (h:BuildFull w l r how e w'):RSetIn w (BuiltOf (l.map RSp.sp) (r.map RSp.sp) how) e w':=by
 obtain ⟨A,n,c,out,h1,h2,_,h3,h4,h5,_,h6⟩:=h
 exact ⟨A,n,c,out,h1,h2,h3,h4,h5,h6⟩
theorem built_normal {a o:List Sp} (h:BuiltOf a [] 0 o):NormalOf a o:=⟨h.1,fun c=>by
 rw [h.2 c,if_neg (by decide),if_neg (by decide)]
 exact ⟨fun g=>g.2.elim id fun g=>absurd g (inR_nil c),fun g=>⟨inR_all g,.inl g⟩⟩⟩
theorem built_not {a o:List Sp} (h:BuiltOf a [] 2 o):NotOf a o:=⟨h.1,fun c=>by rw [h.2 c,if_pos rfl]⟩
theorem and_start {v:Ver} {o:List Sp} (h:BuiltOf [⟨low,high⟩] [] 0 o):SetOf (.mk 9 v []) o:=by
 have h:=built_normal h
 refine ⟨h.1,fun c=>?_⟩
 rw [h.2,inR_one ((cnt_iff _).2 ⟨low_right,high_right,low_high⟩),inC_and]
 exact ⟨fun g=>⟨g,fun x hx=>by cases hx⟩,fun g=>g.1⟩
theorem all_start {v:Ver} {l:List Rng} {o:List Sp} (h:BuiltOf [⟨low,high⟩] [] 0 o):SetOf (.mk 0 v l) o:=set_span (by omega) (by omega) (by omega) (.inl rfl) l (built_normal h)
theorem or_start (v:Ver):SetOf (.mk 10 v []) []:=⟨Norm.nil,fun c=>by rw [inC_or]; exact ⟨fun h=>absurd h (inS_nil c),fun ⟨x,hx,_⟩=>by cases hx⟩⟩
theorem and_more {v:Ver} {l:List Rng} {x:Rng} {a b o:List Sp} (ha:SetOf (.mk 9 v l) a) (hb:SetOf x b) (h:BuiltOf a b 1 o):SetOf (.mk 9 v (l ++ [x])) o:=⟨h.1,fun c=>by
 rw [h.2 c,if_neg (by decide),if_pos rfl,ha.1.inR,hb.1.inR,ha.2,hb.2,inC_and,inC_and]
 constructor
 ·rintro ⟨h0,⟨_,h1⟩,h2⟩
  refine ⟨h0,fun y hy=>?_⟩
  rcases List.mem_append.1 hy with hy | hy
  ·exact h1 y hy
  ·rw [List.mem_singleton] at hy; rw [hy]; exact h2
 ·rintro ⟨h0,h1⟩
  exact ⟨h0,⟨h0,fun y hy=>h1 y (List.mem_append_left _ hy)⟩,h1 x (List.mem_append_right _ (List.mem_singleton.2 rfl))⟩⟩
theorem or_more {v:Ver} {l:List Rng} {x:Rng} {a b o:List Sp} (ha:SetOf (.mk 10 v l) a) (hb:SetOf x b) (h:BuiltOf a b 0 o):SetOf (.mk 10 v (l ++ [x])) o:=⟨h.1,fun c=>by
 rw [h.2 c,if_neg (by decide),if_neg (by decide),ha.1.inR,hb.1.inR,ha.2,hb.2,inC_or,inC_or]
 constructor
 ·rintro ⟨_,⟨y,hy,h1⟩ | h1⟩
  ·exact ⟨y,List.mem_append_left _ hy,h1⟩
  ·exact ⟨x,List.mem_append_right _ (List.mem_singleton.2 rfl),h1⟩
 ·rintro ⟨y,hy,h1⟩
  refine ⟨inC_all h1,?_⟩
  rcases List.mem_append.1 hy with hy | hy
  ·exact .inl ⟨y,hy,h1⟩
  ·rw [List.mem_singleton] at hy; rw [hy] at h1; exact .inr h1⟩
theorem row5 {W:World} {b:Nat} {p q r:Int} {S1 S2:Option Addr} {n1 m1 n2 m2:Nat} (h:At5 W b (.int .u64 p) (.int .u64 q) (.int .u64 r) (.slice S1 n1 m1) (.slice S2 n2 m2)) (v0 v1 v2 v3 v4:Value) {A:Option Addr} {n:Nat} {xs:List (List UInt8)} (hr:SRow W A n xs):SRow (Ident.set5 W b v0 v1 v2 v3 v4) A n xs:=by
 obtain ⟨_,_,c0,c1,c2,c3,c4⟩:=h
 exact SRow.set5 hr c0 c1 c2 c3 c4 (fun s e=>by cases e) (fun s e=>by cases e) (fun s e=>by cases e) (fun s e=>by cases e) (fun s e=>by cases e) v0 v1 v2 v3 v4
theorem row6 {W:World} {b:Nat} {k p q r:Int} {S1 S2:Option Addr} {n1 m1 n2 m2:Nat} (h:At6B W b (.int .i64 k) (.int .u64 p) (.int .u64 q) (.int .u64 r) (.slice S1 n1 m1) (.slice S2 n2 m2)) (v0 v1 v2 v3 v4 v5:Value) {A:Option Addr} {n:Nat} {xs:List (List UInt8)} (hr:SRow W A n xs):SRow (Span.set6 W b v0 v1 v2 v3 v4 v5) A n xs:=by
 obtain ⟨_,_,c0,c1,c2,c3,c4,c5⟩:=h
 refine SRow.set (SRow.set5 hr c0 c1 c2 c3 c4 (fun s e=>by cases e) (fun s e=>by cases e) (fun s e=>by cases e) (fun s e=>by cases e) (fun s e=>by cases e) v0 v1 v2 v3 v4) (u:=.slice S2 n2 m2) ?_ (fun s e=>by cases e) v5
 exact (cell_beside _ _ _ _ _ (by omega)).trans ((cell_beside _ _ _ _ _ (by omega)).trans ((cell_beside _ _ _ _ _ (by omega)).trans ((cell_beside _ _ _ _ _ (by omega)).trans ((cell_beside _ _ _ _ _ (by omega)).trans c5))))
theorem bel5 (W:World) (b:Nat) (v0 v1 v2 v3 v4:Value):Below b W (Ident.set5 W b v0 v1 v2 v3 v4) :=
 (((((Below.refl b W).setCell (p:=⟨b,0,none⟩) (Nat.le_refl _) v0).setCell (p:=⟨b,1,none⟩) (Nat.le_refl _) v1).setCell (p:=⟨b,2,none⟩) (Nat.le_refl _) v2).setCell (p:=⟨b,3,none⟩) (Nat.le_refl _) v3).setCell (p:=⟨b,4,none⟩) (Nat.le_refl _) v4
theorem cc_start (w:World) (x y:RCut) (hx:Span.Lies w x) (hy:Span.Lies w y):∃ W,W=((w.alloc x).alloc y)∧Hid (Below w.heap.size w W)∧Hid (LiesS W ⟨x,y⟩)∧Hid (At6B W w.heap.size x.kind x.v.a x.v.b x.v.c (.slice x.A x.v.pre.length x.c) (.slice x.B x.v.build.length x.d))∧Hid (At6B W (w.heap.size+1) y.kind y.v.a y.v.b y.v.c (.slice y.A y.v.pre.length y.c) (.slice y.B y.v.build.length y.d)):=by
 have hb:Below w.heap.size w ((w.alloc x).alloc y):=((Below.refl _ _).alloc (Nat.le_refl _) _).alloc (by simp) _
 refine ⟨_,rfl,hb,⟨hx.kept hb,hy.kept hb⟩,(At6B.new w 41 x.kind x.v.a x.v.b x.v.c (.slice x.A x.v.pre.length x.c) (.slice x.B x.v.build.length x.d)).kept ((Below.refl _ _).alloc (Nat.le_refl _) _) (by simp),?_⟩
 have h:=At6B.new (w.alloc x) 41 y.kind y.v.a y.v.b y.v.c (.slice y.A y.v.pre.length y.c) (.slice y.B y.v.build.length y.d)
 rw [size_alloc] at h; exact h
theorem refSpan_any (x y:RCut) (w:World) (hx:Span.Lies w x) (hy:Span.Lies w y) :
  Calls Tryz.prog 62 #[.agg #[x.kind,x.v.a,x.v.b,x.v.c,.slice x.A x.v.pre.length x.c,.slice x.B x.v.build.length x.d],.agg #[y.kind,y.v.a,y.v.b,y.v.c,.slice y.A y.v.pre.length y.c,.slice y.B y.v.build.length y.d]] w (RSetIn w (BuiltOf [⟨x.cut,y.cut⟩] [] 0)):=by
 obtain ⟨W,hW,HB0,HS0,X1,Y1⟩:=cc_start w x y hx hy
 clear hx hy
 go_enter Tryz.func62,Tryz.ntmps62
 go_upto_region 1 with (fail)
 rw [← hW]
 clear hW
 obtain ⟨a1,a2,x0,x1,x2,x3,x4,x5⟩:=X1.out
 obtain ⟨b1,b2,y0,y1,y2,y3,y4,y5⟩:=Y1.out
 have R1:=Lib.hid (SpRow.one W ⟨x,y⟩ HS0.out)
 have B1:Hid (Below w.heap.size w (W.alloc (.cells (RSp.mk x y).vals.toArray 43))):=HB0.out.alloc HB0.out.size _
 go_wp2_with fail
 refine (build_full (some ⟨W.heap.size,0,none⟩) 1 1 [⟨x,y⟩] none 0 0 [] 0 _ ⟨R1.out,fun h=>by cases h⟩ ⟨SpRow.none_ _ _,fun _=>rfl⟩ (by omega) (by omega) (.inl rfl)).mono ?_
 intro e w3 h3
 have HS:Hid (RSetIn w (BuiltOf [⟨x.cut,y.cut⟩] [] 0) e w3):=(BuildFull.set h3).imp B1.out fun _ h=>h
 obtain ⟨A3,n3,c3,out,rfl,q1,q2,q3,q4,q5⟩:=HS.out
 clear h3
 go_wp2
 go_ret
 exact HS.out
theorem of_start (w:World) (x:RV):∃ W,W=(((((w.alloc x).alloc (.cells #[x.v.a,x.v.b,x.v.c,.slice x.A x.v.pre.length x.c,.slice none 0 0] 25)).alloc (.cells #[.int .i64 1,x.v.a,x.v.b,x.v.c,.slice x.A x.v.pre.length x.c,.slice none 0 0] 41)).alloc (.cells #[.int .i64 2,x.v.a,x.v.b,x.v.c,.slice x.A x.v.pre.length x.c,.slice none 0 0] 41)).alloc (.cells #[.int .i64 3,.int .u64 0,.int .u64 0,.int .u64 0,.slice none 0 0,.slice none 0 0] 41))∧Hid (Below w.heap.size w W)∧Hid (RAt W w.heap.size x)∧Hid (At6B W (w.heap.size+1+1) (.int .i64 1) x.v.a x.v.b x.v.c (.slice x.A x.v.pre.length x.c) (.slice none 0 0))∧Hid (At6B W (w.heap.size+1+1+1) (.int .i64 2) x.v.a x.v.b x.v.c (.slice x.A x.v.pre.length x.c) (.slice none 0 0))∧Hid (At6B W (w.heap.size+1+1+1+1) (.int .i64 3) (.int .u64 0) (.int .u64 0) (.int .u64 0) (.slice none 0 0) (.slice none 0 0)):=by
 have s1:=size_alloc w x
 have b5:∀ (u:World) (o:Obj),Below u.heap.size u (u.alloc o):=fun u o=>(Below.refl _ _).alloc (Nat.le_refl _) o
 have h3:=(At6B.new ((w.alloc x).alloc (.cells #[x.v.a,x.v.b,x.v.c,.slice x.A x.v.pre.length x.c,.slice none 0 0] 25)) 41 (.int .i64 1) x.v.a x.v.b x.v.c (.slice x.A x.v.pre.length x.c) (.slice none 0 0)).kept (b5 _ (.cells #[.int .i64 2,x.v.a,x.v.b,x.v.c,.slice x.A x.v.pre.length x.c,.slice none 0 0] 41)) (by simp)
 have h3:=h3.kept (b5 _ (.cells #[.int .i64 3,.int .u64 0,.int .u64 0,.int .u64 0,.slice none 0 0,.slice none 0 0] 41)) (by simp)
 have h4:=(At6B.new (((w.alloc x).alloc (.cells #[x.v.a,x.v.b,x.v.c,.slice x.A x.v.pre.length x.c,.slice none 0 0] 25)).alloc (.cells #[.int .i64 1,x.v.a,x.v.b,x.v.c,.slice x.A x.v.pre.length x.c,.slice none 0 0] 41)) 41 (.int .i64 2) x.v.a x.v.b x.v.c (.slice x.A x.v.pre.length x.c) (.slice none 0 0)).kept (b5 _ (.cells #[.int .i64 3,.int .u64 0,.int .u64 0,.int .u64 0,.slice none 0 0,.slice none 0 0] 41)) (by simp)
 have h5:=At6B.new ((((w.alloc x).alloc (.cells #[x.v.a,x.v.b,x.v.c,.slice x.A x.v.pre.length x.c,.slice none 0 0] 25)).alloc (.cells #[.int .i64 1,x.v.a,x.v.b,x.v.c,.slice x.A x.v.pre.length x.c,.slice none 0 0] 41)).alloc (.cells #[.int .i64 2,x.v.a,x.v.b,x.v.c,.slice x.A x.v.pre.length x.c,.slice none 0 0] 41)) 41 (.int .i64 3) (.int .u64 0) (.int .u64 0) (.int .u64 0) (.slice none 0 0) (.slice none 0 0)
 rw [size_alloc,size_alloc] at h3
 rw [size_alloc,size_alloc,size_alloc] at h4
 rw [size_alloc,size_alloc,size_alloc,size_alloc] at h5
 refine ⟨_,rfl,?_,?_,h3,h4,h5⟩
 ·exact (((((Below.refl _ _).alloc (Nat.le_refl _) _).alloc (by simp) _).alloc (by simp; omega) _).alloc (by simp; omega) _).alloc (by simp; omega) _
 ·exact ((((RAt.new w 28 x).kept (b5 _ (.cells #[x.v.a,x.v.b,x.v.c,.slice x.A x.v.pre.length x.c,.slice none 0 0] 25)) (by simp)).kept (b5 _ (.cells #[.int .i64 1,x.v.a,x.v.b,x.v.c,.slice x.A x.v.pre.length x.c,.slice none 0 0] 41)) (by simp; omega)).kept (b5 _ (.cells #[.int .i64 2,x.v.a,x.v.b,x.v.c,.slice x.A x.v.pre.length x.c,.slice none 0 0] 41)) (by simp; omega)).kept (b5 _ (.cells #[.int .i64 3,.int .u64 0,.int .u64 0,.int .u64 0,.slice none 0 0,.slice none 0 0] 41)) (by simp; omega)
def RefOfAt (m:Nat):Prop:=∀ (r:Rng) (x:RV) (B q:Nat) (w:World),wt r≤m→wt r≤100→LenOk r→Range.Lies w (LtB B) r x→B≤w.heap.size→goodR r q=true →
  Calls Tryz.prog 29 #[x.agg] w (RSetIn w (SetOf r))
theorem refOf_step (m:Nat) (ih:RefOfAt m):RefOfAt (m+1):=by
 intro r x B q w hm hM hlo hx hB hg
 have IH:=Lib.hid ih
 have hs:=hx.says
 have HFit:=Lib.hid hs.fit
 have HLO:=Lib.hid hlo
 have hxn:x.n≤9223372036854775807:=by obtain ⟨f,hln,_,_⟩:=hs.subs; rw [← hln]; exact hlo.here
 clear ih hlo
 obtain ⟨hd,hgl,hln,hrk,hk⟩:=Range.right_at hx hg
 have HE:=Lib.hid (rng_eq hx)
 obtain ⟨W,hW,HB,HRA,HC1,HC2,HC3⟩:=of_start w x
 have HL:=Lib.hid (hx.keep (KeepS.of_below (S:=LtB B) HB.out))
 have HGL:=Lib.hid hgl
 have HLN:=Lib.hid hln
 have hB2:B≤W.heap.size:=Nat.le_trans hB HB.out.size
 have hwl:wtL r.subs≤m:=by rw [Range.wt_eq] at hm; omega
 have hwM:wtL r.subs≤99:=by rw [Range.wt_eq] at hM; omega
 have HLr:Hid (∀ k,Span.Lies W ⟨k,bare x.v,x.A,x.c,none,0⟩):=fun k=>⟨HL.out.says.pre,SRow.none_ _ _,⟨HFit.out.pre,HFit.out.pres⟩,Fit.nil⟩
 clear hs hx hg hgl
 unfold RV.agg
 go_enter Tryz.func29,Tryz.ntmps29
 go_upto_region 6 with (fail)
 rw [← hW]
 clear hW
 have hkk:(1≤x.kind∧x.kind≤8∧goodV x.v=true∧x.n=0)∨x.kind=0∧x.n=0∨x.kind=9∨x.kind=10∨x.kind=11∧x.n=1:=by
  rcases hk with h | ⟨_,h | ⟨h1 | h1,h2⟩ | h⟩
  ·exact .inl h
  ·exact .inr (.inl h)
  ·exact .inr (.inr (.inl h1))
  ·exact .inr (.inr (.inr (.inl h1)))
  ·exact .inr (.inr (.inr (.inr h)))
 clear hk
 rcases hkk with ⟨h1,h8,hgv,hn⟩ | ⟨hK,hn⟩ | hK | hK | ⟨hK,hn⟩
 ·rcases (show x.kind=1∨x.kind=2∨x.kind=3∨x.kind=4∨x.kind=5∨x.kind=6∨x.kind=7∨x.kind=8 by omega) with hK | hK | hK | hK | hK | hK | hK | hK
  ·have HK:=Lib.hid hK
   have HE2:Hid (r=.mk 1 x.v r.subs):=by have:=HE.out; rw [hK] at this; exact this
   clear hK
   have q1:(x.kind == 1)=true:=by rw [HK.out]; rfl
   have q2:(x.kind == 2)=false:=by rw [HK.out]; rfl
   have q3:(x.kind == 3)=false:=by rw [HK.out]; rfl
   have q4:(x.kind == 4)=false:=by rw [HK.out]; rfl
   have q5:(x.kind == 5)=false:=by rw [HK.out]; rfl
   have q6:(x.kind == 6)=false:=by rw [HK.out]; rfl
   have q7:(x.kind == 7)=false:=by rw [HK.out]; rfl
   have q8:(x.kind == 8)=false:=by rw [HK.out]; rfl
   have q10:(x.kind == 10)=false:=by rw [HK.out]; rfl
   have q11:(x.kind == 11)=false:=by rw [HK.out]; rfl
   obtain ⟨y1,y2,c0,c1,c2,c3,c4,c5,c6⟩:=HRA.out
   obtain ⟨a1,a2,f0,f1,f2,f3,f4,f5⟩:=HC1.out
   obtain ⟨z1,z2,k0,k1,k2,k3,k4,k5⟩:=HC3.out
   go_wp2_with fail
   refine (refSpan_any ⟨1,bare x.v,x.A,x.c,none,0⟩ rhigh W (HLr.out 1) (Span.Lies.high W)).mono ?_
   intro e w4 h4
   have HS:Hid (RSetIn w (SetOf r) e w4):=h4.imp HB.out fun o ho=>by rw [HE2.out]; exact set_span (k:=1) (by omega) (by omega) (by omega) (.inr hgv) _ (built_normal ho)
   obtain ⟨A4,n4,cc4,out4,rfl,q1,q2,q3,q4,q5⟩:=HS.out
   clear h4
   go_wp2
   go_ret
   exact HS.out
  ·have HK:=Lib.hid hK
   have HE2:Hid (r=.mk 2 x.v r.subs):=by have:=HE.out; rw [hK] at this; exact this
   clear hK
   have q1:(x.kind == 1)=false:=by rw [HK.out]; rfl
   have q2:(x.kind == 2)=true:=by rw [HK.out]; rfl
   have q3:(x.kind == 3)=false:=by rw [HK.out]; rfl
   have q4:(x.kind == 4)=false:=by rw [HK.out]; rfl
   have q5:(x.kind == 5)=false:=by rw [HK.out]; rfl
   have q6:(x.kind == 6)=false:=by rw [HK.out]; rfl
   have q7:(x.kind == 7)=false:=by rw [HK.out]; rfl
   have q8:(x.kind == 8)=false:=by rw [HK.out]; rfl
   have q10:(x.kind == 10)=false:=by rw [HK.out]; rfl
   have q11:(x.kind == 11)=false:=by rw [HK.out]; rfl
   obtain ⟨y1,y2,c0,c1,c2,c3,c4,c5,c6⟩:=HRA.out
   obtain ⟨b1,b2,g0,g1,g2,g3,g4,g5⟩:=HC2.out
   obtain ⟨z1,z2,k0,k1,k2,k3,k4,k5⟩:=HC3.out
   go_wp2_with fail
   refine (refSpan_any ⟨2,bare x.v,x.A,x.c,none,0⟩ rhigh W (HLr.out 2) (Span.Lies.high W)).mono ?_
   intro e w4 h4
   have HS:Hid (RSetIn w (SetOf r) e w4):=h4.imp HB.out fun o ho=>by rw [HE2.out]; exact set_span (k:=2) (by omega) (by omega) (by omega) (.inr hgv) _ (built_normal ho)
   obtain ⟨A4,n4,cc4,out4,rfl,q1,q2,q3,q4,q5⟩:=HS.out
   clear h4
   go_wp2
   go_ret
   exact HS.out
  ·have HK:=Lib.hid hK
   have HE2:Hid (r=.mk 3 x.v r.subs):=by have:=HE.out; rw [hK] at this; exact this
   clear hK
   have q1:(x.kind == 1)=false:=by rw [HK.out]; rfl
   have q2:(x.kind == 2)=false:=by rw [HK.out]; rfl
   have q3:(x.kind == 3)=true:=by rw [HK.out]; rfl
   have q4:(x.kind == 4)=false:=by rw [HK.out]; rfl
   have q5:(x.kind == 5)=false:=by rw [HK.out]; rfl
   have q6:(x.kind == 6)=false:=by rw [HK.out]; rfl
   have q7:(x.kind == 7)=false:=by rw [HK.out]; rfl
   have q8:(x.kind == 8)=false:=by rw [HK.out]; rfl
   have q10:(x.kind == 10)=false:=by rw [HK.out]; rfl
   have q11:(x.kind == 11)=false:=by rw [HK.out]; rfl
   obtain ⟨y1,y2,c0,c1,c2,c3,c4,c5,c6⟩:=HRA.out
   obtain ⟨b1,b2,g0,g1,g2,g3,g4,g5⟩:=HC2.out
   go_wp2_with fail
   refine (refSpan_any rlow ⟨2,bare x.v,x.A,x.c,none,0⟩ W (Span.Lies.low W) (HLr.out 2)).mono ?_
   intro e w4 h4
   have HS:Hid (RSetIn w (SetOf r) e w4):=h4.imp HB.out fun o ho=>by rw [HE2.out]; exact set_span (k:=3) (by omega) (by omega) (by omega) (.inr hgv) _ (built_normal ho)
   obtain ⟨A4,n4,cc4,out4,rfl,q1,q2,q3,q4,q5⟩:=HS.out
   clear h4
   go_wp2
   go_ret
   exact HS.out
  ·have HK:=Lib.hid hK
   have HE2:Hid (r=.mk 4 x.v r.subs):=by have:=HE.out; rw [hK] at this; exact this
   clear hK
   have q1:(x.kind == 1)=false:=by rw [HK.out]; rfl
   have q2:(x.kind == 2)=false:=by rw [HK.out]; rfl
   have q3:(x.kind == 3)=false:=by rw [HK.out]; rfl
   have q4:(x.kind == 4)=true:=by rw [HK.out]; rfl
   have q5:(x.kind == 5)=false:=by rw [HK.out]; rfl
   have q6:(x.kind == 6)=false:=by rw [HK.out]; rfl
   have q7:(x.kind == 7)=false:=by rw [HK.out]; rfl
   have q8:(x.kind == 8)=false:=by rw [HK.out]; rfl
   have q10:(x.kind == 10)=false:=by rw [HK.out]; rfl
   have q11:(x.kind == 11)=false:=by rw [HK.out]; rfl
   obtain ⟨y1,y2,c0,c1,c2,c3,c4,c5,c6⟩:=HRA.out
   obtain ⟨a1,a2,f0,f1,f2,f3,f4,f5⟩:=HC1.out
   go_wp2_with fail
   refine (refSpan_any rlow ⟨1,bare x.v,x.A,x.c,none,0⟩ W (Span.Lies.low W) (HLr.out 1)).mono ?_
   intro e w4 h4
   have HS:Hid (RSetIn w (SetOf r) e w4):=h4.imp HB.out fun o ho=>by rw [HE2.out]; exact set_span (k:=4) (by omega) (by omega) (by omega) (.inr hgv) _ (built_normal ho)
   obtain ⟨A4,n4,cc4,out4,rfl,q1,q2,q3,q4,q5⟩:=HS.out
   clear h4
   go_wp2
   go_ret
   exact HS.out
  ·have HK:=Lib.hid hK
   have HE2:Hid (r=.mk 5 x.v r.subs):=by have:=HE.out; rw [hK] at this; exact this
   clear hK
   have q1:(x.kind == 1)=false:=by rw [HK.out]; rfl
   have q2:(x.kind == 2)=false:=by rw [HK.out]; rfl
   have q3:(x.kind == 3)=false:=by rw [HK.out]; rfl
   have q4:(x.kind == 4)=false:=by rw [HK.out]; rfl
   have q5:(x.kind == 5)=true:=by rw [HK.out]; rfl
   have q6:(x.kind == 6)=false:=by rw [HK.out]; rfl
   have q7:(x.kind == 7)=false:=by rw [HK.out]; rfl
   have q8:(x.kind == 8)=false:=by rw [HK.out]; rfl
   have q10:(x.kind == 10)=false:=by rw [HK.out]; rfl
   have q11:(x.kind == 11)=false:=by rw [HK.out]; rfl
   obtain ⟨y1,y2,c0,c1,c2,c3,c4,c5,c6⟩:=HRA.out
   obtain ⟨a1,a2,f0,f1,f2,f3,f4,f5⟩:=HC1.out
   obtain ⟨b1,b2,g0,g1,g2,g3,g4,g5⟩:=HC2.out
   go_wp2_with fail
   refine (refSpan_any ⟨1,bare x.v,x.A,x.c,none,0⟩ ⟨2,bare x.v,x.A,x.c,none,0⟩ W (HLr.out 1) (HLr.out 2)).mono ?_
   intro e w4 h4
   have HS:Hid (RSetIn w (SetOf r) e w4):=h4.imp HB.out fun o ho=>by rw [HE2.out]; exact set_span (k:=5) (by omega) (by omega) (by omega) (.inr hgv) _ (built_normal ho)
   obtain ⟨A4,n4,cc4,out4,rfl,q1,q2,q3,q4,q5⟩:=HS.out
   clear h4
   go_wp2
   go_ret
   exact HS.out
  ·have HK:=Lib.hid hK
   have HE2:Hid (r=.mk 6 x.v r.subs):=by have:=HE.out; rw [hK] at this; exact this
   clear hK
   have q1:(x.kind == 1)=false:=by rw [HK.out]; rfl
   have q2:(x.kind == 2)=false:=by rw [HK.out]; rfl
   have q3:(x.kind == 3)=false:=by rw [HK.out]; rfl
   have q4:(x.kind == 4)=false:=by rw [HK.out]; rfl
   have q5:(x.kind == 5)=false:=by rw [HK.out]; rfl
   have q6:(x.kind == 6)=true:=by rw [HK.out]; rfl
   have q7:(x.kind == 7)=false:=by rw [HK.out]; rfl
   have q8:(x.kind == 8)=false:=by rw [HK.out]; rfl
   have q10:(x.kind == 10)=false:=by rw [HK.out]; rfl
   have q11:(x.kind == 11)=false:=by rw [HK.out]; rfl
   obtain ⟨y1,y2,c0,c1,c2,c3,c4,c5,c6⟩:=HRA.out
   obtain ⟨a1,a2,f0,f1,f2,f3,f4,f5⟩:=HC1.out
   obtain ⟨b1,b2,g0,g1,g2,g3,g4,g5⟩:=HC2.out
   go_wp2_with fail
   refine (refSpan_any ⟨1,bare x.v,x.A,x.c,none,0⟩ ⟨2,bare x.v,x.A,x.c,none,0⟩ W (HLr.out 1) (HLr.out 2)).mono ?_
   rintro e W2 ⟨A3,n3,d3,o3,rfl,q1,q2,q3,q4,hb⟩
   have HB2:=Lib.hid (HB.out.trans (hb.mono HB.out.size))
   have HQ1:=Lib.hid q1
   have HQ2:=Lib.hid (built_normal q2)
   have hl3:n3≤1000:=by
    have h:=set_len (r:=.mk 5 x.v []) (set_span (k:=5) (by omega) (by omega) (by omega) (.inr hgv) [] (built_normal q2))
    rw [List.length_map,q1.1] at h
    have e:wt (.mk 5 x.v [])=1:=rfl
    omega
   clear hb q1 q2 y1 y2 c0 c1 c2 c3 c4 c5 c6 a1 a2 f0 f1 f2 f3 f4 f5 b1 b2 g0 g1 g2 g3 g4 g5
   go_wp2_with fail
   refine (build_full A3 n3 d3 o3 none 0 0 [] 2 _ ⟨HQ1.out,q4⟩ ⟨SpRow.none_ _ _,fun _=>rfl⟩ hl3 (by omega) (.inr (.inr rfl))).mono ?_
   intro e w4 h4
   have HS:Hid (RSetIn w (SetOf r) e w4):=(BuildFull.set h4).imp HB2.out fun o ho=>by rw [HE2.out]; exact set_ne hgv _ HQ2.out (built_not ho)
   obtain ⟨A4,n4,cc4,out4,rfl,q1,q2,q3,q4,q5⟩:=HS.out
   clear h4
   go_wp2
   go_ret
   exact HS.out
  ·have HK:=Lib.hid hK
   have HE2:Hid (r=.mk 7 x.v r.subs):=by have:=HE.out; rw [hK] at this; exact this
   clear hK
   have q1:(x.kind == 1)=false:=by rw [HK.out]; rfl
   have q2:(x.kind == 2)=false:=by rw [HK.out]; rfl
   have q3:(x.kind == 3)=false:=by rw [HK.out]; rfl
   have q4:(x.kind == 4)=false:=by rw [HK.out]; rfl
   have q5:(x.kind == 5)=false:=by rw [HK.out]; rfl
   have q6:(x.kind == 6)=false:=by rw [HK.out]; rfl
   have q7:(x.kind == 7)=true:=by rw [HK.out]; rfl
   have q8:(x.kind == 8)=false:=by rw [HK.out]; rfl
   have q10:(x.kind == 10)=false:=by rw [HK.out]; rfl
   have q11:(x.kind == 11)=false:=by rw [HK.out]; rfl
   obtain ⟨y1,y2,c0,c1,c2,c3,c4,c5,c6⟩:=HRA.out
   go_wp2_with fail
   refine (refCaret_any x.v x.A x.c x.B x.d W).mono ?_
   rintro e W3 ⟨Q,qc,rfl,hrow,hbu,hb⟩
   have HQ:=Lib.hid hrow
   have HBU:=Lib.hid hbu
   have HB3:=Lib.hid (HB.out.trans (hb.mono HB.out.size))
   have HR3:=Lib.hid (HRA.out.kept hb HRA.out.1)
   have HD1:=Lib.hid (HC1.out.kept hb HC1.out.1)
   have HD3:=Lib.hid (HC3.out.kept hb HC3.out.1)
   have HLq:Hid (∀ k,Span.Lies W3 ⟨k,bare x.v,x.A,x.c,none,0⟩):=fun k=>(HLr.out k).kept hb
   have HG:=Lib.hid hgv
   clear hb hrow hbu hgv y1 y2 c0 c1 c2 c3 c4 c5 c6 HC1 HC2 HC3 HLr HRA HL HB
   have hy:=(Below.refl W3.heap.size W3).alloc (Nat.le_refl _) (.cells #[.int .u64 ((verOf (caretV x.v)).a:Int),.int .u64 ((verOf (caretV x.v)).b:Int),.int .u64 ((verOf (caretV x.v)).c:Int),.slice Q (verOf (caretV x.v)).pre.length qc,.slice none (verOf (caretV x.v)).build.length 0] 25)
   generalize hoe:caretV x.v=oe at HQ HBU hy ⊢
   obtain ⟨y1,y2,c0,c1,c2,c3,c4,c5,c6⟩:=HR3.out
   go_upto_region 22 with (fail)
   have HB4:Hid (Below w.heap.size w (W3.alloc (.cells #[.int .u64 ((verOf oe).a),.int .u64 ((verOf oe).b),.int .u64 ((verOf oe).c),.slice Q (verOf oe).pre.length qc,.slice none (verOf oe).build.length 0] 25))):=HB3.out.alloc HB3.out.size _
   have HR4:=Lib.hid (HR3.out.kept hy HR3.out.1)
   have HE1:=Lib.hid (HD1.out.kept hy HD1.out.1)
   have HE3:=Lib.hid (HD3.out.kept hy HD3.out.1)
   have HLz:Hid (∀ k,Span.Lies (W3.alloc (.cells #[.int .u64 ((verOf oe).a),.int .u64 ((verOf oe).b),.int .u64 ((verOf oe).c),.slice Q (verOf oe).pre.length qc,.slice none (verOf oe).build.length 0] 25)) ⟨k,bare x.v,x.A,x.c,none,0⟩):=fun k=>(HLq.out k).kept hy
   have HU:=Lib.hid (At5.new W3 25 (.int .u64 ((verOf oe).a)) (.int .u64 ((verOf oe).b)) (.int .u64 ((verOf oe).c)) (.slice Q (verOf oe).pre.length qc) (.slice none (verOf oe).build.length 0))
   have HQ4:=Lib.hid (HQ.out.kept hy)
   have hgw:w.heap.size≤W3.heap.size:=HB3.out.size
   have hg4:w.heap.size+1+1+1+1<W3.heap.size:=HD3.out.1
   obtain ⟨gu,hgu⟩:∃ g,W3.heap.size=g:=⟨_,rfl⟩
   generalize W3.alloc (.cells #[.int .u64 ((verOf oe).a),.int .u64 ((verOf oe).b),.int .u64 ((verOf oe).c),.slice Q (verOf oe).pre.length qc,.slice none (verOf oe).build.length 0] 25)=W4 at HB4 HR4 HE1 HE3 HLz HU HQ4 ⊢
   rw [hgu] at HU hgw hg4 ⊢
   clear hgu hy y1 y2 c0 c1 c2 c3 c4 c5 c6 HR3 HD1 HD3 HLq HQ HB3 W3
   obtain ⟨y1,y2,c0,c1,c2,c3,c4,c5,c6⟩:=HR4.out
   cases oe with
   | none =>
    obtain ⟨a1,a2,f0,f1,f2,f3,f4,f5⟩:=HE1.out
    obtain ⟨z1,z2,k0,k1,k2,k3,k4,k5⟩:=HE3.out
    go_wp2_with fail
    refine (refSpan_any ⟨1,bare x.v,x.A,x.c,none,0⟩ rhigh W4 (HLz.out 1) (Span.Lies.high W4)).mono ?_
    intro e w4 h4
    have HS:Hid (RSetIn w (SetOf r) e w4):=h4.imp HB4.out fun o ho=>by
     rw [HE2.out]
     refine set_span (k:=7) (by omega) (by omega) (by omega) (.inr HG.out) _ ?_
     have e2:hiOf 7 x.v=high:=by show endCut (caretV x.v)=high; rw [hoe]; rfl
     rw [e2]
     exact built_normal ho
    obtain ⟨A4,n4,cc4,out4,rfl,q1,q2,q3,q4,q5⟩:=HS.out
    clear h4
    go_wp2
    go_ret
    exact HS.out
   | some u =>
    obtain ⟨ua,ub,uc,up,ul⟩:=u
    obtain rfl:ul=[]:=HBU.out
    simp only [show ∀ u,verOf (some u)=u from fun _=>rfl,List.length_nil] at HU HQ4 ⊢
    have hfu:Fit up:=by
     have h:Fit (verOf (caretV x.v)).pre:=end_fit _ _ _ _
     rw [hoe] at h; exact h
    obtain ⟨v1,v2,l0,l1,l2,l3,l4⟩:=HU.out
    obtain ⟨z1,z2,k0,k1,k2,k3,k4,k5⟩:=HE3.out
    go_upto_region 26 with (fail)
    change Code.wp _ _ _ _ (Span.set6 W4 (w.heap.size+1+1+1+1) (.int .i64 1) (.int .u64 ua) (.int .u64 ub) (.int .u64 uc) (.slice Q up.length qc) (.slice none 0 0))
    have hb6:Below (w.heap.size+1+1+1+1) W4 (Span.set6 W4 (w.heap.size+1+1+1+1) (.int .i64 1) (.int .u64 ua) (.int .u64 ub) (.int .u64 uc) (.slice Q up.length qc) (.slice none 0 0)):=below_set6 (Below.refl _ _) (Nat.le_refl _) _ _ _ _ _ _
    have HB7:Hid (Below w.heap.size w (Span.set6 W4 (w.heap.size+1+1+1+1) (.int .i64 1) (.int .u64 ua) (.int .u64 ub) (.int .u64 uc) (.slice Q up.length qc) (.slice none 0 0))):=HB4.out.trans (hb6.mono (by omega))
    have HG1:=Lib.hid (HE1.out.kept hb6 (by omega))
    have HG3:=Lib.hid (HE3.out.set6 (.int .i64 1) (.int .u64 ua) (.int .u64 ub) (.int .u64 uc) (.slice Q up.length qc) (.slice none 0 0))
    have HLa:Hid (Span.Lies (Span.set6 W4 (w.heap.size+1+1+1+1) (.int .i64 1) (.int .u64 ua) (.int .u64 ub) (.int .u64 uc) (.slice Q up.length qc) (.slice none 0 0)) ⟨1,bare x.v,x.A,x.c,none,0⟩):=⟨row6 HE3.out _ _ _ _ _ _ (HLz.out 1).pre,SRow.none_ _ _,(HLz.out 1).fpre,Fit.nil⟩
    have HLb:Hid (Span.Lies (Span.set6 W4 (w.heap.size+1+1+1+1) (.int .i64 1) (.int .u64 ua) (.int .u64 ub) (.int .u64 uc) (.slice Q up.length qc) (.slice none 0 0)) ⟨1,⟨ua,ub,uc,up,[]⟩,Q,qc,none,0⟩):=⟨row6 HE3.out _ _ _ _ _ _ HQ4.out,SRow.none_ _ _,hfu,Fit.nil⟩
    generalize Span.set6 W4 (w.heap.size+1+1+1+1) (.int .i64 1) (.int .u64 ua) (.int .u64 ub) (.int .u64 uc) (.slice Q up.length qc) (.slice none 0 0)=W7 at HB7 HG1 HG3 HLa HLb ⊢
    clear hb6 y1 y2 c0 c1 c2 c3 c4 c5 c6 v1 v2 l0 l1 l2 l3 l4 z1 z2 k0 k1 k2 k3 k4 k5
    obtain ⟨a1,a2,f0,f1,f2,f3,f4,f5⟩:=HG1.out
    obtain ⟨z1,z2,k0,k1,k2,k3,k4,k5⟩:=HG3.out
    go_wp2_with fail
    refine (refSpan_any ⟨1,bare x.v,x.A,x.c,none,0⟩ ⟨1,⟨ua,ub,uc,up,[]⟩,Q,qc,none,0⟩ W7 HLa.out HLb.out).mono ?_
    intro e w4 h4
    have HS:Hid (RSetIn w (SetOf r) e w4):=h4.imp HB7.out fun o ho=>by
     rw [HE2.out]
     refine set_span (k:=7) (by omega) (by omega) (by omega) (.inr HG.out) _ ?_
     have e2:hiOf 7 x.v=⟨1,⟨ua,ub,uc,up,[]⟩⟩:=by show endCut (caretV x.v)=_; rw [hoe]; rfl
     rw [e2]
     exact built_normal ho
    obtain ⟨A4,n4,cc4,out4,rfl,q1,q2,q3,q4,q5⟩:=HS.out
    clear h4
    go_wp2
    go_ret
    exact HS.out
  ·have HK:=Lib.hid hK
   have HE2:Hid (r=.mk 8 x.v r.subs):=by have:=HE.out; rw [hK] at this; exact this
   clear hK
   have q1:(x.kind == 1)=false:=by rw [HK.out]; rfl
   have q2:(x.kind == 2)=false:=by rw [HK.out]; rfl
   have q3:(x.kind == 3)=false:=by rw [HK.out]; rfl
   have q4:(x.kind == 4)=false:=by rw [HK.out]; rfl
   have q5:(x.kind == 5)=false:=by rw [HK.out]; rfl
   have q6:(x.kind == 6)=false:=by rw [HK.out]; rfl
   have q7:(x.kind == 7)=false:=by rw [HK.out]; rfl
   have q8:(x.kind == 8)=true:=by rw [HK.out]; rfl
   have q10:(x.kind == 10)=false:=by rw [HK.out]; rfl
   have q11:(x.kind == 11)=false:=by rw [HK.out]; rfl
   obtain ⟨y1,y2,c0,c1,c2,c3,c4,c5,c6⟩:=HRA.out
   go_wp2_with fail
   refine (refCaret_any x.v x.A x.c x.B x.d W).mono ?_
   rintro e W3 ⟨Q,qc,rfl,hrow,hbu,hb⟩
   have HQ:=Lib.hid hrow
   have HBU:=Lib.hid hbu
   have HB3:=Lib.hid (HB.out.trans (hb.mono HB.out.size))
   have HR3:=Lib.hid (HRA.out.kept hb HRA.out.1)
   have HD1:=Lib.hid (HC1.out.kept hb HC1.out.1)
   have HD3:=Lib.hid (HC3.out.kept hb HC3.out.1)
   have HLq:Hid (∀ k,Span.Lies W3 ⟨k,bare x.v,x.A,x.c,none,0⟩):=fun k=>(HLr.out k).kept hb
   have HG:=Lib.hid hgv
   clear hb hrow hbu hgv y1 y2 c0 c1 c2 c3 c4 c5 c6 HC1 HC2 HC3 HLr HRA HL HB
   have hy:=(Below.refl W3.heap.size W3).alloc (Nat.le_refl _) (.cells #[.int .u64 ((verOf (caretV x.v)).a:Int),.int .u64 ((verOf (caretV x.v)).b:Int),.int .u64 ((verOf (caretV x.v)).c:Int),.slice Q (verOf (caretV x.v)).pre.length qc,.slice none (verOf (caretV x.v)).build.length 0] 25)
   generalize hoe:caretV x.v=oe at HQ HBU hy ⊢
   obtain ⟨y1,y2,c0,c1,c2,c3,c4,c5,c6⟩:=HR3.out
   go_upto_region 22 with (fail)
   have HB4:Hid (Below w.heap.size w (W3.alloc (.cells #[.int .u64 ((verOf oe).a),.int .u64 ((verOf oe).b),.int .u64 ((verOf oe).c),.slice Q (verOf oe).pre.length qc,.slice none (verOf oe).build.length 0] 25))):=HB3.out.alloc HB3.out.size _
   have HR4:=Lib.hid (HR3.out.kept hy HR3.out.1)
   have HE1:=Lib.hid (HD1.out.kept hy HD1.out.1)
   have HE3:=Lib.hid (HD3.out.kept hy HD3.out.1)
   have HLz:Hid (∀ k,Span.Lies (W3.alloc (.cells #[.int .u64 ((verOf oe).a),.int .u64 ((verOf oe).b),.int .u64 ((verOf oe).c),.slice Q (verOf oe).pre.length qc,.slice none (verOf oe).build.length 0] 25)) ⟨k,bare x.v,x.A,x.c,none,0⟩):=fun k=>(HLq.out k).kept hy
   have HU:=Lib.hid (At5.new W3 25 (.int .u64 ((verOf oe).a)) (.int .u64 ((verOf oe).b)) (.int .u64 ((verOf oe).c)) (.slice Q (verOf oe).pre.length qc) (.slice none (verOf oe).build.length 0))
   have HQ4:=Lib.hid (HQ.out.kept hy)
   have hgw:w.heap.size≤W3.heap.size:=HB3.out.size
   have hg4:w.heap.size+1+1+1+1<W3.heap.size:=HD3.out.1
   obtain ⟨gu,hgu⟩:∃ g,W3.heap.size=g:=⟨_,rfl⟩
   generalize W3.alloc (.cells #[.int .u64 ((verOf oe).a),.int .u64 ((verOf oe).b),.int .u64 ((verOf oe).c),.slice Q (verOf oe).pre.length qc,.slice none (verOf oe).build.length 0] 25)=W4 at HB4 HR4 HE1 HE3 HLz HU HQ4 ⊢
   rw [hgu] at HU hgw hg4 ⊢
   clear hgu hy y1 y2 c0 c1 c2 c3 c4 c5 c6 HR3 HD1 HD3 HLq HQ HB3 W3
   obtain ⟨y1,y2,c0,c1,c2,c3,c4,c5,c6⟩:=HR4.out
   obtain ⟨v1,v2,l0,l1,l2,l3,l4⟩:=HU.out
   go_wp2_with fail
   refine (refTilde_any x.v x.A x.c x.B x.d W4).mono ?_
   rintro e W5 ⟨Q5,q5,rfl,hrow,hbu,hb⟩
   have HQ5:=Lib.hid hrow
   have HBU5:=Lib.hid hbu
   have HB5:=Lib.hid (HB4.out.trans (hb.mono HB4.out.size))
   have HR5:=Lib.hid (HR4.out.kept hb HR4.out.1)
   have HF1:=Lib.hid (HE1.out.kept hb HE1.out.1)
   have HF3:=Lib.hid (HE3.out.kept hb HE3.out.1)
   have HU5:=Lib.hid (HU.out.kept hb HU.out.1)
   have HLy:Hid (∀ k,Span.Lies W5 ⟨k,bare x.v,x.A,x.c,none,0⟩):=fun k=>(HLz.out k).kept hb
   clear hb hrow hbu y1 y2 c0 c1 c2 c3 c4 c5 c6 v1 v2 l0 l1 l2 l3 l4 HB4 HR4 HE1 HE3 HU HLz HQ4
   generalize hoe5:tildeV x.v=oe5 at HQ5 HBU5 ⊢
   obtain ⟨y1,y2,c0,c1,c2,c3,c4,c5,c6⟩:=HR5.out
   obtain ⟨v1,v2,l0,l1,l2,l3,l4⟩:=HU5.out
   go_upto_region 24 with (fail)
   change Code.wp _ _ _ _ (Ident.set5 W5 gu (.int .u64 ((verOf oe5).a)) (.int .u64 ((verOf oe5).b)) (.int .u64 ((verOf oe5).c)) (.slice Q5 (verOf oe5).pre.length q5) (.slice none (verOf oe5).build.length 0))
   have hbb:=bel5 W5 gu (.int .u64 ((verOf oe5).a)) (.int .u64 ((verOf oe5).b)) (.int .u64 ((verOf oe5).c)) (.slice Q5 (verOf oe5).pre.length q5) (.slice none (verOf oe5).build.length 0)
   have HB4:Hid (Below w.heap.size w (Ident.set5 W5 gu (.int .u64 ((verOf oe5).a)) (.int .u64 ((verOf oe5).b)) (.int .u64 ((verOf oe5).c)) (.slice Q5 (verOf oe5).pre.length q5) (.slice none (verOf oe5).build.length 0))):=HB5.out.trans (hbb.mono hgw)
   have HR4:=Lib.hid (HR5.out.kept hbb (by omega))
   have HE1:=Lib.hid (HF1.out.kept hbb (by omega))
   have HE3:=Lib.hid (HF3.out.kept hbb (by omega))
   have HU:=Lib.hid (HU5.out.set5 (.int .u64 ((verOf oe5).a)) (.int .u64 ((verOf oe5).b)) (.int .u64 ((verOf oe5).c)) (.slice Q5 (verOf oe5).pre.length q5) (.slice none (verOf oe5).build.length 0))
   have HQ4:=Lib.hid (row5 HU5.out (.int .u64 ((verOf oe5).a)) (.int .u64 ((verOf oe5).b)) (.int .u64 ((verOf oe5).c)) (.slice Q5 (verOf oe5).pre.length q5) (.slice none (verOf oe5).build.length 0) HQ5.out)
   have HLz:Hid (∀ k,Span.Lies (Ident.set5 W5 gu (.int .u64 ((verOf oe5).a)) (.int .u64 ((verOf oe5).b)) (.int .u64 ((verOf oe5).c)) (.slice Q5 (verOf oe5).pre.length q5) (.slice none (verOf oe5).build.length 0)) ⟨k,bare x.v,x.A,x.c,none,0⟩):=fun k=>⟨row5 HU5.out _ _ _ _ _ (HLy.out k).pre,SRow.none_ _ _,(HLy.out k).fpre,Fit.nil⟩
   generalize Ident.set5 W5 gu (.int .u64 ((verOf oe5).a)) (.int .u64 ((verOf oe5).b)) (.int .u64 ((verOf oe5).c)) (.slice Q5 (verOf oe5).pre.length q5) (.slice none (verOf oe5).build.length 0)=W6 at HB4 HR4 HE1 HE3 HU HQ4 HLz ⊢
   clear hbb y1 y2 c0 c1 c2 c3 c4 c5 c6 v1 v2 l0 l1 l2 l3 l4 HB5 HR5 HF1 HF3 HU5 HLy HQ5 HBU hoe
   obtain ⟨y1,y2,c0,c1,c2,c3,c4,c5,c6⟩:=HR4.out
   cases oe5 with
   | none =>
    obtain ⟨a1,a2,f0,f1,f2,f3,f4,f5⟩:=HE1.out
    obtain ⟨z1,z2,k0,k1,k2,k3,k4,k5⟩:=HE3.out
    go_wp2_with fail
    refine (refSpan_any ⟨1,bare x.v,x.A,x.c,none,0⟩ rhigh W6 (HLz.out 1) (Span.Lies.high W6)).mono ?_
    intro e w4 h4
    have HS:Hid (RSetIn w (SetOf r) e w4):=h4.imp HB4.out fun o ho=>by
     rw [HE2.out]
     refine set_span (k:=8) (by omega) (by omega) (by omega) (.inr HG.out) _ ?_
     have e2:hiOf 8 x.v=high:=by show endCut (tildeV x.v)=high; rw [hoe5]; rfl
     rw [e2]
     exact built_normal ho
    obtain ⟨A4,n4,cc4,out4,rfl,q1,q2,q3,q4,q5⟩:=HS.out
    clear h4
    go_wp2
    go_ret
    exact HS.out
   | some u =>
    obtain ⟨ua,ub,uc,up,ul⟩:=u
    obtain rfl:ul=[]:=HBU5.out
    simp only [show ∀ u,verOf (some u)=u from fun _=>rfl,List.length_nil] at HU HQ4 ⊢
    have hfu:Fit up:=by
     have h:Fit (verOf (tildeV x.v)).pre:=end_fit _ _ _ _
     rw [hoe5] at h; exact h
    obtain ⟨v1,v2,l0,l1,l2,l3,l4⟩:=HU.out
    obtain ⟨z1,z2,k0,k1,k2,k3,k4,k5⟩:=HE3.out
    go_upto_region 26 with (fail)
    change Code.wp _ _ _ _ (Span.set6 W6 (w.heap.size+1+1+1+1) (.int .i64 1) (.int .u64 ua) (.int .u64 ub) (.int .u64 uc) (.slice Q5 up.length q5) (.slice none 0 0))
    have hb6:Below (w.heap.size+1+1+1+1) W6 (Span.set6 W6 (w.heap.size+1+1+1+1) (.int .i64 1) (.int .u64 ua) (.int .u64 ub) (.int .u64 uc) (.slice Q5 up.length q5) (.slice none 0 0)):=below_set6 (Below.refl _ _) (Nat.le_refl _) _ _ _ _ _ _
    have HB7:Hid (Below w.heap.size w (Span.set6 W6 (w.heap.size+1+1+1+1) (.int .i64 1) (.int .u64 ua) (.int .u64 ub) (.int .u64 uc) (.slice Q5 up.length q5) (.slice none 0 0))):=HB4.out.trans (hb6.mono (by omega))
    have HG1:=Lib.hid (HE1.out.kept hb6 (by omega))
    have HG3:=Lib.hid (HE3.out.set6 (.int .i64 1) (.int .u64 ua) (.int .u64 ub) (.int .u64 uc) (.slice Q5 up.length q5) (.slice none 0 0))
    have HLa:Hid (Span.Lies (Span.set6 W6 (w.heap.size+1+1+1+1) (.int .i64 1) (.int .u64 ua) (.int .u64 ub) (.int .u64 uc) (.slice Q5 up.length q5) (.slice none 0 0)) ⟨1,bare x.v,x.A,x.c,none,0⟩):=⟨row6 HE3.out _ _ _ _ _ _ (HLz.out 1).pre,SRow.none_ _ _,(HLz.out 1).fpre,Fit.nil⟩
    have HLb:Hid (Span.Lies (Span.set6 W6 (w.heap.size+1+1+1+1) (.int .i64 1) (.int .u64 ua) (.int .u64 ub) (.int .u64 uc) (.slice Q5 up.length q5) (.slice none 0 0)) ⟨1,⟨ua,ub,uc,up,[]⟩,Q5,q5,none,0⟩):=⟨row6 HE3.out _ _ _ _ _ _ HQ4.out,SRow.none_ _ _,hfu,Fit.nil⟩
    generalize Span.set6 W6 (w.heap.size+1+1+1+1) (.int .i64 1) (.int .u64 ua) (.int .u64 ub) (.int .u64 uc) (.slice Q5 up.length q5) (.slice none 0 0)=W7 at HB7 HG1 HG3 HLa HLb ⊢
    clear hb6 y1 y2 c0 c1 c2 c3 c4 c5 c6 v1 v2 l0 l1 l2 l3 l4 z1 z2 k0 k1 k2 k3 k4 k5
    obtain ⟨a1,a2,f0,f1,f2,f3,f4,f5⟩:=HG1.out
    obtain ⟨z1,z2,k0,k1,k2,k3,k4,k5⟩:=HG3.out
    go_wp2_with fail
    refine (refSpan_any ⟨1,bare x.v,x.A,x.c,none,0⟩ ⟨1,⟨ua,ub,uc,up,[]⟩,Q5,q5,none,0⟩ W7 HLa.out HLb.out).mono ?_
    intro e w4 h4
    have HS:Hid (RSetIn w (SetOf r) e w4):=h4.imp HB7.out fun o ho=>by
     rw [HE2.out]
     refine set_span (k:=8) (by omega) (by omega) (by omega) (.inr HG.out) _ ?_
     have e2:hiOf 8 x.v=⟨1,⟨ua,ub,uc,up,[]⟩⟩:=by show endCut (tildeV x.v)=_; rw [hoe5]; rfl
     rw [e2]
     exact built_normal ho
    obtain ⟨A4,n4,cc4,out4,rfl,q1,q2,q3,q4,q5⟩:=HS.out
    clear h4
    go_wp2
    go_ret
    exact HS.out
 ·have HK:=Lib.hid hK
  have HE2:Hid (r=.mk 0 x.v r.subs):=by have:=HE.out; rw [hK] at this; exact this
  clear hK
  have q1:(x.kind == 1)=false:=by rw [HK.out]; rfl
  have q2:(x.kind == 2)=false:=by rw [HK.out]; rfl
  have q3:(x.kind == 3)=false:=by rw [HK.out]; rfl
  have q4:(x.kind == 4)=false:=by rw [HK.out]; rfl
  have q5:(x.kind == 5)=false:=by rw [HK.out]; rfl
  have q6:(x.kind == 6)=false:=by rw [HK.out]; rfl
  have q7:(x.kind == 7)=false:=by rw [HK.out]; rfl
  have q8:(x.kind == 8)=false:=by rw [HK.out]; rfl
  have q10:(x.kind == 10)=false:=by rw [HK.out]; rfl
  have q11:(x.kind == 11)=false:=by rw [HK.out]; rfl
  obtain ⟨y1,y2,c0,c1,c2,c3,c4,c5,c6⟩:=HRA.out
  go_wp2_with fail
  refine (refSpan_any rlow rhigh W (Span.Lies.low W) (Span.Lies.high W)).mono ?_
  rintro e W2 ⟨A3,n3,d3,o3,rfl,q1,q2,q3,q4,hb⟩
  have HB2:=Lib.hid (HB.out.trans (hb.mono HB.out.size))
  have HR2:=Lib.hid (HRA.out.kept hb HRA.out.1)
  have HL2:=Lib.hid (HL.out.keep (KeepS.of_below (S:=LtB B) hb))
  have hB3:B≤W2.heap.size:=Nat.le_trans hB HB2.out.size
  have HQ1:=Lib.hid q1
  have HQ2:=Lib.hid q2
  clear hb q1 q2 y1 y2 c0 c1 c2 c3 c4 c5 c6 HRA HL HB HC1 HC2 HC3 HLr
  obtain ⟨y1,y2,c0,c1,c2,c3,c4,c5,c6⟩:=HR2.out
  have HS:=Lib.hid (show SetOf r (o3.map RSp.sp) by rw [HE2.out]; exact all_start HQ2.out)
  have HN:=Lib.hid hn
  clear hn
  go_wp2
  go_loopw [9,10] (fun ov iv W'=>∃ k:Nat,ov=.slice A3 n3 d3∧k≤x.n∧iv=.int .i64 k∧Hid (Below W2.heap.size W2 W')) (fun _ iv _=>x.n - (intOf iv).toNat)
  case atStart=>exact ⟨0,rfl,Nat.zero_le _,rfl,Below.refl _ _⟩
  case round =>
   obtain ⟨k,rfl,hk,rfl,HB3⟩:=hrel
   have HR3:=Lib.hid (HR2.out.kept HB3.out HR2.out.1)
   obtain ⟨y1,y2,c0,c1,c2,c3,c4,c5,c6⟩:=HR3.out
   by_cases hlt:k<x.n
   ·exfalso; have:=HN.out; omega
   ·obtain rfl:k=x.n:=by omega
    have HF:Hid (RSetIn w (SetOf r) (.returned (.slice A3 n3 d3)) wr):=⟨A3,n3,d3,o3,rfl,HQ1.out.kept HB3.out,HS.out,q3,q4,HB2.out.trans (HB3.out.mono HB2.out.size)⟩
    go_wp2
    go_ret
    exact HF.out
 ·have HK:=Lib.hid hK
  have HE2:Hid (r=.mk 9 x.v r.subs):=by have:=HE.out; rw [hK] at this; exact this
  clear hK
  have q1:(x.kind == 1)=false:=by rw [HK.out]; rfl
  have q2:(x.kind == 2)=false:=by rw [HK.out]; rfl
  have q3:(x.kind == 3)=false:=by rw [HK.out]; rfl
  have q4:(x.kind == 4)=false:=by rw [HK.out]; rfl
  have q5:(x.kind == 5)=false:=by rw [HK.out]; rfl
  have q6:(x.kind == 6)=false:=by rw [HK.out]; rfl
  have q7:(x.kind == 7)=false:=by rw [HK.out]; rfl
  have q8:(x.kind == 8)=false:=by rw [HK.out]; rfl
  have q10:(x.kind == 10)=false:=by rw [HK.out]; rfl
  have q11:(x.kind == 11)=false:=by rw [HK.out]; rfl
  obtain ⟨y1,y2,c0,c1,c2,c3,c4,c5,c6⟩:=HRA.out
  go_wp2_with fail
  refine (refSpan_any rlow rhigh W (Span.Lies.low W) (Span.Lies.high W)).mono ?_
  rintro e W2 ⟨A3,n3,d3,o3,rfl,q1,q2,q3,q4,hb⟩
  have HB2:=Lib.hid (HB.out.trans (hb.mono HB.out.size))
  have HR2:=Lib.hid (HRA.out.kept hb HRA.out.1)
  have HL2:=Lib.hid (HL.out.keep (KeepS.of_below (S:=LtB B) hb))
  have hB3:B≤W2.heap.size:=Nat.le_trans hB HB2.out.size
  have HQ1:=Lib.hid q1
  have HQ2:=Lib.hid q2
  clear hb q1 q2 y1 y2 c0 c1 c2 c3 c4 c5 c6 HRA HL HB HC1 HC2 HC3 HLr
  obtain ⟨y1,y2,c0,c1,c2,c3,c4,c5,c6⟩:=HR2.out
  go_wp2
  go_loopw [9,10] (fun ov iv W'=>∃ (A:Option Addr) (n c:Nat) (o:List RSp) (k:Nat),ov=.slice A n c∧k≤x.n∧iv=.int .i64 k∧Hid (Below W2.heap.size W2 W')∧Hid (SpRow W' A n o)∧Hid (A=none→c=0)∧Hid (n≤c)∧Hid (SetOf (.mk 9 x.v (r.subs.take k)) (o.map RSp.sp))) (fun _ iv _=>x.n - (intOf iv).toNat)
  case atStart=>exact ⟨A3,n3,d3,o3,0,rfl,Nat.zero_le _,rfl,Below.refl _ _,HQ1.out,q4,q3,by rw [List.take_zero]; exact and_start HQ2.out⟩
  case round =>
   obtain ⟨A,n,c,o,k,rfl,hk,rfl,HB3,HRow,HNil,HCap,HSet⟩:=hrel
   have HR3:=Lib.hid (HR2.out.kept HB3.out HR2.out.1)
   obtain ⟨y1,y2,c0,c1,c2,c3,c4,c5,c6⟩:=HR3.out
   by_cases hlt:k<x.n
   ·obtain ⟨b,ob,cy,hLe,hSb,hcl,hcy⟩:=HL2.out.says.subs.one hlt
    have hll:k<r.subs.length:=by rw [HLN.out]; exact hlt
    have hmem:r.subs.getD k noRng ∈ r.subs:=by
     rw [List.getD_eq_getElem?_getD,List.getElem?_eq_getElem (by omega)]; exact List.getElem_mem _
    have hwt:=Range.wt_mem hmem
    have hlo:=HLO.out.sub hmem
    have HTK:=Lib.hid (take_next r.subs noRng k hll)
    have HGk:=Lib.hid (Range.goodL_mem HGL.out hmem)
    have hn:n≤1000:=by
     have h:=set_len HSet.out
     rw [List.length_map,HRow.out.1,Range.wt_eq] at h
     have h2:wtL (Rng.mk 9 x.v (r.subs.take k)).subs≤wtL r.subs:=wtL_take r.subs k
     omega
    generalize r.subs.getD k noRng=u at hcy hwt hlo HTK HGk
    have hcw:=(hcl.keep (KeepS.of_below (S:=LtB B) HB3.out) hSb).cells
    obtain ⟨e0,e1,e2,e3,e4,e5,e6⟩:=hcw
    rw [hLe] at c6 ⊢
    clear hLe
    have HLc:Hid (Range.Lies wr (LtB B) u cy):=hcy.keep (KeepS.of_below (S:=LtB B) HB3.out)
    have hBr:B≤wr.heap.size:=Nat.le_trans hB3 HB3.out.size
    clear hcl hcy hmem
    go_wp2_with fail
    refine (IH.out u cy B _ wr (by omega) (by omega) hlo HLc.out hBr HGk.out).mono ?_
    rintro e W4 ⟨A4,n4,c4',o4,rfl,q1,q2,q3,q4,hb⟩
    have HB4:=Lib.hid (HB3.out.trans (hb.mono HB3.out.size))
    have HRow4:=Lib.hid (HRow.out.kept hb)
    have HU1:=Lib.hid q1
    have HU2:=Lib.hid q2
    have HU4:=Lib.hid q4
    have hn4:n4≤1000:=by
     have h:=set_len q2
     rw [List.length_map,q1.1] at h
     omega
    clear hb q1 q2 q3 q4 c0 c1 c2 c3 c4 c5 c6 e0 e1 e2 e3 e4 e5 e6 y1 y2 HB3 HR3
    go_wp2_with fail
    refine (build_full A n c o A4 n4 c4' o4 1 _ ⟨HRow4.out,HNil.out⟩ ⟨HU1.out,HU4.out⟩ hn hn4 (.inr (.inl rfl))).mono ?_
    rintro e W5 ⟨A5,n5,c5,o5,rfl,q1,_,q2,q3,q4,_,hb⟩
    have HB5:=Lib.hid (HB4.out.trans (hb.mono HB4.out.size))
    clear hb
    go_wp2
    exact ⟨⟨A5,n5,c5,o5,k+1,rfl,by omega,by go_num,HB5.out,q1,q4,q3,by rw [HTK.out]; exact and_more HSet.out HU2.out q2⟩,by simp [intOf]; omega⟩
   ·obtain rfl:k=x.n:=by omega
    have HS:Hid (RSetIn w (SetOf r) (.returned (.slice A n c)) wr):=⟨A,n,c,o,rfl,HRow.out,by
     have h:=HSet.out
     rw [← HLN.out,List.take_length] at h
     rw [HE2.out]; exact h,HCap.out,HNil.out,HB2.out.trans (HB3.out.mono HB2.out.size)⟩
    go_wp2
    go_ret
    exact HS.out
 ·have HK:=Lib.hid hK
  have HE2:Hid (r=.mk 10 x.v r.subs):=by have:=HE.out; rw [hK] at this; exact this
  clear hK
  have q1:(x.kind == 1)=false:=by rw [HK.out]; rfl
  have q2:(x.kind == 2)=false:=by rw [HK.out]; rfl
  have q3:(x.kind == 3)=false:=by rw [HK.out]; rfl
  have q4:(x.kind == 4)=false:=by rw [HK.out]; rfl
  have q5:(x.kind == 5)=false:=by rw [HK.out]; rfl
  have q6:(x.kind == 6)=false:=by rw [HK.out]; rfl
  have q7:(x.kind == 7)=false:=by rw [HK.out]; rfl
  have q8:(x.kind == 8)=false:=by rw [HK.out]; rfl
  have q10:(x.kind == 10)=true:=by rw [HK.out]; rfl
  have q11:(x.kind == 11)=false:=by rw [HK.out]; rfl
  obtain ⟨y1,y2,c0,c1,c2,c3,c4,c5,c6⟩:=HRA.out
  go_wp2_with fail
  refine (refSpan_any rlow rhigh W (Span.Lies.low W) (Span.Lies.high W)).mono ?_
  rintro e W2 ⟨A3,n3,d3,o3,rfl,q1,q2,q3,q4,hb⟩
  have HB2:=Lib.hid (HB.out.trans (hb.mono HB.out.size))
  have HR2:=Lib.hid (HRA.out.kept hb HRA.out.1)
  have HL2:=Lib.hid (HL.out.keep (KeepS.of_below (S:=LtB B) hb))
  have hB3:B≤W2.heap.size:=Nat.le_trans hB HB2.out.size
  have HQ1:=Lib.hid q1
  have HQ2:=Lib.hid q2
  clear hb q1 q2 y1 y2 c0 c1 c2 c3 c4 c5 c6 HRA HL HB HC1 HC2 HC3 HLr
  obtain ⟨y1,y2,c0,c1,c2,c3,c4,c5,c6⟩:=HR2.out
  go_wp2
  go_loopw [9,10] (fun ov iv W'=>∃ (A:Option Addr) (n c:Nat) (o:List RSp) (k:Nat),ov=.slice A n c∧k≤x.n∧iv=.int .i64 k∧Hid (Below W2.heap.size W2 W')∧Hid (SpRow W' A n o)∧Hid (A=none→c=0)∧Hid (n≤c)∧Hid (SetOf (.mk 10 x.v (r.subs.take k)) (o.map RSp.sp))) (fun _ iv _=>x.n - (intOf iv).toNat)
  case atStart=>exact ⟨none,0,0,[],0,rfl,Nat.zero_le _,rfl,Below.refl _ _,SpRow.none_ _ _,fun _=>rfl,Nat.le_refl _,by rw [List.take_zero]; exact or_start _⟩
  case round =>
   obtain ⟨A,n,c,o,k,rfl,hk,rfl,HB3,HRow,HNil,HCap,HSet⟩:=hrel
   have HR3:=Lib.hid (HR2.out.kept HB3.out HR2.out.1)
   obtain ⟨y1,y2,c0,c1,c2,c3,c4,c5,c6⟩:=HR3.out
   by_cases hlt:k<x.n
   ·obtain ⟨b,ob,cy,hLe,hSb,hcl,hcy⟩:=HL2.out.says.subs.one hlt
    have hll:k<r.subs.length:=by rw [HLN.out]; exact hlt
    have hmem:r.subs.getD k noRng ∈ r.subs:=by
     rw [List.getD_eq_getElem?_getD,List.getElem?_eq_getElem (by omega)]; exact List.getElem_mem _
    have hwt:=Range.wt_mem hmem
    have hlo:=HLO.out.sub hmem
    have HTK:=Lib.hid (take_next r.subs noRng k hll)
    have HGk:=Lib.hid (Range.goodL_mem HGL.out hmem)
    have hn:n≤1000:=by
     have h:=set_len HSet.out
     rw [List.length_map,HRow.out.1,Range.wt_eq] at h
     have h2:wtL (Rng.mk 10 x.v (r.subs.take k)).subs≤wtL r.subs:=wtL_take r.subs k
     omega
    generalize r.subs.getD k noRng=u at hcy hwt hlo HTK HGk
    have hcw:=(hcl.keep (KeepS.of_below (S:=LtB B) HB3.out) hSb).cells
    obtain ⟨e0,e1,e2,e3,e4,e5,e6⟩:=hcw
    rw [hLe] at c6 ⊢
    clear hLe
    have HLc:Hid (Range.Lies wr (LtB B) u cy):=hcy.keep (KeepS.of_below (S:=LtB B) HB3.out)
    have hBr:B≤wr.heap.size:=Nat.le_trans hB3 HB3.out.size
    clear hcl hcy hmem
    go_wp2_with fail
    refine (IH.out u cy B _ wr (by omega) (by omega) hlo HLc.out hBr HGk.out).mono ?_
    rintro e W4 ⟨A4,n4,c4',o4,rfl,q1,q2,q3,q4,hb⟩
    have HB4:=Lib.hid (HB3.out.trans (hb.mono HB3.out.size))
    have HRow4:=Lib.hid (HRow.out.kept hb)
    have HU1:=Lib.hid q1
    have HU2:=Lib.hid q2
    have HU4:=Lib.hid q4
    have hn4:n4≤1000:=by
     have h:=set_len q2
     rw [List.length_map,q1.1] at h
     omega
    clear hb q1 q2 q3 q4 c0 c1 c2 c3 c4 c5 c6 e0 e1 e2 e3 e4 e5 e6 y1 y2 HB3 HR3
    go_wp2_with fail
    refine (build_full A n c o A4 n4 c4' o4 0 _ ⟨HRow4.out,HNil.out⟩ ⟨HU1.out,HU4.out⟩ hn hn4 (.inl rfl)).mono ?_
    rintro e W5 ⟨A5,n5,c5,o5,rfl,q1,_,q2,q3,q4,_,hb⟩
    have HB5:=Lib.hid (HB4.out.trans (hb.mono HB4.out.size))
    clear hb
    go_wp2
    exact ⟨⟨A5,n5,c5,o5,k+1,rfl,by omega,by go_num,HB5.out,q1,q4,q3,by rw [HTK.out]; exact or_more HSet.out HU2.out q2⟩,by simp [intOf]; omega⟩
   ·obtain rfl:k=x.n:=by omega
    have HS:Hid (RSetIn w (SetOf r) (.returned (.slice A n c)) wr):=⟨A,n,c,o,rfl,HRow.out,by
     have h:=HSet.out
     rw [← HLN.out,List.take_length] at h
     rw [HE2.out]; exact h,HCap.out,HNil.out,HB2.out.trans (HB3.out.mono HB2.out.size)⟩
    go_wp2
    go_ret
    exact HS.out
 ·have HK:=Lib.hid hK
  have HE2:Hid (r=.mk 11 x.v r.subs):=by have:=HE.out; rw [hK] at this; exact this
  clear hK
  have q1:(x.kind == 1)=false:=by rw [HK.out]; rfl
  have q2:(x.kind == 2)=false:=by rw [HK.out]; rfl
  have q3:(x.kind == 3)=false:=by rw [HK.out]; rfl
  have q4:(x.kind == 4)=false:=by rw [HK.out]; rfl
  have q5:(x.kind == 5)=false:=by rw [HK.out]; rfl
  have q6:(x.kind == 6)=false:=by rw [HK.out]; rfl
  have q7:(x.kind == 7)=false:=by rw [HK.out]; rfl
  have q8:(x.kind == 8)=false:=by rw [HK.out]; rfl
  have q10:(x.kind == 10)=false:=by rw [HK.out]; rfl
  have q11:(x.kind == 11)=true:=by rw [HK.out]; rfl
  obtain ⟨u,hu⟩:=List.length_eq_one_iff.1 (HLN.out.trans hn)
  have HE3:Hid (r=.mk 11 x.v [u]):=by have:=HE2.out; rw [hu] at this; exact this
  obtain ⟨b,o,cy,hLe,hSb,hcl,hcy⟩:=HL.out.says.subs.one (show 0<x.n by omega)
  have hmem:u ∈ r.subs:=by rw [hu]; exact List.mem_singleton.2 rfl
  have hwt:=Range.wt_mem hmem
  have hlo:=HLO.out.sub hmem
  have HGk:=Lib.hid (Range.goodL_mem HGL.out hmem)
  rw [hu] at hcy
  have HLc:Hid (Range.Lies W (LtB B) u cy):=hcy
  have hcl':=hcl
  simp only [Nat.zero_mul,Nat.add_zero] at hcl'
  obtain ⟨e0,e1,e2,e3,e4,e5,e6⟩:=hcl'.cells
  obtain ⟨y1,y2,c0,c1,c2,c3,c4,c5,c6⟩:=HRA.out
  rw [hLe,hn] at c6
  clear hcl hcl' hcy hmem hu
  go_wp2_with fail
  refine (IH.out u cy B _ W (by omega) (by omega) hlo HLc.out hB2 HGk.out).mono ?_
  rintro e W2 ⟨A3,n3,d3,o3,rfl,q1,q2,q3,q4,hb⟩
  have HB2:=Lib.hid (HB.out.trans (hb.mono HB.out.size))
  have HQ1:=Lib.hid q1
  have HQ2:=Lib.hid q2
  have hl3:n3≤1000:=by
   have h:=set_len q2
   rw [List.length_map,q1.1] at h
   omega
  clear hb q1 q2 y1 y2 c0 c1 c2 c3 c4 c5 c6 e0 e1 e2 e3 e4 e5 e6
  go_wp2_with fail
  refine (build_full A3 n3 d3 o3 none 0 0 [] 2 _ ⟨HQ1.out,q4⟩ ⟨SpRow.none_ _ _,fun _=>rfl⟩ hl3 (by omega) (.inr (.inr rfl))).mono ?_
  intro e w4 h4
  have HS:Hid (RSetIn w (SetOf r) e w4):=(BuildFull.set h4).imp HB2.out fun o ho=>by rw [HE3.out]; exact set_not (rest_of HQ2.out (built_not ho))
  obtain ⟨A4,n4,cc4,out4,rfl,q1,q2,q3,q4,q5⟩:=HS.out
  clear h4
  go_wp2
  go_ret
  exact HS.out
theorem refOf_all:∀ m,RefOfAt m
 | 0=>fun r x B q w hm _ _ hx hB hg=>by rw [Range.wt_eq] at hm; omega
 | m+1=>refOf_step m (refOf_all m)
end Go.Proofs.YtgfbflnhjpbceaaGreatDoor.Nrm
