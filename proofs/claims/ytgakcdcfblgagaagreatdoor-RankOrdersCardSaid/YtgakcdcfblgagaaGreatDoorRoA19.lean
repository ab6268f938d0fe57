/-
  What the theorem of the last text needs of these: MoCopyV, RgCame, SpHoldsPlain, MoTodo. Conditions: as each theorem states.
-/
import Derived.Test.YtgakcdcfblgagaaGreatDoorRoA1
import Derived.Test.YtgakcdcfblgagaaGreatDoorRoA3
import Derived.Test.YtgakcdcfblgagaaGreatDoorRoA12
import Derived.Test.YtgakcdcfblgagaaGreatDoorRoA17
import Derived.Test.YtgakcdcfblgagaaGreatDoorRoA18
import Derived.WalkSmall
set_option maxRecDepth 100000
set_option maxHeartbeats 25600000
namespace Go.Proofs.YtgakcdcfblgagaaGreatDoor.Copy
open Go.RowKit Num Ident Semver Fr
open Range (Rng noRng RV Lies RgRow CellsAt KeepS LtB InS FitV wt wtL)
open KR (KRow AtV)
theorem atv_set {W:World} {b:Nat} {L:List Value} (h:AtV W b L) (i:Nat) (v:Value) (hi:i<L.length):AtV (W.setCell ⟨b,i,none⟩ v) b (L.set i v):=by
 refine ⟨by simpa using h.lt,fun o=>by simp [go_sem,h.fr],fun j u hu=>?_⟩
 by_cases e:j=i
 ·subst e
  rw [List.getElem?_set_self hi] at hu
  injection hu with hu
  subst hu
  exact World.cell?_setCell_same _ _ _ (h.at_ j L[j] (List.getElem?_eq_getElem hi))
 ·rw [List.getElem?_set_ne (fun q=>e q.symm)] at hu
  rw [cell_beside _ _ _ _ _ (fun q=>e q.symm)]
  exact h.at_ j u hu
theorem atv_but {T:Nat→Prop} {W W':World} {b:Nat} {L:List Value} (h:AtV W b L) (hb:But T W W') (hn:¬ T b):AtV W' b L :=
 ⟨Nat.lt_of_lt_of_le h.lt hb.size,fun o=>(hb.frozen h.lt hn).trans (h.fr o),fun i u hu=>(hb.cell h.lt hn).trans (h.at_ i u hu)⟩
theorem two_new (w:World) (L M:List Value) (t u:TypeId):∃ W,W=(w.alloc (.cells L.toArray t)).alloc (.cells M.toArray u)∧AtV W w.heap.size L∧AtV W (w.heap.size+1) M∧Below w.heap.size w W∧W.heap.size=w.heap.size+1+1:=by
 refine ⟨_,rfl,(AtV.new w t L).kept ((Below.refl _ _).alloc (Nat.le_refl _) _) (by simp),?_,((Below.refl _ _).alloc (Nat.le_refl _) _).alloc (by simp) _,by rw [size_alloc,size_alloc]⟩
 have h:=AtV.new (w.alloc (.cells L.toArray t)) u M
 rwa [size_alloc] at h
theorem own_slice {w:World} {base:Nat} {e:TypeId} {k:Nat} {v:Value} {n:Nat} {xs:List Value} (h:w.ownsRow base e k v n xs):∃ A c,v=.slice A n c∧n≤c∧c≤maxLen∧(A=none→c=0):=by
 rcases h.2 with ⟨rfl,rfl⟩ | ⟨g,cap,cur,rfl,_,_,h1,h2,_⟩
 ·exact ⟨none,0,rfl,Nat.le_refl _,Nat.zero_le _,fun _=>rfl⟩
 ·exact ⟨_,cap,rfl,h1,h2,fun e=>by cases e⟩
theorem _root_.Go.World.ownsRow.mono {w:World} {base base':Nat} {e:TypeId} {k:Nat} {v:Value} {n:Nat} {xs:List Value} (h:w.ownsRow base e k v n xs) (hb:base'≤base):w.ownsRow base' e k v n xs:=by
 rcases h with ⟨hl,h | ⟨g,cap,cur,rfl,hbg,r⟩⟩
 ·exact ⟨hl,.inl h⟩
 ·exact ⟨hl,.inr ⟨g,cap,cur,rfl,Nat.le_trans hb hbg,r⟩⟩
def VerCopy (w:World) (v:Ver) (e:Ending) (w':World):Prop :=
 ∃ (A:Option Addr) (c:Nat) (B:Option Addr) (d:Nat),e=.returned (.agg #[v.a,v.b,v.c,.slice A v.pre.length c,.slice B v.build.length d])∧w'.ownsRow w.heap.size 9 1 (.slice A v.pre.length c) v.pre.length (strs v.pre)∧w'.ownsRow w.heap.size 9 1 (.slice B v.build.length d) v.build.length (strs v.build)∧Below w.heap.size w w'
theorem copiedVersion_any (v:Ver) (A:Option Addr) (c:Nat) (B:Option Addr) (d:Nat) (w:World) (h1:SRow w A v.pre.length v.pre) (h2:SRow w B v.build.length v.build) (b1:v.pre.length≤8796093022208) (b2:v.build.length≤8796093022208) :
  Calls Tryz.prog 99 #[.agg #[v.a,v.b,v.c,.slice A v.pre.length c,.slice B v.build.length d]] w (VerCopy w v):=by
 obtain ⟨W0,hW,hv,hz,hb,hsz⟩:=two_new w [.int .u64 v.a,.int .u64 v.b,.int .u64 v.c,.slice A v.pre.length c,.slice B v.build.length d] [.int .u64 0,.int .u64 0,.int .u64 0,.slice none 0 0,.slice none 0 0] 37 37
 have HV:=Lib.hid hv
 have HZ:=Lib.hid hz
 have HB:=Lib.hid hb
 have H1:=Lib.hid (h1.kept hb)
 have H2:=Lib.hid (h2.kept hb)
 have HS:=Lib.hid hsz
 clear hv hz hb hsz h1 h2
 obtain ⟨vb,hvb⟩:∃ vb,w.heap.size=vb:=⟨_,rfl⟩
 go_enter Tryz.func99,Tryz.ntmps99
 go_upto_region 1 with (fail)
 rw [← hW]
 rw [hvb] at HZ HV
 have HE:Hid (w.heap.size=vb∧W0.heap.size=vb+1+1):=⟨hvb,by rw [HS.out,hvb]⟩
 try rw [hvb]
 clear hW hvb HS
 have c3:=HV.out.at_ 3 _ rfl
 have hvl:vb<W0.heap.size:=HV.out.lt
 have hvf:=HV.out.fr
 go_wp2_with fail
 refine (cloneStr_any A v.pre.length c v.pre _ H1.out (by omega) (by unfold maxLen; omega)).mono ?_
 rintro e W1 ⟨v1,rfl,ho,hb⟩
 obtain ⟨A1,e1,rfl,_⟩:=own_slice ho
 have HV1:=Lib.hid (HV.out.kept hb HV.out.lt)
 have HZ1:=Lib.hid (HZ.out.kept hb HZ.out.lt)
 have HB1:=Lib.hid (HB.out.trans (hb.mono HB.out.size))
 have H21:=Lib.hid (H2.out.kept hb)
 have HO1:=Lib.hid ho
 clear hb ho c3 hvl hvf
 have c3:=HV1.out.at_ 3 _ rfl
 have c4:=HV1.out.at_ 4 _ rfl
 have hvl:vb<W1.heap.size:=HV1.out.lt
 have hvf:=HV1.out.fr
 go_upto_region 2 with (fail)
 have HV2:Hid (AtV (W1.setCell ⟨vb,3,none⟩ (.slice A1 v.pre.length e1)) vb [.int .u64 v.a,.int .u64 v.b,.int .u64 v.c,.slice A1 v.pre.length e1,.slice B v.build.length d]):=atv_set HV1.out 3 _ (by simp)
 have hs2:But (fun k=>k=vb) W1 (W1.setCell ⟨vb,3,none⟩ (.slice A1 v.pre.length e1)):=(But.refl _ _).set _ _ _ (.inl rfl)
 have HZ2:=Lib.hid (atv_but HZ1.out hs2 (by have:=HE.out; omega))
 have HB2:Hid (Below w.heap.size w (W1.setCell ⟨vb,3,none⟩ (.slice A1 v.pre.length e1))):=HB1.out.trans ((hs2.below (B:=w.heap.size) (fun k e=>by have:=HE.out; omega) HB1.out.size))
 have H22:Hid (SRow (W1.setCell ⟨vb,3,none⟩ (.slice A1 v.pre.length e1)) B v.build.length v.build):=H21.out.set c3 (fun s e=>by cases e) _
 have HO2:=Lib.hid (own_but HO1.out hs2 (fun b e q=>by have:=(HO1.out.lt b e).1; have:=HE.out; omega))
 clear c3 c4 hvl hvf hs2
 generalize W1.setCell ⟨vb,3,none⟩ (.slice A1 v.pre.length e1)=W2 at HV2 HZ2 HB2 H22 HO2 ⊢
 have c4:=HV2.out.at_ 4 _ rfl
 have hvl:vb<W2.heap.size:=HV2.out.lt
 have hvf:=HV2.out.fr
 go_wp2_with fail
 refine (cloneStr_any B v.build.length d v.build _ H22.out (by omega) (by unfold maxLen; omega)).mono ?_
 rintro e W3 ⟨v3,rfl,ho,hb⟩
 obtain ⟨B3,d3,rfl,_⟩:=own_slice ho
 have HV3:=Lib.hid (HV2.out.kept hb HV2.out.lt)
 have HZ3:=Lib.hid (HZ2.out.kept hb HZ2.out.lt)
 have HB3:=Lib.hid (HB2.out.trans (hb.mono HB2.out.size))
 have HO3:=Lib.hid (own_below HO2.out hb)
 have HP3:=Lib.hid ho
 have HE3:Hid (vb+1+1≤W2.heap.size):=by have:=HE.out; have:=HZ2.out.lt; unfold Hid; omega
 clear hb ho c4 hvl hvf
 have c4:=HV3.out.at_ 4 _ rfl
 have hvl:vb<W3.heap.size:=HV3.out.lt
 have hvf:=HV3.out.fr
 go_upto_region 3 with (fail)
 have HV4:Hid (AtV (W3.setCell ⟨vb,4,none⟩ (.slice B3 v.build.length d3)) vb [.int .u64 v.a,.int .u64 v.b,.int .u64 v.c,.slice A1 v.pre.length e1,.slice B3 v.build.length d3]):=atv_set HV3.out 4 _ (by simp)
 have hs4:But (fun k=>k=vb) W3 (W3.setCell ⟨vb,4,none⟩ (.slice B3 v.build.length d3)):=(But.refl _ _).set _ _ _ (.inl rfl)
 have HZ4:=Lib.hid (atv_but HZ3.out hs4 (by have:=HE.out; omega))
 have HB4:Hid (Below w.heap.size w (W3.setCell ⟨vb,4,none⟩ (.slice B3 v.build.length d3))):=HB3.out.trans ((hs4.below (B:=w.heap.size) (fun k e=>by have:=HE.out; omega) HB3.out.size))
 have HO4:=Lib.hid (own_but HO3.out hs4 (fun b e q=>by have:=(HO3.out.lt b e).1; have:=HE.out; omega))
 have HP4:=Lib.hid (own_but HP3.out hs4 (fun b e q=>by have:=(HP3.out.lt b e).1; have:=HE3.out; omega))
 clear c4 hvl hvf hs4
 generalize W3.setCell ⟨vb,4,none⟩ (.slice B3 v.build.length d3)=W4 at HV4 HZ4 HB4 HO4 HP4 ⊢
 have c0:=HV4.out.at_ 0 _ rfl
 have c1:=HV4.out.at_ 1 _ rfl
 have c2:=HV4.out.at_ 2 _ rfl
 have c3:=HV4.out.at_ 3 _ rfl
 have c4:=HV4.out.at_ 4 _ rfl
 have hvl:vb<W4.heap.size:=HV4.out.lt
 have z0:=HZ4.out.at_ 0 _ rfl
 have z1:=HZ4.out.at_ 1 _ rfl
 have z2:=HZ4.out.at_ 2 _ rfl
 have z3:=HZ4.out.at_ 3 _ rfl
 have z4:=HZ4.out.at_ 4 _ rfl
 have hzl:vb+1<W4.heap.size:=HZ4.out.lt
 have hzf:=HZ4.out.fr
 go_wp2
 have hs5:But (fun k=>k=vb+1) W4 (((((W4.setCell ⟨vb+1,0,none⟩ v.a).setCell ⟨vb+1,1,none⟩ v.b).setCell ⟨vb+1,2,none⟩ v.c).setCell ⟨vb+1,3,none⟩ (.slice A1 v.pre.length e1)).setCell ⟨vb+1,4,none⟩ (.slice B3 v.build.length d3)) :=
  (((((But.refl (fun k=>k=vb+1) _).set _ _ _ (.inl rfl)).set _ _ _ (.inl rfl)).set _ _ _ (.inl rfl)).set _ _ _ (.inl rfl)).set _ _ _ (.inl rfl)
 have hw:w.heap.size=vb:=HE.out.1
 refine bodyPost_ret (v:=.agg #[v.a,v.b,v.c,.slice A1 v.pre.length e1,.slice B3 v.build.length d3]) (by simp [results,Tryz.results99,go_sem,z0,z1,z2,z3,z4]) rfl ⟨A1,e1,B3,d3,rfl,?_,?_,?_⟩
 ·exact (own_but HO4.out hs5 (fun b e q=>by have:=(HO4.out.lt b e).1; have:=HE.out; omega)).mono (by have:=HE.out; omega)
 ·exact (own_but HP4.out hs5 (fun b e q=>by have:=(HP4.out.lt b e).1; have:=HE3.out; omega)).mono (by have:=HE3.out; omega)
 ·exact HB4.out.trans (hs5.below (B:=w.heap.size) (fun k e=>by omega) HB4.out.size)
end Go.Proofs.YtgakcdcfblgagaaGreatDoor.Copy
namespace Go.Proofs.YtgakcdcfblgagaaGreatDoor.Came
open Go.ChangeShapes Go.WideShapes Go.RowKit Go.Deep
open Range (Rng noRng RV LenOk LtB InS)
theorem ver_full {H:Type} {enc:TypeId × Value→H} {W:World} {fuel:Nat} {l:List Value} {y:DataW H × List MemPlace} (hf:DataW.trod enc Tryz.prog W 0 (fun _=>true) true fuel 37 l=some y) :
  ∃ (v:Semver.Ver) (A:Option Addr) (c:Nat) (B:Option Addr) (d:Nat),l=[.int .u64 v.a,.int .u64 v.b,.int .u64 v.c,.slice A v.pre.length c,.slice B v.build.length d]∧Ident.SRow W A v.pre.length v.pre∧Ident.SRow W B v.build.length v.build∧Range.FitV v∧v.pre.length≤c∧v.build.length≤d∧(Sized 37 y.1→v.pre.length≤8796093022208∧v.build.length≤8796093022208):=by
 have hC:Tryz.prog.cellsOf 37=5:=by kernel_rfl
 have cu:Tryz.prog.cellsOf 34=1:=by kernel_rfl
 have ct:Tryz.prog.cellsOf 35=1:=by kernel_rfl
 obtain ⟨xs,n,_,hy,hsz,hlen,hg⟩:=DataW.trod_struct Tryz.underlying37 hf
 have hl:xs.length=5:=hlen
 rw [hC] at hsz
 match l,hsz with
 | [z0,z1,z2,z3,z4],_ =>
  match xs,hl with
  | [y0,y1,y2,y3,y4],_ =>
   have f0:DataW.trod enc Tryz.prog W 0 (fun _=>true) true n 34 (([z0,z1,z2,z3,z4].drop 0).take (Tryz.prog.cellsOf 34))=some y0:=hg 0 _ rfl
   rw [cu] at f0
   have g0:DataW.trod enc Tryz.prog W 0 (fun _=>true) true n 34 [z0]=some y0:=f0
   have f1:DataW.trod enc Tryz.prog W 0 (fun _=>true) true n 34 (([z0,z1,z2,z3,z4].drop 1).take (Tryz.prog.cellsOf 34))=some y1:=hg 1 _ rfl
   rw [cu] at f1
   have g1:DataW.trod enc Tryz.prog W 0 (fun _=>true) true n 34 [z1]=some y1:=f1
   have f2:DataW.trod enc Tryz.prog W 0 (fun _=>true) true n 34 (([z0,z1,z2,z3,z4].drop 2).take (Tryz.prog.cellsOf 34))=some y2:=hg 2 _ rfl
   rw [cu] at f2
   have g2:DataW.trod enc Tryz.prog W 0 (fun _=>true) true n 34 [z2]=some y2:=f2
   have f3:DataW.trod enc Tryz.prog W 0 (fun _=>true) true n 35 (([z0,z1,z2,z3,z4].drop 3).take (Tryz.prog.cellsOf 35))=some y3:=hg 3 _ rfl
   rw [ct] at f3
   have g3:DataW.trod enc Tryz.prog W 0 (fun _=>true) true n 35 [z3]=some y3:=f3
   have f4:DataW.trod enc Tryz.prog W 0 (fun _=>true) true n 35 (([z0,z1,z2,z3,z4].drop 4).take (Tryz.prog.cellsOf 35))=some y4:=hg 4 _ rfl
   rw [ct] at f4
   have g4:DataW.trod enc Tryz.prog W 0 (fun _=>true) true n 35 [z4]=some y4:=f4
   clear f0 f1 f2 f3 f4 hg
   obtain ⟨a,rfl,wa⟩:=field_read g0
   obtain ⟨b,rfl,wb⟩:=field_read g1
   obtain ⟨c,rfl,wc⟩:=field_read g2
   obtain ⟨A,m1,c1,p,e1,r1,q1,k1,u1,s1⟩:=texts_at g3
   obtain ⟨B,m2,c2,t,e2,r2,q2,k2,_,s2⟩:=texts_at g4
   simp at e1 e2
   subst e1
   subst e2
   obtain rfl:=r1.1
   obtain rfl:=r2.1
   refine ⟨⟨a,b,c,p,t⟩,A,c1,B,c2,rfl,r1,r2,⟨wa,wb,wc,Nat.le_trans q1 k1,Nat.le_trans q2 k2,s1,s2⟩,q1,q2,fun hs=>?_⟩
   rw [hy] at hs
   exact ⟨texts_len g3 (hs.part Tryz.underlying37 (i:=3) rfl rfl),texts_len g4 (hs.part Tryz.underlying37 (i:=4) rfl rfl)⟩
theorem ins_of {W:World} {A:Option Addr} {n:Nat} {l:List (List UInt8)} (h:Ident.SRow W A n l):InS (LtB W.heap.size) A n:=by
 intro h0
 obtain ⟨b,o,e,hb,_⟩:=h.2 h0
 exact ⟨b,o,e,hb⟩
theorem rng_at {H:Type} {enc:TypeId × Value→H} {W:World}:∀ (N fuel:Nat) (l:List Value) (y:DataW H × List MemPlace),fuel≤N→DataW.trod enc Tryz.prog W 0 (fun _=>true) true fuel 65 l=some y →
  ∃ (r:Rng) (x:RV),l=x.vals∧Range.Lies W (LtB W.heap.size) r x∧LenOk r∧(Sized 65 y.1→Nrm.Slim r)
 | 0,fuel,l,y,hN,hf=>by
  obtain ⟨xs,n,e,_⟩:=DataW.trod_struct Tryz.underlying65 hf
  omega
 | N+1,fuel,l,y,hN,hf=>by
  have hC:Tryz.prog.cellsOf 65=7:=by kernel_rfl
  have ci:Tryz.prog.cellsOf 3=1:=by kernel_rfl
  have cv:Tryz.prog.cellsOf 37=5:=by kernel_rfl
  have cl:Tryz.prog.cellsOf 63=1:=by kernel_rfl
  obtain ⟨xs,n,hfn,hy0,hsz,hlen,hg⟩:=DataW.trod_struct Tryz.underlying65 hf
  have hl:xs.length=3:=hlen
  rw [hC] at hsz
  match l,hsz with
  | [z0,z1,z2,z3,z4,z5,z6],_ =>
   match xs,hl with
   | [y0,y1,y2],_ =>
    have f0:DataW.trod enc Tryz.prog W 0 (fun _=>true) true n 3 (([z0,z1,z2,z3,z4,z5,z6].drop 0).take (Tryz.prog.cellsOf 3))=some y0:=hg 0 _ rfl
    rw [ci] at f0
    have g0:DataW.trod enc Tryz.prog W 0 (fun _=>true) true n 3 [z0]=some y0:=f0
    have f1:DataW.trod enc Tryz.prog W 0 (fun _=>true) true n 37 (([z0,z1,z2,z3,z4,z5,z6].drop 1).take (Tryz.prog.cellsOf 37))=some y1:=hg 1 _ rfl
    rw [cv] at f1
    have g1:DataW.trod enc Tryz.prog W 0 (fun _=>true) true n 37 [z1,z2,z3,z4,z5]=some y1:=f1
    have f2:DataW.trod enc Tryz.prog W 0 (fun _=>true) true n 63 (([z0,z1,z2,z3,z4,z5,z6].drop 6).take (Tryz.prog.cellsOf 63))=some y2:=hg 2 _ rfl
    rw [cl] at f2
    have g2:DataW.trod enc Tryz.prog W 0 (fun _=>true) true n 63 [z6]=some y2:=f2
    clear f0 f1 f2 hg
    obtain ⟨k,rfl⟩:=kind_read g0
    obtain ⟨v,A,c,B,d,e,h1,h2,h3,h4,h5,hvs⟩:=ver_full g1
    have hpv:Sized 65 y.1→v.pre.length≤8796093022208∧v.build.length≤8796093022208:=fun hs=>by
     rw [hy0] at hs
     exact hvs (hs.part Tryz.underlying65 (i:=1) rfl rfl)
    have hps:Sized 65 y.1→Sized 63 y2.1:=fun hs=>by
     rw [hy0] at hs
     exact hs.part Tryz.underlying65 (i:=2) rfl rfl
    simp only [List.cons.injEq,and_true] at e
    obtain ⟨rfl,rfl,rfl,rfl,rfl⟩:=e
    rcases DataW.trod_slice Tryz.underlying63 g2 with ⟨hz,_⟩ | ⟨a,len,cap,elems,rest,n2,hn2,hz,hy2,_,hlc,hcm,hel,hi,_,_⟩
    ·simp only [List.cons.injEq,and_true] at hz
     subst hz
     exact ⟨.mk k v [],⟨k,v,A,c,B,d,none,0,0⟩,rfl,Range.Lies.version k v A c B d h1 h2 (ins_of h1) (ins_of h2) h4 h5 h3,.mk k v [] (by simp) (fun y hy=>by cases hy),fun hs=>.mk k v [] (hpv hs).1 (hpv hs).2 (fun y hy=>by cases hy)⟩
    ·simp only [List.cons.injEq,and_true] at hz
     subst hz
     rw [hC] at hi
     obtain ⟨ps,hpl,hp⟩:=list_of (α:=Rng × RV) (P:=fun i (p:Rng × RV)=>(Range.Lies W (LtB W.heap.size) p.1 p.2∧LenOk p.1∧(Sized 65 y.1→Nrm.Slim p.1))∧∀ j u,p.2.vals[j]?=some u→W.cell? ((a.add (i * 7)).add j)=some u) len fun i hi'=>by
      have h0:=hi i hi'
      rw [List.getElem?_eq_getElem (show i<elems.length by omega),Option.bind_eq_some_iff] at h0
      obtain ⟨cs,hc,ht⟩:=h0
      obtain ⟨_,hcl,hat⟩:=World.cells?_some hc
      obtain ⟨r,x,e,hr,ho,hsl⟩:=rng_at N n2 cs _ (by omega) ht
      refine ⟨(r,x),⟨hr,ho,fun hs=>hsl (by
       have h2:=hps hs
       rw [hy2] at h2
       exact h2.elem Tryz.underlying63 (i:=i) (List.getElem?_eq_getElem (show i<elems.length by omega)))⟩,fun j u hu=>?_⟩
      have hj:j<7:=(List.getElem?_eq_some_iff.1 hu).1
      rw [hat j hj,e]; exact hu
     have hgd:∀ j,j<len→(ps.map Prod.fst).getD j noRng=(ps.getD j default).1:=fun j hj=>by
      rw [List.getD_eq_getElem?_getD,List.getD_eq_getElem?_getD,List.getElem?_map,List.getElem?_eq_getElem (show j<ps.length by omega)]; rfl
     refine ⟨.mk k v (ps.map Prod.fst),⟨k,v,A,c,B,d,some a,len,cap⟩,rfl,Range.Lies.mk ⟨k,v,A,c,B,d,some a,len,cap⟩ (ps.map Prod.fst) (fun j=>(ps.getD j default).2) (by simp [hpl]) hlc h1 h2 (ins_of h1) (ins_of h2) h4 h5 h3 (fun e=>by cases e) (fun h0=>?_) (fun j hj=>?_),.mk k v _ (by rw [List.length_map,hpl]; unfold maxLen at hcm; omega) (fun q hq=>?_),fun hs=>.mk k v _ (hpv hs).1 (hpv hs).2 (fun q hq=>?_)⟩
     ·have h0:0<len:=h0
      obtain ⟨b,o,spot⟩:=a
      have h0c:=(hp 0 h0).2 0 _ rfl
      have hspot:spot=none:=by simpa [Addr.add] using World.cell?_spot h0c
      subst hspot
      refine ⟨b,o,rfl,?_,fun j hj i u hu=>?_⟩
      ·have:=World.block_lt_of_cell? W _ h0c
       rwa [Num.add_none,Num.add_none] at this
      ·have e:=(hp j hj).2 i u hu
       rwa [Num.add_none,Num.add_none] at e
     ·rw [hgd j hj]; exact (hp j hj).1.1
     ·obtain ⟨p,hp1,rfl⟩:=List.mem_map.1 hq
      obtain ⟨j,hj,rfl⟩:=List.getElem_of_mem hp1
      have:=(hp j (by omega)).1.2.1
      simpa [List.getD,List.getElem?_eq_getElem hj] using this
     ·obtain ⟨p,hp1,rfl⟩:=List.mem_map.1 hq
      obtain ⟨j,hj,rfl⟩:=List.getElem_of_mem hp1
      have:=(hp j (by omega)).1.2.2 hs
      simpa [List.getD,List.getElem?_eq_getElem hj] using this
end Go.Proofs.YtgakcdcfblgagaaGreatDoor.Came
namespace Go.Proofs.YtgakcdcfblgagaaGreatDoor.Span
open Go.RowKit Num Ident Semver Prec

def hasV (l:List Sp) (v:Ver):Bool:=l.any (hasOne (aheadOf v) (behindOf v))
theorem hasV_iff {l:List Sp} {v:Ver} (h:Rights l) (hv:right (aheadOf v)=true):hasV l v=true↔inS l (aheadOf v):=has_iff h hv
theorem ahead_in {v:Ver} (hv:right (aheadOf v)=true):inOne ⟨low,high⟩ (aheadOf v):=⟨low_le hv,lt_le (ahead_behind v) (le_high (right_behind hv))⟩
end Go.Proofs.YtgakcdcfblgagaaGreatDoor.Span
namespace Go.Proofs.YtgakcdcfblgagaaGreatDoor.Copy
open Go.RowKit Num Ident Semver Fr
open Range (Rng noRng RV Lies RgRow CellsAt KeepS LtB InS FitV wt wtL)
open KR (KRow AtV)
open Nrm (tot totL)

theorem tot_mem {q:Rng}:∀ {l:List Rng},q ∈ l→tot q≤totL l
 | x :: l,h=>by
  show tot q≤tot x+totL l
  rcases List.mem_cons.1 h with rfl | h
  ·omega
  ·have:=tot_mem h; omega
theorem tot_pos (r:Rng):1≤tot r:=by rw [Nrm.tot_eq]; omega
theorem len_tot:∀ l:List Rng,l.length≤totL l
 | []=>Nat.le_refl _
 | x :: l=>by
  show l.length+1≤tot x+totL l
  have:=len_tot l; have:=tot_pos x; omega
structure Td where
 A:Option Addr
 c:Nat
 rs:List Rng
def Td.val (t:Td):Value:=.slice t.A t.rs.length t.c
def TdOk (G:Ghost) (t:Td):Prop:=t.rs=[]∨∃ g,t.A=some ⟨g,0,none⟩∧G g=some t.rs
def tdW (t:Td):Nat:=1+2 * wtL t.rs
def sumW:List Td→Nat
 | []=>0
 | t :: T=>tdW t+sumW T
theorem sumW_append:∀ (T U:List Td),sumW (T ++ U)=sumW T+sumW U
 | [],U=>by show sumW U=0+sumW U; omega
 | t :: T,U=>by show tdW t+sumW (T ++ U)=tdW t+sumW T+sumW U; rw [sumW_append T U]; omega
theorem sumW_len:∀ T:List Td,T.length≤sumW T
 | []=>Nat.le_refl _
 | t :: T=>by
  show T.length+1≤tdW t+sumW T
  have:=sumW_len T; unfold tdW; omega
def Kids (rs:List Rng) (k:Nat) (K:List Td):Prop:=K.length=k∧sumW K≤2 * wtL (rs.take k)
theorem wtL_take:∀ (l:List Rng) (k:Nat),k<l.length→wtL (l.take (k+1))=wtL (l.take k)+wt (l.getD k noRng)
 | [],k,h=>absurd h (Nat.not_lt_zero _)
 | r :: rs,0,_=>by show wt r+wtL (rs.take 0)=0+wt r; rw [List.take_zero]; show wt r+0=_; omega
 | r :: rs,k+1,h=>by
  show wt r+wtL (rs.take (k+1))=wt r+wtL (rs.take k)+wt (rs.getD k noRng)
  rw [wtL_take rs k (by simpa using h)]; omega
theorem Kids.snoc {rs:List Rng} {k:Nat} {K:List Td} (h:Kids rs k K) (hk:k<rs.length) {t:Td} (ht:t.rs=(rs.getD k noRng).subs):Kids rs (k+1) (K ++ [t]):=by
 refine ⟨by rw [List.length_append,h.1]; rfl,?_⟩
 rw [sumW_append,wtL_take rs k hk]
 have:=h.2
 have e:wt (rs.getD k noRng)=1+wtL (rs.getD k noRng).subs:=Range.wt_eq _
 show sumW K+(tdW t+0)≤_
 unfold tdW
 rw [ht]
 omega
structure CopyAt (W1 W:World) (B:Nat) (G:Ghost) (v:Value) (T:List Td):Prop where
 typed:Typed W B G
 own:W.ownsRow W1.heap.size 63 1 v T.length (T.map Td.val)
 ok:∀ t ∈ T,TdOk G t
 hi:∀ g rs,G g=some rs→W1.heap.size≤g
 small:∀ g rs,G g=some rs→∀ q ∈ rs,tot q≤12
 bel:Below W1.heap.size W1 W
 le:B≤W1.heap.size
theorem CopyAt.below {W1 W W':World} {B:Nat} {G:Ghost} {v:Value} {T:List Td} (h:CopyAt W1 W B G v T) (hb:Below W.heap.size W W'):CopyAt W1 W' B G v T :=
 ⟨h.typed.below hb,own_below h.own hb,h.ok,h.hi,h.small,h.bel.trans (hb.mono h.bel.size),h.le⟩
theorem CopyAt.last {W1 W:World} {B:Nat} {G:Ghost} {v:Value} {R:List Td} {t:Td} (h:CopyAt W1 W B G v (R ++ [t])):∃ tb cp,v=.slice (some ⟨tb,0,none⟩) (R.length+1) cp∧tb<W.heap.size∧R.length+1≤cp∧W.cell? ⟨tb,R.length,none⟩=some t.val:=by
 have ho:=h.own
 have hlen:(R ++ [t]).length=R.length+1:=by simp
 rw [hlen] at ho
 rcases ho.2 with ⟨_,h0⟩ | ⟨g,cp,cur,rfl,hg,hh,hn,_⟩
 ·exact absurd h0 (Nat.succ_ne_zero _)
 ·refine ⟨g,cp,rfl,(Array.getElem?_eq_some_iff.1 hh).1,hn,?_⟩
  rw [ho.cellAt R.length (by omega)]
  simp
theorem CopyAt.pop {W1 W:World} {B:Nat} {G:Ghost} {tb cp:Nat} {R:List Td} {t:Td} (h:CopyAt W1 W B G (.slice (some ⟨tb,0,none⟩) (R.length+1) cp) (R ++ [t])):CopyAt W1 W B G (.slice (some ⟨tb,0,none⟩) R.length cp) R:=by
 refine ⟨h.typed,?_,fun z hz=>h.ok z (by simp [hz]),h.hi,h.small,h.bel,h.le⟩
 have ho:=h.own
 rw [show (R ++ [t]).length=R.length+1 by simp,List.map_append] at ho
 exact ownsRow_pop (by simp) ho
theorem CopyAt.apart {W1 W:World} {B:Nat} {G:Ghost} {v:Value} {T:List Td} (h:CopyAt W1 W B G v T) {tb:Nat} (hv:v.ownBlock=some tb):G tb=none∧Not W B tb:=by
 rcases h.own.2 with ⟨rfl,_⟩ | ⟨g,cp,cur,rfl,hg,hh,_⟩
 ·cases hv
 ·injection hv with hv
  have hv:g=tb:=hv
  subst hv
  refine ⟨?_,Nat.le_trans h.le hg,fun cur' q=>?_⟩
  ·cases hG:G g with
   | none=>rfl
   | some rs =>
    obtain ⟨c,xs,_,h2,_⟩:=h.typed g rs hG
    rcases h2.2 with ⟨e,_⟩ | ⟨g',cp',cur',e,_,hh',_⟩
    ·cases e
    ·injection e with e
     injection e with e
     injection e with e
     subst e
     rw [hh] at hh'
     injection hh' with hh'
     injection hh' with _ hh'
     exact absurd hh' (by decide)
  ·rw [hh] at q
   injection q with q
   injection q with _ q
   exact absurd q (by decide)
theorem CopyAt.cur {W1 W:World} {B:Nat} {G:Ghost} {v:Value} {T:List Td} (h:CopyAt W1 W B G v T) {g:Nat} {rs:List Rng} {j i:Nat} {u:Value} {y:RV} (hg:G g=some rs) (hc:Cur (W.setCell ⟨g,j * 7+i,none⟩ u) B G g rs j y):CopyAt W1 (W.setCell ⟨g,j * 7+i,none⟩ u) B G v T:=by
 refine ⟨hc.typed,own_but h.own (But.one W g _ u) (fun b e q=>?_),h.ok,h.hi,h.small,h.bel.setCell (p:=⟨g,j * 7+i,none⟩) (h.hi g rs hg) u,h.le⟩
 have q:b=g:=q
 have:=(h.apart e).1
 rw [q,hg] at this
 cases this
theorem CopyAt.add {W1 W:World} {B:Nat} {G:Ghost} {v:Value} {T:List Td} (h:CopyAt W1 W B G v T) {g:Nat} {rs:List Rng} (hn:G g=none) (hg:W1.heap.size≤g) {c:Nat} {xs:List RV} (h1:xs.length=rs.length) (h2:W.ownsRow B 65 7 (.slice (some ⟨g,0,none⟩) rs.length c) rs.length (xs.flatMap RV.vals)) (h3:∀ j,j<rs.length→Ok1 W B G (rs.getD j noRng) (xs.getD j default)) (h4:∀ q ∈ rs,tot q≤12) :
  CopyAt W1 W B (fun k=>if k=g then some rs else G k) v T:=by
 refine ⟨h.typed.add hn h1 h2 h3,h.own,fun t ht=>?_,fun k q hk=>?_,fun k q hk=>?_,h.bel,h.le⟩
 ·rcases h.ok t ht with h0 | ⟨k,e,hk⟩
  ·exact .inl h0
  ·refine .inr ⟨k,e,?_⟩
   show (if k=g then some rs else G k)=_
   rw [if_neg (fun q=>by rw [q,hn] at hk; cases hk)]; exact hk
 ·have hk:(if k=g then some rs else G k)=some q:=hk
  by_cases e:k=g
  ·rw [e]; exact hg
  ·rw [if_neg e] at hk; exact h.hi k q hk
 ·have hk:(if k=g then some rs else G k)=some q:=hk
  by_cases e:k=g
  ·rw [if_pos e] at hk
   injection hk with hk
   subst hk
   exact h4
  ·rw [if_neg e] at hk; exact h.small k q hk
theorem Typed.kids {W:World} {B:Nat} {G:Ghost} (h:Typed W B G) {r:Rng} {x:RV} (hx:Ok1 W B G r x):∃ xs:List RV,KRow RV.vals 7 W (fun _=>True) x.L x.n xs∧∀ j,j<x.n→Ok1 W B G (r.subs.getD j noRng) (xs.getD j default):=by
 rcases hx.at_ with ⟨f,h1,h2,h3⟩ | ⟨g,hL,hG⟩
 ·have hgd:∀ j,j<x.n→((List.range x.n).map f).getD j default=f j:=fun j hj=>by
   rw [List.getD_eq_getElem?_getD,List.getElem?_map,List.getElem?_range hj]; rfl
  refine ⟨(List.range x.n).map f,⟨by simp,fun h0=>?_⟩,fun j hj=>?_⟩
  ·obtain ⟨b,o,e,_,hc⟩:=h2 h0
   refine ⟨b,o,e,trivial,(hc 0 h0).lt,fun j hj i u hu=>?_⟩
   rw [hgd j hj] at hu
   exact hc j hj i u hu
  ·rw [hgd j hj]
   exact Ok1.of_lies (h3 j hj)
 ·obtain ⟨c,xs,h1,h2,h3⟩:=h g r.subs hG
  have hs:=hx.subs
  refine ⟨xs,⟨h1.trans hs,fun h0=>⟨g,0,hL,trivial,(own_at h2 h1 (by omega:0<r.subs.length)).2.1,fun j hj i u hu=>?_⟩⟩,fun j hj=>h3 j (by omega)⟩
  have:=(own_at h2 h1 (by omega:j<r.subs.length)).2.2.2.2 i u hu
  rwa [Nat.zero_add]
end Go.Proofs.YtgakcdcfblgagaaGreatDoor.Copy
