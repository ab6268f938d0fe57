/-
  What the theorem of the last text needs of these: NmRefPlain. Conditions: as each theorem states.
-/
import Derived.Test.YtgfbflnhjpbceaaGreatDoorSetB1
import Derived.Test.YtgfbflnhjpbceaaGreatDoorSetB16
import Derived.Test.YtgfbflnhjpbceaaGreatDoorSetB36
import Derived.Deep.CutBlock
import Derived.Deep.DeepCutAuto
set_option maxRecDepth 100000
set_option maxHeartbeats 25600000
namespace Go.Proofs.YtgfbflnhjpbceaaGreatDoor.Nrm
open Go.RowKit Num Ident Semver Prec Span
open Range (Rng noRng goodR goodL fits RV RAt WRow InS Elems LtB wt wtL wtL_len wt_mem KeepS zeroRV wpList_append_rg rv_one rv_len)
def El (w:World) (v:Value) (g:Nat):Prop:=g≠w.heap.size∧some g≠v.ownBlock
theorem one_grown {U U':World} {row:Option Nat} {g:Nat} {s:RSp} (h:SpRow U (some ⟨g,0,none⟩) 1 [s]) (hg:U.grownBy U' row) (hne:some g≠row) (hl:LiesS U' s):SpRow U' (some ⟨g,0,none⟩) 1 [s]:=by
 refine ⟨rfl,fun x hx=>by rw [List.mem_singleton] at hx; rw [hx]; exact hl,fun h0=>?_⟩
 obtain ⟨b,o,e,hlt,hc⟩:=h.2.2 h0
 have hb:g=b:=by injection e with e; injection e
 subst hb
 exact ⟨g,o,e,Nat.lt_of_lt_of_le hlt hg.size,fun j hj i v hv=>(World.cell?_of_block (w:=U) (a:=⟨g,o+j * 12+i,none⟩) (hg.block g hlt hne)).trans (hc j hj i v hv)⟩
theorem srow_before {w:World} {t:TypeId} {A:Option Addr} {n:Nat} {xs:List (List UInt8)} (h:SRow (w.alloc (.cells #[.int .i64 0,.int .u64 0,.int .u64 0,.int .u64 0,.slice none 0 0,.slice none 0 0,.slice none 0 0] t)) A n xs):SRow w A n xs:=by
 refine ⟨h.1,fun h0=>?_⟩
 obtain ⟨b,o,e,hlt,hc⟩:=h.2 h0
 rw [size_alloc] at hlt
 have hne:b≠w.heap.size:=by
  rintro rfl
  have q:=hc 0 h0
  rw [Nat.add_zero] at q
  match o,q with
  | 0,q=>simp [go_sem] at q
  | 1,q=>simp [go_sem] at q
  | 2,q=>simp [go_sem] at q
  | 3,q=>simp [go_sem] at q
  | 4,q=>simp [go_sem] at q
  | 5,q=>simp [go_sem] at q
  | 6,q=>simp [go_sem] at q
  | o+7,q=>simp [go_sem] at q
 refine ⟨b,o,e,by omega,fun j hj=>?_⟩
 have hb:Below w.heap.size w (w.alloc (.cells #[.int .i64 0,.int .u64 0,.int .u64 0,.int .u64 0,.slice none 0 0,.slice none 0 0,.slice none 0 0] t)):=(Below.refl _ _).alloc (Nat.le_refl _) _
 exact (hb.cell (p:=⟨b,o+j,none⟩) (show b<w.heap.size by omega)).symm.trans (hc j hj)
theorem lies_before {w:World} {t:TypeId} {s:RSp} (h:LiesS (w.alloc (.cells #[.int .i64 0,.int .u64 0,.int .u64 0,.int .u64 0,.slice none 0 0,.slice none 0 0,.slice none 0 0] t)) s):LiesS w s :=
 ⟨⟨srow_before h.lo.pre,srow_before h.lo.build,h.lo.fpre,h.lo.fbuild⟩,⟨srow_before h.hi.pre,srow_before h.hi.build,h.hi.fpre,h.hi.fbuild⟩⟩
structure RsAt (w:World) (N:Nat) (v:Value) (done:List Rng) (xs:List RV) (W:World):Prop where
 le:w.heap.size+1≤N
 own:W.ownsRow N 28 7 v done.length (xs.flatMap RV.vals)
 len:xs.length=done.length
 lies:∀ j,j<done.length→Range.Weak W (El w v) (done.getD j noRng) (xs.getD j default)
 res:RAt W w.heap.size (zeroRV 0)
 bel:Below w.heap.size w W
theorem RsAt.kept {w:World} {N:Nat} {v:Value} {done:List Rng} {xs:List RV} {W W':World} (h:RsAt w N v done xs W) (hb:Below W.heap.size W W'):RsAt w N v done xs W' :=
 ⟨h.le,own_below h.own hb,h.len,fun j hj=>(h.lies j hj).keep (KeepS.of_below hb),h.res.kept hb h.res.1,h.bel.trans (hb.mono h.bel.size)⟩
theorem RsAt.off {w:World} {N:Nat} {v:Value} {done:List Rng} {xs:List RV} {W:World} (h:RsAt w N v done xs W) {g:Nat} (hg:Off w.heap.size W.heap.size g):El w v g:=by
 have hle:=h.le
 refine ⟨fun e=>?_,fun e=>?_⟩
 ·have:=h.bel.size
  rcases hg with hg | hg <;> omega
 ·have:=h.own.lt g e.symm
  rcases hg with hg | hg <;> omega
theorem RsAt.more {w:World} {N:Nat} {v v':Value} {done:List Rng} {xs:List RV} {W W':World} {r:Rng} {x:RV} (h:RsAt w N v done xs W) (ho:W'.ownsRow N 28 7 v' (done.length+1) ((xs ++ [x]).flatMap RV.vals)) (hg:W.grownBy W' v.ownBlock)
  (hat:v'.ownBlock=v.ownBlock∨v'.ownBlock=some W.heap.size) (hx:Range.Weak W (El w v) r x):RsAt w N v' (done ++ [r]) (xs ++ [x]) W':=by
 have hle:=h.le
 have hel:∀ (q:Rng) (y:RV),Range.Weak W (El w v) q y→Range.Weak W' (El w v') q y:=fun q y hq=>by
  have h1:Range.Weak W (fun g=>El w v g∧El w v' g) q y:=hq.mono fun g hS hlt=>⟨hS,hS.1,by
   rcases hat with e | e
   ·rw [e]; exact hS.2
   ·rw [e]; intro h; injection h with h; omega⟩
  exact (h1.keep (KeepS.grown hg fun g hS=>hS.1.2)).mono fun g hS _=>hS.2
 refine ⟨hle,by rw [List.length_append]; exact ho,by rw [List.length_append,List.length_append,h.len]; rfl,fun k hk=>?_,h.res.grown hg (fun e=>by have:=(h.own.lt _ e.symm).1; omega),h.bel.trans ((Below.refl _ _).grown hg h.bel.size fun g e=>by have:=(h.own.lt _ e).1; omega)⟩
 rw [List.length_append,List.length_singleton] at hk
 by_cases hlt:k<done.length
 ·have e1:(done ++ [r]).getD k noRng=done.getD k noRng:=by simp [List.getD,List.getElem?_append_left hlt]
  have e2:(xs ++ [x]).getD k default=xs.getD k default:=by simp [List.getD,List.getElem?_append_left (show k<xs.length by rw [h.len]; exact hlt)]
  rw [e1,e2]; exact hel _ _ (h.lies k hlt)
 ·have ek:k=done.length:=by omega
  have e1:(done ++ [r]).getD k noRng=r:=by rw [ek]; simp [List.getD]
  have e2:(xs ++ [x]).getD k default=x:=by rw [ek,← h.len]; simp [List.getD]
  rw [e1,e2]; exact hel _ _ hx
theorem RsAt.row {w:World} {N:Nat} {v:Value} {done:List Rng} {xs:List RV} {W:World} (h:RsAt w N v done xs W):∃ A e,v=.slice A done.length e∧WRow W (fun g=>g≠w.heap.size) A done.length done :=
 Range.WRow.of_own h.own (fun g hg=>by have:=h.le; omega) h.len rfl fun j hj=>(h.lies j hj).mono fun _ hS _=>hS.1
theorem pieces_start {L:List Sp} (h:0<L.length):piecesR L=(grp [L.getD 0 default] (L.drop 1)).map pieceR:=by
 cases L with
 | nil=>exact absurd h (Nat.lt_irrefl _)
 | cons s l=>rfl
theorem grp_next {L row:List Sp} {k:Nat} (h:k<L.length):grp row (L.drop k)=if isPoint (lastOf row).hi (L.getD k default).lo=true then grp (row ++ [L.getD k default]) (L.drop (k+1)) else row :: grp [L.getD k default] (L.drop (k+1)):=by
 rw [drop_next h,grp]
theorem one_row {w:World} {A:Option Addr} {n:Nat} {l:List RSp} (h:SpRow w A n l) {b o k:Nat} (hA:A=some ⟨b,o,none⟩) (hk:k<n):SpRow w (some ⟨b,o+k * 12,none⟩) (0+1) [l.getD k default]:=by
 have q:=SpRow.sub h hA (f:=k) (p:=0) (by omega)
 have e:(l.drop k).take (0+1)=[l.getD k default]:=by
  have hl:k<l.length:=by rw [h.1]; exact hk
  rw [List.drop_eq_getElem_cons hl,List.take_succ_cons,List.take_zero,List.getD_eq_getElem?_getD,List.getElem?_eq_getElem hl]; rfl
 rw [e] at q; exact q
structure RwAt (out row:List RSp) (k:Nat) (done:List Rng):Prop where
 mem:∀ s ∈ row,s ∈ out
 last:lastOf (row.map RSp.sp)=(out.getD (k - 1) default).sp
 all:done ++ (grp (row.map RSp.sp) ((out.map RSp.sp).drop k)).map pieceR=piecesR (out.map RSp.sp)
 chain:Chain (row.map RSp.sp)
 norm:Span.Norm (row.map RSp.sp ++ (out.map RSp.sp).drop k)
 few:done.length≤k
theorem RwAt.start {out:List RSp} (h:0<out.length) (hN:Span.Norm (out.map RSp.sp)):RwAt out [out.getD 0 default] 1 []:=by
 have hl:0<(out.map RSp.sp).length:=by rw [List.length_map]; exact h
 refine ⟨fun s hs=>by rw [List.mem_singleton] at hs; rw [hs]; exact getS_mem h,rfl,?_,Chain.one _,?_,Nat.zero_le _⟩
 ·rw [pieces_start hl,sp_at]; rfl
 ·show Span.Norm ((out.getD 0 default).sp :: (out.map RSp.sp).drop (0+1))
  rw [← sp_at,← drop_next hl,List.drop_zero]; exact hN
theorem RwAt.point {out row:List RSp} {k:Nat} {done:List Rng} (h:RwAt out row k done) (hr:row≠[]) (hk:k<out.length) (hp:isPoint (out.getD (k - 1) default).hi.cut (out.getD k default).lo.cut=true):RwAt out (row ++ [out.getD k default]) (k+1) done:=by
 have hl:k<(out.map RSp.sp).length:=by rw [List.length_map]; exact hk
 have e:(row ++ [out.getD k default]).map RSp.sp=row.map RSp.sp ++ [(out.getD k default).sp]:=by rw [List.map_append]; rfl
 have hq:isPoint (lastOf (row.map RSp.sp)).hi (out.getD k default).sp.lo=true:=by rw [h.last]; exact hp
 have hn:=h.norm
 rw [drop_next hl,sp_at] at hn
 refine ⟨fun s hs=>?_,?_,?_,?_,?_,by have:=h.few; omega⟩
 ·rcases List.mem_append.1 hs with hs | hs
  ·exact h.mem s hs
  ·rw [List.mem_singleton] at hs; rw [hs]; exact getS_mem hk
 ·rw [e,last_snoc,Nat.add_sub_cancel]
 ·have q:=h.all
  rw [grp_next hl,sp_at,if_pos hq] at q
  rw [e]; exact q
 ·rw [e]; exact h.chain.snoc (by simpa using hr) hq
 ·rw [e,List.append_assoc]; exact hn
theorem RwAt.shut {out row:List RSp} {k:Nat} {done:List Rng} (h:RwAt out row k done) (hk:k<out.length) (hp:isPoint (out.getD (k - 1) default).hi.cut (out.getD k default).lo.cut=false):RwAt out [out.getD k default] (k+1) (done ++ [pieceR (row.map RSp.sp)]):=by
 have hl:k<(out.map RSp.sp).length:=by rw [List.length_map]; exact hk
 have hq:isPoint (lastOf (row.map RSp.sp)).hi (out.getD k default).sp.lo=false:=by rw [h.last]; exact hp
 have hn:=h.norm
 rw [drop_next hl,sp_at] at hn
 refine ⟨fun s hs=>by rw [List.mem_singleton] at hs; rw [hs]; exact getS_mem hk,by rw [Nat.add_sub_cancel]; rfl,?_,Chain.one _,(norm_append hn).2,by rw [List.length_append]; have:=h.few; simp; omega⟩
 have q:=h.all
 rw [grp_next hl,sp_at,if_neg (by rw [hq]; decide),List.map_cons] at q
 rw [List.append_assoc]; exact q
theorem RwAt.done {out row:List RSp} {k:Nat} {done:List Rng} (h:RwAt out row k done) (hk:out.length≤k):done ++ [pieceR (row.map RSp.sp)]=piecesR (out.map RSp.sp):=by
 have q:=h.all
 rw [List.drop_eq_nil_of_le (by rw [List.length_map]; exact hk),grp] at q
 exact q
def PlPost (w:World) (l:List Sp) (e:Ending) (w':World):Prop:=∃ o,NormalOf l o∧WPost w (fun _=>True) (plainR o) e w'
theorem refPlain_any (A:Option Addr) (n c:Nat) (l:List RSp) (w:World) (hr:SpRow w A n l) (hnil:A=none→c=0) (hn:n≤1000) :
  Calls Tryz.prog 17 #[.slice A n c] w (PlPost w (l.map RSp.sp)):=by
 have HBf:Hid (∀ s,LiesS (w.alloc ()) s→LiesS w s):=fun s h=>lies_before h
 have HB:Hid (Below w.heap.size w (w.alloc ())):=(Below.refl _ _).alloc (Nat.le_refl _) _
 have HR:Hid (RAt (w.alloc ()) w.heap.size (zeroRV 0)):=RAt.new w _ (zeroRV 0)
 have HRow:=Lib.hid (hr.kept HB.out)
 have hsz:(w.alloc ()).heap.size=w.heap.size+1:=size_alloc _ _
 have HNil:=Lib.hid hnil
 clear hr hnil
 go_enter Tryz.func17,Tryz.ntmps17
 go_upto_region 1 with (fail)
 generalize w.alloc ()=W1 at HB HBf HR HRow hsz ⊢
 go_wp2_with fail
 refine (build_full A n c l none 0 0 [] 0 W1 ⟨HRow.out,HNil.out⟩ ⟨SpRow.none_ _ _,fun _=>rfl⟩ hn (by omega) (.inl rfl)).mono ?_
 rintro e W2 ⟨P,m,c2,out,rfl,q1,hm,q3,hmc,q5,q6,hb⟩
 have HB2:=Lib.hid (HB.out.trans (hb.mono HB.out.size))
 have HR2:=Lib.hid (HR.out.kept hb HR.out.1)
 have HS:=Lib.hid q1
 have HN:=Lib.hid (built_normal q3)
 have HO:Hid (∀ s ∈ out,LiesS w s):=fun s hs=>HBf.out s (q6 s hs)
 have HW:=HB2
 clear q1 q3 q5 q6 hb HRow
 by_cases h0:m=0
 ·obtain rfl:out=[]:=List.eq_nil_of_length_eq_zero (HS.out.1.trans h0)
  have q0:((m:Int) == 0)=true:=by simp [h0]
  clear h0
  have hzz:(Range.setR W2 w.heap.size (⟨11,noVer,none,0,none,0,some ⟨W2.heap.size,0,none⟩,1,1⟩:RV)).heap.size=W2.heap.size:=by unfold Range.setR; simp
  have HK9:Hid (RAt ((Range.setR W2 w.heap.size (⟨11,noVer,none,0,none,0,some ⟨W2.heap.size,0,none⟩,1,1⟩:RV)).alloc ()) w.heap.size (⟨11,noVer,none,0,none,0,some ⟨W2.heap.size,0,none⟩,1,1⟩:RV)):=(Range.setR_at HR2.out).kept ((Below.refl _ _).alloc (Nat.le_refl _) _) (Range.setR_at (x:=(⟨11,noVer,none,0,none,0,some ⟨W2.heap.size,0,none⟩,1,1⟩:RV)) HR2.out).1
  have HB9:Hid (Below w.heap.size w ((Range.setR W2 w.heap.size (⟨11,noVer,none,0,none,0,some ⟨W2.heap.size,0,none⟩,1,1⟩:RV)).alloc ())):=(HB2.out.trans (Range.setR_below w.heap.size (Nat.le_refl _) (⟨11,noVer,none,0,none,0,some ⟨W2.heap.size,0,none⟩,1,1⟩:RV))).alloc (by rw [hzz]; exact HB2.out.size) _
  have HS9:Hid (Range.Weak ((Range.setR W2 w.heap.size (⟨11,noVer,none,0,none,0,some ⟨W2.heap.size,0,none⟩,1,1⟩:RV)).alloc ()) (fun _=>True) (plainR []) (⟨11,noVer,none,0,none,0,some ⟨W2.heap.size,0,none⟩,1,1⟩:RV)):=by
   have h1:WRow ((Range.setR W2 w.heap.size (⟨11,noVer,none,0,none,0,some ⟨W2.heap.size,0,none⟩,1,1⟩:RV)).alloc ()) (fun _=>True) (some ⟨W2.heap.size,0,none⟩) 1 [noRng]:=⟨fun _=>zeroRV 0,rfl,fun _=>⟨W2.heap.size,0,rfl,trivial,fun j hj i u hu=>by
    obtain rfl:j=0:=by omega
    have:=news_new (Range.setR W2 w.heap.size (⟨11,noVer,none,0,none,0,some ⟨W2.heap.size,0,none⟩,1,1⟩:RV)) (zeroRV 0).vals 28 i u hu
    rw [add_none,hzz] at this
    exact this⟩,fun j hj=>by
    obtain rfl:j=0:=by omega
    exact Range.Weak.zero _ _ 0⟩
   exact Range.Weak.many 11 h1
  have hne9:¬ w.heap.size=W2.heap.size:=Nat.ne_of_lt HR2.out.1
  obtain ⟨_,hfz,r0,r1,r2,r3,r4,r5,r6⟩:=HR2.out
  clear HR2 HB2
  go_wp2
  change bodyPost _ _ _ _ _ ((Range.setR W2 w.heap.size (⟨11,noVer,none,0,none,0,some ⟨W2.heap.size,0,none⟩,1,1⟩:RV)).alloc ())
  generalize (Range.setR W2 w.heap.size (⟨11,noVer,none,0,none,0,some ⟨W2.heap.size,0,none⟩,1,1⟩:RV)).alloc ()=W9 at HK9 HB9 HS9 ⊢
  obtain ⟨_,_,z0,z1,z2,z3,z4,z5,z6⟩:=HK9.out
  exact bodyPost_ret (v:=.agg #[.int .i64 11,.int .u64 0,.int .u64 0,.int .u64 0,.slice none 0 0,.slice none 0 0,.slice (some ⟨W2.heap.size,0,none⟩) 1 1]) (by simp [results,Tryz.results17,go_sem,z0,z1,z2,z3,z4,z5,z6,noVer]) rfl ⟨[],HN.out,(⟨11,noVer,none,0,none,0,some ⟨W2.heap.size,0,none⟩,1,1⟩:RV),rfl,HS9.out,HB9.out⟩
 ·have q0:((m:Int) == 0)=false:=beq_eq_false_iff_ne.2 (by omega)
  have HPl:Hid (plainR (out.map RSp.sp)=few 10 (piecesR (out.map RSp.sp))):=by
   unfold Hid plainR
   rw [if_neg (by rw [List.length_map,HS.out.1]; exact h0)]
  have hm1:0<m:=by omega
  have hln:out.length=m:=HS.out.1
  obtain ⟨b,o,rfl,hbw,hcell⟩:=HS.out.2.2 hm1
  have HCell:=Lib.hid hcell
  clear hcell h0
  have hc1:(1:Int)≤(c2:Int):=by omega
  have HOid:Hid (∀ s ∈ out,(∀ x ∈ s.lo.v.pre,x.length≤1000)∧∀ x ∈ s.hi.v.pre,x.length≤1000):=fun s hs=>by
   have h:=HN.out.1.rights s.sp (List.mem_map_of_mem hs)
   exact ⟨right_ids h.1,right_ids h.2⟩
  have HOne:Hid (SpRow W2 (some ⟨b,o,none⟩) (0+1) [out.getD 0 default]):=by
   have q:=one_row HS.out rfl hm1
   rw [Nat.zero_mul,Nat.add_zero] at q; exact q
  have HStart:=Lib.hid (RwAt.start (out:=out) (by omega) HN.out.1)
  go_wp2
  go_loopw [3,4,5] (fun ov rv iv W'=>∃ (j pr:Nat) (rA:Option Addr) (rc:Nat) (row:List RSp) (done:List Rng) (xs:List RV),iv=.int .i64 ((j:Int)+1)∧j<m∧rv=.slice rA (pr+1) rc∧pr≤j∧Hid (SpRow W' rA (pr+1) row)∧Hid (rA=none→rc=0)∧Hid (RwAt out row (j+1) done)∧Hid (RsAt w W2.heap.size ov done xs W')∧Hid (Below W2.heap.size W2 W')) (fun _ _ iv _=>m+1 - (intOf iv).toNat)
  case atStart=>exact ⟨0,0,some ⟨b,o,none⟩,c2,[out.getD 0 default],[],[],by go_num,hm1,by rfl,Nat.le_refl _,HOne.out,fun e=>by (cases e),HStart.out,⟨by have:=HR2.out.1; omega,World.ownsRow_nil _ _ _ _,rfl,fun _ h=>absurd h (Nat.not_lt_zero _),HR2.out,HB2.out⟩,Below.refl _ _⟩
  case round =>
   obtain ⟨j,pr,rA,rc,row,done,xs,rfl,hj,rfl,hpj,HRw,HRn,HPl2,HRs,HB3⟩:=hrel
   by_cases hlt:(j:Int)+1<(m:Int)
   ·have hk:j+1<m:=by omega
    obtain ⟨sj,hsj⟩:∃ s,s=out.getD j default:=⟨_,rfl⟩
    obtain ⟨sk,hsk⟩:∃ s,s=out.getD (j+1) default:=⟨_,rfl⟩
    have HEj:Hid (SpAt wr b (o+j * 12) sj):=fun i v hv=>(HB3.out.cell (p:=⟨b,o+j * 12+i,none⟩) hbw).trans (HCell.out j hj i v (hsj ▸ hv))
    have HEk:Hid (SpAt wr b (o+(j+1) * 12) sk):=fun i v hv=>(HB3.out.cell (p:=⟨b,o+(j+1) * 12+i,none⟩) hbw).trans (HCell.out (j+1) hk i v (hsk ▸ hv))
    have hmj:sj ∈ out:=by rw [hsj]; exact getS_mem (by omega)
    have hmk:sk ∈ out:=by rw [hsk]; exact getS_mem (by omega)
    have HPj:Hid (∀ p,isPoint sj.hi.cut sk.lo.cut=p→isPoint (out.getD (j+1 - 1) default).hi.cut (out.getD (j+1) default).lo.cut=p):=fun p h=>by rw [Nat.add_sub_cancel,← hsj,← hsk]; exact h
    have HSk:=Lib.hid hsk
    clear hsj hsk
    go_upto_region 9 with (fail)
    replace HEj:Hid (SpAt wr.drew b (o+j * 12) sj):=HEj.out
    replace HEk:Hid (SpAt wr.drew b (o+(j+1) * 12) sk):=HEk.out
    have hbd:Below wr.heap.size wr wr.drew:=(Below.refl _ _).drew
    replace HRw:=Lib.hid (HRw.out.kept hbd)
    replace HRs:=Lib.hid (HRs.out.kept hbd)
    replace HB3:Hid (Below W2.heap.size W2 wr.drew):=HB3.out.drew
    refine wp_region_held_drew (S:=fun w'=>SpAt w' b (o+j * 12) sj∧SpAt w' b (o+(j+1) * 12) sk) (by kernel_rfl) ⟨HEj.out,HEk.out⟩ (fun hHeld=>?_)
    clear hbd
    generalize wr.drew=V at HEj HEk HRw HRs HB3 hHeld ⊢
    refine tk 0 rfl (.slice (some ⟨b,o,none⟩) m c2) ?_
    refine tk 1 rfl (.int .i64 ((j:Int)+1)) ?_
    refine tk 2 rfl (.int .i64 j) ?_ fun w' hS'=>by go_simp; first | done | (rw [IntKind.wrap_i64] <;> omega)
    refine tk 3 rfl (.pointer (some ⟨b,o+j * 12,none⟩)) ?_
    refine tk 4 rfl (.pointer (some ⟨b,o+j * 12+6,none⟩)) ?_
    refine tk 5 rfl sj.hi ?_ fun w' hS'=>by obtain ⟨e0,e1,e2,e3,e4,e5,e6,e7,e8,e9,e10,e11⟩:=SpAt.cells hS'.1; go_simp
    refine tk 6 rfl (.slice (some ⟨b,o,none⟩) m c2) ?_
    refine tk 7 rfl (.int .i64 ((j:Int)+1)) ?_
    refine tk 8 rfl (.pointer (some ⟨b,o+(j+1) * 12,none⟩)) ?_ fun w' hS'=>by go_simp; first | done | (intro h; exfalso; omega)
    refine tk 9 rfl (.pointer (some ⟨b,o+(j+1) * 12,none⟩)) ?_
    refine tk 10 rfl sk.lo ?_ fun w' hS'=>by obtain ⟨e0,e1,e2,e3,e4,e5,e6,e7,e8,e9,e10,e11⟩:=SpAt.cells hS'.2; go_simp
    have HW1:=Lib.hid (HW.out.trans (HB3.out.mono HW.out.size))
    refine cl 11 rfl fun K hK=>?_
    go_simp
    refine (refPoint_any sj.hi sk.lo V ((HO.out _ hmj).hi.kept HW1.out) ((HO.out _ hmk).lo.kept HW1.out) (HOid.out _ hmj).2 (HOid.out _ hmk).1).mono ?_
    rintro e V1 ⟨rfl,hb⟩
    replace HEj:=Lib.hid (HEj.out.kept hb (Nat.lt_of_lt_of_le hbw HB3.out.size))
    replace HEk:=Lib.hid (HEk.out.kept hb (Nat.lt_of_lt_of_le hbw HB3.out.size))
    replace HRw:=Lib.hid (HRw.out.kept hb)
    replace HRs:=Lib.hid (HRs.out.kept hb)
    have HB4:=Lib.hid (HB3.out.trans (hb.mono HB3.out.size))
    clear hb hHeld HW1 HB3
    refine hK.out _ _ ⟨HEj.out,HEk.out⟩ (fun hHeld=>?_)
    clear hK K
    try simp only [Act.put,p1,p2,p3]
    refine wpAnyH_done (by kernel_rfl) ?_ _
    clear hHeld
    cases hpt:isPoint sj.hi.cut sk.lo.cut with
    | true =>
     have HP:=Lib.hid (HPl2.out.point (by intro e; have h:=HRw.out.1; rw [e] at h; cases h) (show j+1<out.length by omega) (HPj.out _ hpt))
     clear hpt
     have hRwN:Hid (∀ s ∈ row,LiesS w s):=fun s hs=>HO.out s (HPl2.out.mem s hs)
     go_upto_region 10 with (fail)
     go_cut [4] (fun rv wx=>∃ rA' rc',rv=.slice rA' (pr+1+1) rc'∧Hid (SpRow wx rA' (pr+1+1) (row ++ [sk]))∧Hid (rA'=none→rc'=0)∧Hid (Below V1.heap.size V1 wx))
     case first =>
      have HWV:=Lib.hid (HW.out.trans (HB4.out.mono HW.out.size))
      have hbV:b<V1.heap.size:=Nat.lt_of_lt_of_le hbw HB4.out.size
      have hpm:pr+1≤100000:=by omega
      have HB0:Hid (Below V1.heap.size V1 V1.drew):=(Below.refl _ _).drew
      refine wp_region_held_drew (S:=fun w'=>SpAt w' b (o+(j+1) * 12) sk) (by kernel_rfl) HEk.out (fun hHeld=>?_)
      generalize V1.drew=U0 at HB0 hHeld ⊢
      refine tk 1 rfl (.slice rA (pr+1) rc) ?_
      refine tk 3 rfl (.slice (some ⟨b,o,none⟩) m c2) ?_
      refine tk 4 rfl (.int .i64 ((j:Int)+1)) ?_
      refine tk 5 rfl (.pointer (some ⟨b,o+(j+1) * 12,none⟩)) ?_ fun w' hS'=>by go_simp; first | done | (intro h; exfalso; omega)
      refine tk 6 rfl (sk.lo,sk.hi) ?_ fun w' hS'=>by obtain ⟨e0,e1,e2,e3,e4,e5,e6,e7,e8,e9,e10,e11⟩:=SpAt.cells hS'; go_simp
      refine wpAnyH_ready (rs:=[0,7]) (by kernel_rfl) (by simp) ?_
      refine AllReadyH.cons (nth_ops (i:=0) rfl) (fun K hK=>?_) (AllReadyH.cons (nth_ops (i:=7) rfl) (fun K hK=>?_) AllReadyH.nil)
      ·go_simp
       have hb:Below U0.heap.size U0 (U0.alloc (.cells #[] 43)):=(Below.refl _ _).alloc (Nat.le_refl _) _
       have HB1:Hid (Below V1.heap.size V1 (U0.alloc (.cells #[] 43))):=HB0.out.alloc HB0.out.size _
       have OW1:Hid ((U0.alloc (.cells #[] 43)).ownsRow V1.heap.size 43 12 (.slice (some ⟨U0.heap.size,0,none⟩) 0 0) 0 (([]:List RSp).flatMap RSp.vals)):=World.ownsRow_made U0 #[] 0 HB0.out.size (by unfold maxLen; omega) rfl
       have ltg0:U0.heap.size<(U0.alloc (.cells #[] 43)).heap.size:=by simp
       obtain ⟨g0,hg0⟩:∃ g,U0.heap.size=g:=⟨_,rfl⟩
       change K _ (U0.alloc (.cells #[] 43))
       generalize U0.alloc (.cells #[] 43)=U1 at HB1 OW1 ltg0 ⊢
       rw [hg0] at OW1 ltg0 ⊢
       clear hb
       refine hK.out _ _ (HEk.out.kept HB1.out hbV) (fun hHeld=>?_)
       clear hK K
       try simp only [Act.put,p1,p2,p3]
       refine wpAnyH_ready (rs:=[2,7]) (by kernel_rfl) (by simp) ?_
       refine AllReadyH.cons (nth_ops (i:=2) rfl) (fun K hK=>?_) (AllReadyH.cons (nth_ops (i:=7) rfl) (fun K hK=>?_) AllReadyH.nil)
       ·obtain ⟨v1,U2,hrun,ho1,hg1⟩:=run_append_sps U1 31 V1.heap.size (.slice (some ⟨g0,0,none⟩) 0 0) 0 [] OW1.out rA (pr+1) rc row ⟨HRw.out.kept HB1.out,HRn.out⟩ (by omega) HB1.out.size
        refine region_append_sp (by rfl) (Operand.tmp 34) (Operand.tmp 35) rfl rfl rfl hrun ?_
        have HB2:=Lib.hid (HB1.out.trans ((Below.refl _ _).grown hg1 HB1.out.size (fun g e=>(OW1.out.lt g e).1)))
        have OW2:Hid (U2.ownsRow V1.heap.size 43 12 v1 (pr+1) (row.flatMap RSp.vals)):=by rw [Nat.zero_add,List.nil_append] at ho1; exact ho1
        clear hrun ho1 hg1
        refine hK.out _ _ (HEk.out.kept HB2.out hbV) (fun hHeld=>?_)
        clear hK K
        try simp only [Act.put,p1,p2,p3]
        refine wpAnyH_ready (rs:=[7]) (by kernel_rfl) (by simp) ?_
        refine AllReadyH.cons (nth_ops (i:=7) rfl) (fun K hK=>?_) AllReadyH.nil
        go_simp
        have hb:Below U2.heap.size U2 (U2.alloc (.cells sk.vals.toArray 43)):=(Below.refl _ _).alloc (Nat.le_refl _) _
        have HB3:Hid (Below V1.heap.size V1 (U2.alloc (.cells sk.vals.toArray 43))):=HB2.out.alloc HB2.out.size _
        have ON3:Hid (SpRow (U2.alloc (.cells sk.vals.toArray 43)) (some ⟨U2.heap.size,0,none⟩) 1 [sk]):=SpRow.one U2 sk ((HO.out _ hmk).kept (HWV.out.trans (HB2.out.mono HWV.out.size)))
        have OW3:=Lib.hid (own_below OW2.out hb)
        have ltg7:U2.heap.size<(U2.alloc (.cells sk.vals.toArray 43)).heap.size:=by simp
        obtain ⟨g7,hg7⟩:∃ g,U2.heap.size=g:=⟨_,rfl⟩
        change K _ (U2.alloc (.cells sk.vals.toArray 43))
        generalize U2.alloc (.cells sk.vals.toArray 43)=U3 at HB3 ON3 OW3 ltg7 ⊢
        rw [hg7] at ON3 ltg7 ⊢
        clear hb
        refine hK.out _ _ (HEk.out.kept HB3.out hbV) (fun hHeld=>?_)
        clear hK K
        try simp only [Act.put,p1,p2,p3]
        refine wpAnyH_ready (rs:=[8]) (by kernel_rfl) (by simp) ?_
        refine AllReadyH.cons (nth_ops (i:=8) rfl) (fun K hK=>?_) AllReadyH.nil
        obtain ⟨v2,U4,hrun,ho2,hg2⟩:=run_append_sps U3 31 V1.heap.size v1 (pr+1) row OW3.out (some ⟨g7,0,none⟩) 1 1 [sk] ⟨ON3.out,fun e=>by cases e⟩ (by omega) HB3.out.size
        refine region_append_sp (by rfl) (Operand.tmp 36) (Operand.tmp 41) rfl rfl rfl hrun ?_
        have HB4:=Lib.hid (HB3.out.trans ((Below.refl _ _).grown hg2 HB3.out.size (fun g e=>(OW3.out.lt g e).1)))
        have HO2:=Lib.hid ho2
        clear hrun ho2 hg2
        refine hK.out _ _ (HEk.out.kept HB4.out hbV) (fun hHeld=>?_)
        clear hK K
        try simp only [Act.put,p1,p2,p3]
        refine tk 9 rfl v2 ?_
        refine wpAnyH_done (by kernel_rfl) ?_ _
        obtain ⟨A9,c9,hv9,hcap9,hnil9,hcell9⟩:=own_cells svals_len HO2.out (by rw [List.length_append,HRw.out.1]; rfl)
        subst hv9
        go_wp2
        go_meet
        exact ⟨A9,c9,rfl,⟨by rw [List.length_append,HRw.out.1]; rfl,fun s hs=>by
         rcases List.mem_append.1 hs with hs | hs
         ·exact (hRwN.out s hs).kept (HWV.out.trans (HB4.out.mono HWV.out.size))
         ·rw [List.mem_singleton] at hs; rw [hs]; exact (HO.out _ hmk).kept (HWV.out.trans (HB4.out.mono HWV.out.size)),fun h0=>by obtain ⟨g,e,_,h2,_,h3⟩:=hcell9 h0; exact ⟨g,0,e,h2,h3⟩⟩,hnil9,HB4.out⟩
       ·go_simp
        have hb:Below U1.heap.size U1 (U1.alloc (.cells sk.vals.toArray 43)):=(Below.refl _ _).alloc (Nat.le_refl _) _
        have HB2:Hid (Below V1.heap.size V1 (U1.alloc (.cells sk.vals.toArray 43))):=HB1.out.alloc HB1.out.size _
        have ON2:Hid (SpRow (U1.alloc (.cells sk.vals.toArray 43)) (some ⟨U1.heap.size,0,none⟩) 1 [sk]):=SpRow.one U1 sk ((HO.out _ hmk).kept (HWV.out.trans (HB1.out.mono HWV.out.size)))
        have OW2:=Lib.hid (own_below OW1.out hb)
        have ltg7:U1.heap.size<(U1.alloc (.cells sk.vals.toArray 43)).heap.size:=by simp
        obtain ⟨g7,hg7⟩:∃ g,U1.heap.size=g:=⟨_,rfl⟩
        change K _ (U1.alloc (.cells sk.vals.toArray 43))
        generalize U1.alloc (.cells sk.vals.toArray 43)=U2 at HB2 ON2 OW2 ltg7 ⊢
        rw [hg7] at ON2 ltg7 ⊢
        clear hb
        refine hK.out _ _ (HEk.out.kept HB2.out hbV) (fun hHeld=>?_)
        clear hK K
        try simp only [Act.put,p1,p2,p3]
        refine wpAnyH_ready (rs:=[2]) (by kernel_rfl) (by simp) ?_
        refine AllReadyH.cons (nth_ops (i:=2) rfl) (fun K hK=>?_) AllReadyH.nil
        obtain ⟨v1,U3,hrun,ho1,hg1⟩:=run_append_sps U2 31 V1.heap.size (.slice (some ⟨g0,0,none⟩) 0 0) 0 [] OW2.out rA (pr+1) rc row ⟨HRw.out.kept HB2.out,HRn.out⟩ (by omega) HB2.out.size
        refine region_append_sp (by rfl) (Operand.tmp 34) (Operand.tmp 35) rfl rfl rfl hrun ?_
        have HB3:=Lib.hid (HB2.out.trans ((Below.refl _ _).grown hg1 HB2.out.size (fun g e=>(OW2.out.lt g e).1)))
        have OW3:Hid (U3.ownsRow V1.heap.size 43 12 v1 (pr+1) (row.flatMap RSp.vals)):=by rw [Nat.zero_add,List.nil_append] at ho1; exact ho1
        have ON3:=Lib.hid (one_grown ON2.out hg1 (fun e=>by have e2:some g7=some g0:=e; injection e2 with e2; omega) ((HO.out _ hmk).kept (HWV.out.trans (HB3.out.mono HWV.out.size))))
        clear hrun ho1 hg1
        refine hK.out _ _ (HEk.out.kept HB3.out hbV) (fun hHeld=>?_)
        clear hK K
        try simp only [Act.put,p1,p2,p3]
        refine wpAnyH_ready (rs:=[8]) (by kernel_rfl) (by simp) ?_
        refine AllReadyH.cons (nth_ops (i:=8) rfl) (fun K hK=>?_) AllReadyH.nil
        obtain ⟨v2,U4,hrun,ho2,hg2⟩:=run_append_sps U3 31 V1.heap.size v1 (pr+1) row OW3.out (some ⟨g7,0,none⟩) 1 1 [sk] ⟨ON3.out,fun e=>by cases e⟩ (by omega) HB3.out.size
        refine region_append_sp (by rfl) (Operand.tmp 36) (Operand.tmp 41) rfl rfl rfl hrun ?_
        have HB4:=Lib.hid (HB3.out.trans ((Below.refl _ _).grown hg2 HB3.out.size (fun g e=>(OW3.out.lt g e).1)))
        have HO2:=Lib.hid ho2
        clear hrun ho2 hg2
        refine hK.out _ _ (HEk.out.kept HB4.out hbV) (fun hHeld=>?_)
        clear hK K
        try simp only [Act.put,p1,p2,p3]
        refine tk 9 rfl v2 ?_
        refine wpAnyH_done (by kernel_rfl) ?_ _
        obtain ⟨A9,c9,hv9,hcap9,hnil9,hcell9⟩:=own_cells svals_len HO2.out (by rw [List.length_append,HRw.out.1]; rfl)
        subst hv9
        go_wp2
        go_meet
        exact ⟨A9,c9,rfl,⟨by rw [List.length_append,HRw.out.1]; rfl,fun s hs=>by
         rcases List.mem_append.1 hs with hs | hs
         ·exact (hRwN.out s hs).kept (HWV.out.trans (HB4.out.mono HWV.out.size))
         ·rw [List.mem_singleton] at hs; rw [hs]; exact (HO.out _ hmk).kept (HWV.out.trans (HB4.out.mono HWV.out.size)),fun h0=>by obtain ⟨g,e,_,h2,_,h3⟩:=hcell9 h0; exact ⟨g,0,e,h2,h3⟩⟩,hnil9,HB4.out⟩
      ·go_simp
       have hb:Below U0.heap.size U0 (U0.alloc (.cells sk.vals.toArray 43)):=(Below.refl _ _).alloc (Nat.le_refl _) _
       have HB1:Hid (Below V1.heap.size V1 (U0.alloc (.cells sk.vals.toArray 43))):=HB0.out.alloc HB0.out.size _
       have ON1:Hid (SpRow (U0.alloc (.cells sk.vals.toArray 43)) (some ⟨U0.heap.size,0,none⟩) 1 [sk]):=SpRow.one U0 sk ((HO.out _ hmk).kept (HWV.out.trans (HB0.out.mono HWV.out.size)))
       have ltg7:U0.heap.size<(U0.alloc (.cells sk.vals.toArray 43)).heap.size:=by simp
       obtain ⟨g7,hg7⟩:∃ g,U0.heap.size=g:=⟨_,rfl⟩
       change K _ (U0.alloc (.cells sk.vals.toArray 43))
       generalize U0.alloc (.cells sk.vals.toArray 43)=U1 at HB1 ON1 ltg7 ⊢
       rw [hg7] at ON1 ltg7 ⊢
       clear hb
       refine hK.out _ _ (HEk.out.kept HB1.out hbV) (fun hHeld=>?_)
       clear hK K
       try simp only [Act.put,p1,p2,p3]
       refine wpAnyH_ready (rs:=[0]) (by kernel_rfl) (by simp) ?_
       refine AllReadyH.cons (nth_ops (i:=0) rfl) (fun K hK=>?_) AllReadyH.nil
       go_simp
       have hb:Below U1.heap.size U1 (U1.alloc (.cells #[] 43)):=(Below.refl _ _).alloc (Nat.le_refl _) _
       have HB2:Hid (Below V1.heap.size V1 (U1.alloc (.cells #[] 43))):=HB1.out.alloc HB1.out.size _
       have OW2:Hid ((U1.alloc (.cells #[] 43)).ownsRow V1.heap.size 43 12 (.slice (some ⟨U1.heap.size,0,none⟩) 0 0) 0 (([]:List RSp).flatMap RSp.vals)):=World.ownsRow_made U1 #[] 0 HB1.out.size (by unfold maxLen; omega) rfl
       have ON2:=Lib.hid (ON1.out.kept hb)
       have ltg0:U1.heap.size<(U1.alloc (.cells #[] 43)).heap.size:=by simp
       obtain ⟨g0,hg0⟩:∃ g,U1.heap.size=g:=⟨_,rfl⟩
       change K _ (U1.alloc (.cells #[] 43))
       generalize U1.alloc (.cells #[] 43)=U2 at HB2 OW2 ON2 ltg0 ⊢
       rw [hg0] at OW2 ltg0 ⊢
       clear hb
       refine hK.out _ _ (HEk.out.kept HB2.out hbV) (fun hHeld=>?_)
       clear hK K
       try simp only [Act.put,p1,p2,p3]
       refine wpAnyH_ready (rs:=[2]) (by kernel_rfl) (by simp) ?_
       refine AllReadyH.cons (nth_ops (i:=2) rfl) (fun K hK=>?_) AllReadyH.nil
       obtain ⟨v1,U3,hrun,ho1,hg1⟩:=run_append_sps U2 31 V1.heap.size (.slice (some ⟨g0,0,none⟩) 0 0) 0 [] OW2.out rA (pr+1) rc row ⟨HRw.out.kept HB2.out,HRn.out⟩ (by omega) HB2.out.size
       refine region_append_sp (by rfl) (Operand.tmp 34) (Operand.tmp 35) rfl rfl rfl hrun ?_
       have HB3:=Lib.hid (HB2.out.trans ((Below.refl _ _).grown hg1 HB2.out.size (fun g e=>(OW2.out.lt g e).1)))
       have OW3:Hid (U3.ownsRow V1.heap.size 43 12 v1 (pr+1) (row.flatMap RSp.vals)):=by rw [Nat.zero_add,List.nil_append] at ho1; exact ho1
       have ON3:=Lib.hid (one_grown ON2.out hg1 (fun e=>by have e2:some g7=some g0:=e; injection e2 with e2; omega) ((HO.out _ hmk).kept (HWV.out.trans (HB3.out.mono HWV.out.size))))
       clear hrun ho1 hg1
       refine hK.out _ _ (HEk.out.kept HB3.out hbV) (fun hHeld=>?_)
       clear hK K
       try simp only [Act.put,p1,p2,p3]
       refine wpAnyH_ready (rs:=[8]) (by kernel_rfl) (by simp) ?_
       refine AllReadyH.cons (nth_ops (i:=8) rfl) (fun K hK=>?_) AllReadyH.nil
       obtain ⟨v2,U4,hrun,ho2,hg2⟩:=run_append_sps U3 31 V1.heap.size v1 (pr+1) row OW3.out (some ⟨g7,0,none⟩) 1 1 [sk] ⟨ON3.out,fun e=>by cases e⟩ (by omega) HB3.out.size
       refine region_append_sp (by rfl) (Operand.tmp 36) (Operand.tmp 41) rfl rfl rfl hrun ?_
       have HB4:=Lib.hid (HB3.out.trans ((Below.refl _ _).grown hg2 HB3.out.size (fun g e=>(OW3.out.lt g e).1)))
       have HO2:=Lib.hid ho2
       clear hrun ho2 hg2
       refine hK.out _ _ (HEk.out.kept HB4.out hbV) (fun hHeld=>?_)
       clear hK K
       try simp only [Act.put,p1,p2,p3]
       refine tk 9 rfl v2 ?_
       refine wpAnyH_done (by kernel_rfl) ?_ _
       obtain ⟨A9,c9,hv9,hcap9,hnil9,hcell9⟩:=own_cells svals_len HO2.out (by rw [List.length_append,HRw.out.1]; rfl)
       subst hv9
       go_wp2
       go_meet
       exact ⟨A9,c9,rfl,⟨by rw [List.length_append,HRw.out.1]; rfl,fun s hs=>by
        rcases List.mem_append.1 hs with hs | hs
        ·exact (hRwN.out s hs).kept (HWV.out.trans (HB4.out.mono HWV.out.size))
        ·rw [List.mem_singleton] at hs; rw [hs]; exact (HO.out _ hmk).kept (HWV.out.trans (HB4.out.mono HWV.out.size)),fun h0=>by obtain ⟨g,e,_,h2,_,h3⟩:=hcell9 h0; exact ⟨g,0,e,h2,h3⟩⟩,hnil9,HB4.out⟩
     case rest =>
     obtain ⟨rA',rc',rfl,HRw2,HRn2,hb5⟩:=hcut
     have HRs5:=Lib.hid (HRs.out.kept hb5.out)
     have HB5:=Lib.hid (HB4.out.trans (hb5.out.mono HB4.out.size))
     rw [← HSk.out] at HP
     clear HRs HB4 hb5 HRw HEj HEk
     go_wp2
     exact ⟨⟨j+1,pr+1,rA',rc',row ++ [sk],done,xs,by go_num,hk,rfl,by omega,HRw2,HRn2,HP,HRs5,HB5⟩,by simp [intOf]; omega⟩
    | false =>
     have HP:=Lib.hid (HPl2.out.shut (show j+1<out.length by omega) (HPj.out _ hpt))
     rw [← HSk.out] at HP
     clear hpt
     have HW1:=Lib.hid (HW.out.trans (HB4.out.mono HW.out.size))
     go_wp2_with fail
     refine (refPiece_any rA pr rc row w V1 HRw.out (by omega) (fun s hs=>HO.out s (HPl2.out.mem s hs)) HW1.out (norm_append HPl2.out.norm).1 HPl2.out.chain).mono ?_
     rintro e V2 ⟨x,he,hx,hb⟩
     unfold RV.agg at he
     subst he
     have HX:Hid (Range.Weak V2 (El w u3) (pieceR (row.map RSp.sp)) x):=hx.mono fun g hg hlt=>HRs.out.off hg
     have HRs2:=Lib.hid (HRs.out.kept hb)
     have HB5:=Lib.hid (HB4.out.trans (hb.mono HB4.out.size))
     have hdl:done.length≤900000:=by have:=HPl2.out.few; omega
     clear hb hx HRs HB4 HW1 HRw HEj HEk
     generalize pieceR (row.map RSp.sp)=pcr at HX HP
     go_wp2_with (first
      | (at_builtin; have hk2:Hid (RsAt w W2.heap.size u3 done xs (V2.alloc (.cells x.vals.toArray 28))):=HRs2.out.kept ((Below.refl _ _).alloc (Nat.le_refl _) _); have hk3:Hid (Below W2.heap.size W2 (V2.alloc (.cells x.vals.toArray 28))):=HB5.out.alloc HB5.out.size _; refine wpList_append_rg _ rfl _ _ rfl W2.heap.size _ _ xs rfl hk2.out.own ⟨V2.heap.size,0,none⟩ x rfl (news_new V2 x.vals 28) (by omega) hk3.out.size ?_; intro v3 V3 ho hg hat; have HN3:=Lib.hid (hk2.out.more ho hg hat (HX.out.keep (KeepS.of_below ((Below.refl _ _).alloc (Nat.le_refl _) _)))); have HB6:=Lib.hid (hk3.out.trans ((Below.refl _ _).grown hg hk3.out.size (fun g e=>(hk2.out.own.lt g e).1))); clear ho hg hat hk2 hk3)
      | fail)
     have HOne2:Hid (SpRow V3 (some ⟨b,o+(j+1) * 12,none⟩) (0+1) [sk]):=by
      have q:=(one_row HS.out rfl hk).kept HB6.out
      rw [← HSk.out] at q; exact q
     exact ⟨⟨j+1,0,some ⟨b,o+(j+1) * 12,none⟩,c2 - (j+1),[sk],done ++ [pcr],xs ++ [x],by go_num,hk,by rw [show j+1+1 - (j+1)=0+1 by omega],Nat.zero_le _,HOne2.out,fun e=>by (cases e),HP,HN3,HB6⟩,by simp [intOf]; omega⟩
   ·have HW1:=Lib.hid (HW.out.trans (HB3.out.mono HW.out.size))
    have HDone:=Lib.hid (HPl2.out.done (show out.length≤j+1 by omega))
    go_upto_region 13 with (fail)
    go_wp2_with fail
    refine (refPiece_any rA pr rc row w wr HRw.out (by omega) (fun s hs=>HO.out s (HPl2.out.mem s hs)) HW1.out (norm_append HPl2.out.norm).1 HPl2.out.chain).mono ?_
    rintro e V2 ⟨x,he,hx,hb⟩
    unfold RV.agg at he
    subst he
    have HX:Hid (Range.Weak V2 (El w u3) (pieceR (row.map RSp.sp)) x):=hx.mono fun g hg hlt=>HRs.out.off hg
    have HRs2:=Lib.hid (HRs.out.kept hb)
    have HB5:=Lib.hid (HB3.out.trans (hb.mono HB3.out.size))
    have hdl:done.length≤900000:=by have:=HPl2.out.few; omega
    clear hb hx HRs HB3 HW1 HRw
    generalize pieceR (row.map RSp.sp)=pcr at HX HDone
    go_wp2_with (first
     | (at_builtin; have hk2:Hid (RsAt w W2.heap.size u3 done xs (V2.alloc (.cells x.vals.toArray 28))):=HRs2.out.kept ((Below.refl _ _).alloc (Nat.le_refl _) _); have hk3:Hid (Below W2.heap.size W2 (V2.alloc (.cells x.vals.toArray 28))):=HB5.out.alloc HB5.out.size _; refine wpList_append_rg _ rfl _ _ rfl W2.heap.size _ _ xs rfl hk2.out.own ⟨V2.heap.size,0,none⟩ x rfl (news_new V2 x.vals 28) (by omega) hk3.out.size ?_; intro v3 V3 ho hg hat; have HN3:=Lib.hid (hk2.out.more ho hg hat (HX.out.keep (KeepS.of_below ((Below.refl _ _).alloc (Nat.le_refl _) _)))); have hdl3:(done ++ [pcr]).length≤1000000:=(by rw [List.length_append,List.length_singleton]; omega); generalize done ++ [pcr]=dn at HN3 HDone hdl3; obtain ⟨L3,e3,hv3,hrow⟩:=HN3.out.row; have HRow3:=Lib.hid hrow; subst hv3; clear ho hg hat hk2 hk3 hrow)
     | fail)
    have HRow4:Hid (WRow V3 (fun g=>g≠w.heap.size) L3 dn.length (piecesR (out.map RSp.sp))):=by have h:=HRow3.out; unfold Hid; rw [← HDone.out]; exact h
    refine (refFew_any 10 L3 dn.length e3 (piecesR (out.map RSp.sp)) (fun g=>g≠w.heap.size) V3 HRow4.out (by omega)).mono ?_
    rintro e4 W4 ⟨x4,he4,hx4,hb4⟩
    unfold RV.agg at he4
    subst he4
    have HR4:=Lib.hid (HN3.out.res.kept hb4 HN3.out.res.1)
    have HB4:=Lib.hid (HN3.out.bel.trans (hb4.mono HN3.out.bel.size))
    have HK9:=Lib.hid (Range.setR_at (x:=x4) HR4.out)
    have HB9:Hid (Below w.heap.size w (Range.setR W4 w.heap.size x4)):=HB4.out.trans (Range.setR_below w.heap.size (Nat.le_refl _) x4)
    have HS9:Hid (Range.Weak (Range.setR W4 w.heap.size x4) (fun _=>True) (plainR (out.map RSp.sp)) x4):=by
     unfold Hid
     rw [HPl.out]
     exact (hx4.keep (Range.setR_keep (fun h=>h rfl) x4)).mono fun _ _ _=>trivial
    obtain ⟨_,hfz,r0,r1,r2,r3,r4,r5,r6⟩:=HR4.out
    clear hb4 hx4 HR4 HB4 HN3 HRow3 HRow4 HX HRs2 HB5
    go_wp2
    change bodyPost _ _ _ _ _ (Range.setR W4 w.heap.size x4)
    generalize Range.setR W4 w.heap.size x4=W9 at HK9 HB9 HS9 ⊢
    obtain ⟨_,_,z0,z1,z2,z3,z4,z5,z6⟩:=HK9.out
    exact bodyPost_ret (v:=x4.agg) (by unfold RV.agg; simp [results,Tryz.results17,go_sem,z0,z1,z2,z3,z4,z5,z6]) rfl ⟨out.map RSp.sp,HN.out,x4,rfl,HS9.out,HB9.out⟩
end Go.Proofs.YtgfbflnhjpbceaaGreatDoor.Nrm
