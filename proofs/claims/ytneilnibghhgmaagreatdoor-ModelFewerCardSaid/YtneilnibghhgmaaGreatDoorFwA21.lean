/-
  What the theorem of the last text needs of these: MoFewW, MoPinsW, MoSorted. Conditions: as each theorem states.
-/
import Derived.Test.YtneilnibghhgmaaGreatDoorFwA1
import Derived.Test.YtneilnibghhgmaaGreatDoorFwA3
import Derived.Test.YtneilnibghhgmaaGreatDoorFwA5
import Derived.Test.YtneilnibghhgmaaGreatDoorFwA7
import Derived.Test.YtneilnibghhgmaaGreatDoorFwA18
import Derived.Test.YtneilnibghhgmaaGreatDoorFwA19
import Derived.Test.YtneilnibghhgmaaGreatDoorFwA20
set_option maxRecDepth 100000
set_option maxHeartbeats 25600000
namespace Go.Proofs.YtneilnibghhgmaaGreatDoor.Model
open Go.RowKit Num Ident Semver
open Range (Rng noRng RV KeepS LtB LenOk goodR wt)
open KR (KRow AtV)

def FewPin (p:MPin):Prop:=p.name.length≤300∧p.ver.v.pre.length≤20∧p.ver.v.build.length≤20
def FewRel (r:MRel):Prop:=r.ver.v.pre.length≤20∧r.ver.v.build.length≤20∧FewD r.needs∧FewD r.bans
def FewPack (p:MPack):Prop:=(p.name.length≤300∧p.rels.length≤6)∧∀ r ∈ p.rels,FewRel r
def FewPost (x:List MPack) (roots:List MDep) (s:List MPin) (w:World) (e:Ending) (w':World):Prop :=
 ∃ z:Int,e=.returned (.int .i64 z)∧(z=0→FewX x∧FewD roots∧FewS s)∧Below w.heap.size w w'
theorem FewPost.no {x:List MPack} {roots:List MDep} {s:List MPin} {w w':World} {z:Int} (hz:z≠0) (hb:Below w.heap.size w w'):FewPost x roots s w (.returned (.int .i64 z)) w' :=
 ⟨z,rfl,fun h=>absurd h hz,hb⟩
theorem lawFew_any (A:Option Addr) (n c:Nat) (x:List MPack) (RA:Option Addr) (rn rc:Nat) (roots:List MDep) (SA:Option Addr) (m sc:Nat) (s:List MPin) (B:Nat) (w:World) (hx:PRow w (LtB B) A n x) (hr:DRow w (LtB B) RA rn roots) (hs:SPRow w (LtB B) SA m s) (hB:B≤w.heap.size) (hn:n≤maxLen) (hrn:rn≤maxLen) (hm:m≤maxLen) :
  Calls Tryz.prog 8 #[.agg #[.slice A n c],.slice RA rn rc,.slice SA m sc] w (FewPost x roots s w):=by
 have HX:=Lib.hid hx
 have HRT:=Lib.hid hr
 have HSP:=Lib.hid hs
 have HLX:=Lib.hid hx.row.1
 have HLS:=Lib.hid hs.row.1
 have HRN:=Lib.hid hrn
 have hnn:n≤9223372036854775807:=hn
 have hmm:m≤9223372036854775807:=hm
 clear hx hr hs hrn
 obtain ⟨W0,hW,hav,hb0⟩:∃ W,W=w.alloc (.cells #[.slice A n c] 24)∧AtV W w.heap.size [.slice A n c]∧Below w.heap.size w W:=⟨_,rfl,AtV.new w _ _,(Below.refl _ _).alloc (Nat.le_refl _) _⟩
 have HS0:Hid (SolAt w w.heap.size A n c W0):=⟨hav,hb0⟩
 clear hav hb0
 obtain ⟨ib,hib⟩:∃ ib,w.heap.size=ib:=⟨_,rfl⟩
 go_enter Tryz.func8,Tryz.ntmps8
 go_upto_region 1 with (fail)
 rw [← hW]
 clear hW
 have HIE:=Lib.hid hib
 rw [hib] at HS0
 clear hib
 have i0:=HS0.out.ix.at_ 0 _ rfl
 by_cases h6:6<n
 ·go_wp2
  go_ret
  exact FewPost.no (by omega) HS0.out.bel
 ·by_cases h8:8<m
  ·go_wp2
   go_ret
   exact FewPost.no (by omega) HS0.out.bel
  ·have HN6:Hid (x.length≤6):=by unfold Hid; rw [HLX.out]; omega
   have HM8:Hid (s.length≤8):=by unfold Hid; rw [HLS.out]; omega
   go_wp2_with fail
   refine (lawDeps_any RA rn rc roots B W0 (HRT.out.keep (KeepS.of_below (S:=LtB B) HS0.out.bel)) (Nat.le_trans hB HS0.out.bel.size) HRN.out).mono ?_
   rintro e W1 ⟨b,rfl,hfd,hb1⟩
   have HS1:=Lib.hid (HS0.out.kept hb1)
   clear hb1 i0
   cases b with
   | false =>
    clear hfd
    go_wp2
    go_ret
    exact FewPost.no (by omega) HS1.out.bel
   | true =>
    have HFD:=Lib.hid (hfd rfl)
    clear hfd
    go_wp2
    go_loopw [7] (fun v W=>∃ k:Nat,k≤m∧v=.int .i64 k∧Hid (∀ j,j<k→FewPin (s.getD j default))∧Hid (Below W1.heap.size W1 W)) (fun v _=>m - (intOf v).toNat)
    case atStart=>exact ⟨0,Nat.zero_le _,rfl,(fun j hj=>by omega),Below.refl _ _⟩
    case round =>
     rename World=>wk
     obtain ⟨k,hk,rfl,HD,HW⟩:=hrel
     have HSK:=Lib.hid (HS1.out.kept HW.out)
     by_cases hlt:k<m
     ·have hrow:=HSP.out.keep (KeepS.of_below (S:=LtB B) HSK.out.bel)
      have HPO:Hid (PinOk wk (LtB B) (s.getD k default)):=hrow.ok _ (getD_mem (by rw [HLS.out]; exact hlt))
      obtain ⟨b,o,rfl,_,hb,c0,c1,c2,c3,c4,c5⟩:=hrow.cells hlt
      have HMO:Hid (FewPin (s.getD k default)→∀ j,j<k+1→FewPin (s.getD j default)):=at_step HD.out
      clear hrow
      generalize s.getD k default=p at c0 c1 c2 c3 c4 c5 HPO HMO
      have hz:(Ident.mk p.name).size=p.name.length:=mk_size _
      have hsh:p.name.length≤9223372036854775807:=HPO.out.short
      have hs1:p.ver.v.pre.length≤9223372036854775807:=HPO.out.ver.fit.pre
      have hs2:p.ver.v.build.length≤9223372036854775807:=HPO.out.ver.fit.build
      by_cases h3:300<p.name.length
      ·go_wp2
       go_ret
       exact FewPost.no (by omega) HSK.out.bel
      ·by_cases h4:20<p.ver.v.pre.length
       ·go_wp2
        go_ret
        exact FewPost.no (by omega) HSK.out.bel
       ·by_cases h5:20<p.ver.v.build.length
        ·go_wp2
         go_ret
         exact FewPost.no (by omega) HSK.out.bel
        ·have HP:Hid (∀ j,j<k+1→FewPin (s.getD j default)):=HMO.out ⟨by omega,by omega,by omega⟩
         go_wp2
         exact ⟨⟨k+1,by omega,by go_num,HP.out,HW.out⟩,by simp [intOf]; omega⟩
     ·obtain rfl:k=m:=by omega
      have HFS:Hid (FewS s):=⟨HM8.out,mem_of_at HLS.out HD.out⟩
      clear HD
      go_wp2
      go_loopw [8] (fun v W=>∃ i:Nat,i≤n∧v=.int .i64 i∧Hid (∀ j,j<i→FewPack (x.getD j default))∧Hid (Below wk.heap.size wk W)) (fun v _=>n - (intOf v).toNat)
      case atStart=>exact ⟨0,Nat.zero_le _,rfl,(fun j hj=>by omega),Below.refl _ _⟩
      case round =>
       rename World=>wi
       obtain ⟨i,hi,rfl,HDI,HWI⟩:=hrel
       have HSI:=Lib.hid (HSK.out.kept HWI.out)
       by_cases hlt:i<n
       ·have hrow:=HX.out.keep (KeepS.of_below (S:=LtB B) HSI.out.bel)
        have HPK:Hid (PackOk wi (LtB B) (x.getD i default)):=hrow.ok _ (getD_mem (by rw [HLX.out]; exact hlt))
        obtain ⟨b,o,e0,_,hb,c0,c1⟩:=hrow.cells hlt
        have HMO:Hid (FewPack (x.getD i default)→∀ j,j<i+1→FewPack (x.getD j default)):=at_step HDI.out
        clear hrow
        generalize x.getD i default=p at c0 c1 HPK HMO
        subst e0
        have i0:=HSI.out.ix.at_ 0 _ rfl
        have hin:¬ n≤i:=by omega
        go_upto_region 12 with (fail)
        have HAL:Hid (Below wi.heap.size wi (wi.alloc (.cells #[.string (Ident.mk p.name),.slice p.R p.rels.length p.rc] 64))):=(Below.refl _ _).alloc (Nat.le_refl _) _
        have HSI2:=Lib.hid (HSI.out.kept HAL.out)
        have HWI2:=Lib.hid (HWI.out.trans (HAL.out.mono HWI.out.size))
        have HPB:Hid (AtV (wi.alloc (.cells #[.string (Ident.mk p.name),.slice p.R p.rels.length p.rc] 64)) wi.heap.size [.string (Ident.mk p.name),.slice p.R p.rels.length p.rc]):=AtV.new wi _ _
        have HPK2:Hid (PackOk (wi.alloc (.cells #[.string (Ident.mk p.name),.slice p.R p.rels.length p.rc] 64)) (LtB B) p):=HPK.out.keep (KeepS.of_below HAL.out)
        obtain ⟨pb,hpb⟩:∃ pb,wi.heap.size=pb:=⟨_,rfl⟩
        rw [hpb] at HPB ⊢
        clear hpb c0 c1 i0 HPK HAL HSI HWI
        generalize wi.alloc (.cells #[.string (Ident.mk p.name),.slice p.R p.rels.length p.rc] 64)=W2 at HSI2 HWI2 HPB HPK2 ⊢
        have p0:=HPB.out.at_ 0 _ rfl
        have p1:=HPB.out.at_ 1 _ rfl
        have hz:(Ident.mk p.name).size=p.name.length:=mk_size _
        have hsh:p.name.length≤9223372036854775807:=HPK2.out.short
        have hrl:p.rels.length≤9223372036854775807:=Nat.le_trans HPK2.out.rc.1 HPK2.out.rc.2
        by_cases h3:300<p.name.length
        ·go_wp2
         go_ret
         exact FewPost.no (by omega) HSI2.out.bel
        ·by_cases h4:6<p.rels.length
         ·go_wp2
          go_ret
          exact FewPost.no (by omega) HSI2.out.bel
         ·have HPP:Hid (p.name.length≤300∧p.rels.length≤6):=⟨by omega,by omega⟩
          go_wp2
          clear p0 p1
          go_loopw [10] (fun v W=>∃ q:Nat,q≤p.rels.length∧v=.int .i64 q∧Hid (∀ j,j<q→FewRel (p.rels.getD j default))∧Hid (Below W2.heap.size W2 W)) (fun v _=>p.rels.length - (intOf v).toNat)
          case atStart=>exact ⟨0,Nat.zero_le _,rfl,(fun j hj=>by omega),Below.refl _ _⟩
          case round =>
           rename World=>wq
           obtain ⟨q,hq,rfl,HDQ,HWQ⟩:=hrel
           have HPQ:=Lib.hid (HPB.out.kept HWQ.out HPB.out.lt)
           have HSQ:=Lib.hid (HSI2.out.kept HWQ.out)
           have HWIQ:=Lib.hid (HWI2.out.trans (HWQ.out.mono HWI2.out.size))
           have p1:=HPQ.out.at_ 1 _ rfl
           by_cases hql:q<p.rels.length
           ·have hrr:=HPK2.out.rels.keep (KeepS.of_below (S:=LtB B) HWQ.out)
            have HRO:Hid (RelOk wq (LtB B) (p.rels.getD q default)):=hrr.ok _ (getD_mem hql)
            obtain ⟨g,og,eg,_,hgl,c0,c1,c2,c3,c4,c5,c6,c7⟩:=hrr.cells hql
            rw [eg] at p1
            have HMQ:Hid (FewRel (p.rels.getD q default)→∀ j,j<q+1→FewRel (p.rels.getD j default)):=at_step HDQ.out
            clear hrr eg
            generalize p.rels.getD q default=r at c0 c1 c2 c3 c4 c5 c6 c7 HRO HMQ
            have hqn:¬ p.rels.length≤q:=by omega
            go_upto_region 18 with (fail)
            have HAL:Hid (Below wq.heap.size wq (wq.alloc (.cells #[r.ver.v.a,r.ver.v.b,r.ver.v.c,.slice r.ver.A r.ver.v.pre.length r.ver.c,.slice r.ver.B r.ver.v.build.length r.ver.d,.bool r.yanked,.slice r.N r.needs.length r.nc,.slice r.B r.bans.length r.bc] 49))):=(Below.refl _ _).alloc (Nat.le_refl _) _
            have HWQ2:=Lib.hid (HWQ.out.trans (HAL.out.mono HWQ.out.size))
            have HRO2:Hid (RelOk (wq.alloc (.cells #[r.ver.v.a,r.ver.v.b,r.ver.v.c,.slice r.ver.A r.ver.v.pre.length r.ver.c,.slice r.ver.B r.ver.v.build.length r.ver.d,.bool r.yanked,.slice r.N r.needs.length r.nc,.slice r.B r.bans.length r.bc] 49)) (LtB B) r):=HRO.out.keep (KeepS.of_below HAL.out)
            have HQB:Hid (AtV (wq.alloc (.cells #[r.ver.v.a,r.ver.v.b,r.ver.v.c,.slice r.ver.A r.ver.v.pre.length r.ver.c,.slice r.ver.B r.ver.v.build.length r.ver.d,.bool r.yanked,.slice r.N r.needs.length r.nc,.slice r.B r.bans.length r.bc] 49)) wq.heap.size [.int .u64 r.ver.v.a,.int .u64 r.ver.v.b,.int .u64 r.ver.v.c,.slice r.ver.A r.ver.v.pre.length r.ver.c,.slice r.ver.B r.ver.v.build.length r.ver.d,.bool r.yanked,.slice r.N r.needs.length r.nc,.slice r.B r.bans.length r.bc]):=AtV.new wq _ _
            obtain ⟨qb,hqb⟩:∃ qb,wq.heap.size=qb:=⟨_,rfl⟩
            rw [hqb] at HQB ⊢
            clear hqb c0 c1 c2 c3 c4 c5 c6 c7 p1 HRO HAL hgl HPQ HSQ HWIQ HWQ
            generalize wq.alloc (.cells #[r.ver.v.a,r.ver.v.b,r.ver.v.c,.slice r.ver.A r.ver.v.pre.length r.ver.c,.slice r.ver.B r.ver.v.build.length r.ver.d,.bool r.yanked,.slice r.N r.needs.length r.nc,.slice r.B r.bans.length r.bc] 49)=W3 at HRO2 HWQ2 HQB ⊢
            have HS3:=Lib.hid (HSI2.out.kept HWQ2.out)
            have hs1:r.ver.v.pre.length≤9223372036854775807:=HRO2.out.ver.fit.pre
            have hs2:r.ver.v.build.length≤9223372036854775807:=HRO2.out.ver.fit.build
            have q3:=HQB.out.at_ 3 _ rfl
            have q4:=HQB.out.at_ 4 _ rfl
            have q6:=HQB.out.at_ 6 _ rfl
            by_cases h5:20<r.ver.v.pre.length
            ·go_wp2
             go_ret
             exact FewPost.no (by omega) HS3.out.bel
            ·by_cases h7:20<r.ver.v.build.length
             ·go_wp2
              go_ret
              exact FewPost.no (by omega) HS3.out.bel
             ·have HRP:Hid (r.ver.v.pre.length≤20∧r.ver.v.build.length≤20):=⟨by omega,by omega⟩
              go_wp2_with fail
              refine (lawDeps_any r.N r.needs.length r.nc r.needs B W3 HRO2.out.needs (Nat.le_trans hB HS3.out.bel.size) (Nat.le_trans HRO2.out.nc.1 HRO2.out.nc.2)).mono ?_
              rintro e W4 ⟨b4,rfl,hf4,hb4⟩
              have HB4:=Lib.hid hb4
              have HS4:=Lib.hid (HS3.out.kept hb4)
              have HQ4:=Lib.hid (HQB.out.kept hb4 HQB.out.lt)
              clear hb4 q3 q4 q6
              cases b4 with
              | false =>
               clear hf4
               go_wp2
               go_ret
               exact FewPost.no (by omega) HS4.out.bel
              | true =>
               have HF4:=Lib.hid (hf4 rfl)
               clear hf4
               have q7:=HQ4.out.at_ 7 _ rfl
               go_wp2_with fail
               refine (lawDeps_any r.B r.bans.length r.bc r.bans B W4 (HRO2.out.bans.keep (KeepS.of_below (S:=LtB B) HB4.out)) (Nat.le_trans hB HS4.out.bel.size) (Nat.le_trans HRO2.out.bc.1 HRO2.out.bc.2)).mono ?_
               rintro e W5 ⟨b5,rfl,hf5,hb5⟩
               have HS5:=Lib.hid (HS4.out.kept hb5)
               have HW5:=Lib.hid (HWQ2.out.trans ((HB4.out.trans (hb5.mono HB4.out.size)).mono HWQ2.out.size))
               clear hb5 q7
               cases b5 with
               | false =>
                clear hf5
                go_wp2
                go_ret
                exact FewPost.no (by omega) HS5.out.bel
               | true =>
                have HP:Hid (∀ j,j<q+1→FewRel (p.rels.getD j default)):=HMQ.out ⟨HRP.out.1,HRP.out.2,HF4.out,hf5 rfl⟩
                clear hf5
                go_wp2
                exact ⟨⟨q+1,by omega,by go_num,HP.out,HW5.out⟩,by simp [intOf]; omega⟩
           ·obtain rfl:q=p.rels.length:=by omega
            have HP:Hid (∀ j,j<i+1→FewPack (x.getD j default)):=HMO.out ⟨HPP.out,mem_of_at rfl HDQ.out⟩
            go_wp2
            exact ⟨⟨i+1,by omega,by go_num,HP.out,HWIQ.out⟩,by simp [intOf]; omega⟩
       ·obtain rfl:i=n:=by omega
        have HF:=Lib.hid (mem_of_at HLX.out HDI.out)
        have HFX:Hid (FewX x):=⟨HN6.out,fun p hp=>(HF.out p hp).1,fun p hp r hr=>(HF.out p hp).2 r hr⟩
        have i0:=HSI.out.ix.at_ 0 _ rfl
        go_wp2
        go_ret
        exact ⟨0,rfl,fun _=>⟨HFX.out,HFD.out,HFS.out⟩,HSI.out.bel⟩
end Go.Proofs.YtneilnibghhgmaaGreatDoor.Model
namespace Go.Proofs.YtneilnibghhgmaaGreatDoor.Model
open Go.RowKit Num Ident Semver Fr
open Range (Rng noRng RV KeepS LtB LenOk goodR wt)
open KR (KRow AtV)
open Name (isName)

def pinK (x:List (List UInt8)) (p:PPin):Int:=if isName p.name=false then 12 else if goodV p.v=false then 3 else if p.name ∈ x then 6 else 0
theorem pinK_name {x:List (List UInt8)} {p:PPin} (h:isName p.name=false):pinK x p=12:=by unfold pinK; rw [if_pos h]
theorem pinK_ver {x:List (List UInt8)} {p:PPin} (h:isName p.name=true) (g:goodV p.v=false):pinK x p=3:=by unfold pinK; rw [if_neg (by rw [h]; decide),if_pos g]
theorem pinK_there {x:List (List UInt8)} {p:PPin} (h:isName p.name=true) (g:goodV p.v=true) (q:p.name ∈ x):pinK x p=6:=by unfold pinK; rw [if_neg (by rw [h]; decide),if_neg (by rw [g]; decide),if_pos q]
theorem pinK_good {x:List (List UInt8)} {p:PPin} (h:isName p.name=true) (g:goodV p.v=true) (q:p.name ∉ x):pinK x p=0:=by unfold pinK; rw [if_neg (by rw [h]; decide),if_neg (by rw [g]; decide),if_neg q]
def SeenPost (x:List (List UInt8)) (s:List UInt8) (mb:Nat) (k:Int) (w:World) (e:Ending) (w':World):Prop :=
 e=.returned (.int .i64 k)∧(k=0→SeenAt w' mb (x ++ [s]))∧But (fun b=>b=mb) w w'
theorem pin1_any (p:MPin) (nb mb:Nat) (x:List (List UInt8)) (B:Nat) (w:World) (hp:PinOk w (LtB B) p) (hc:AtV w nb [.map (some mb)]) (hs:SeenAt w mb x) (hx:x.length≤1000) (hne:nb≠mb) (hB:B≤w.heap.size) (hm:B≤mb) :
  Calls Tryz.prog 39 #[p.agg,.pointer (some ⟨nb,0,none⟩)] w (SeenPost x p.name mb (pinK x p.p) w):=by
 have HP:=Lib.hid hp
 have HC:=Lib.hid hc
 have HS:=Lib.hid hs
 have HNE:=Lib.hid hne
 have HM:=Lib.hid hm
 have HE1:=Lib.hid (fun h=>pinK_name (x:=x) (p:=p.p) h)
 have HE2:=Lib.hid (fun h g=>pinK_ver (x:=x) (p:=p.p) h g)
 have HE3:=Lib.hid (fun h g q=>pinK_there (x:=x) (p:=p.p) h g q)
 have HE4:=Lib.hid (fun h g q=>pinK_good (x:=x) (p:=p.p) h g q)
 clear hp hc hs hne hm
 obtain ⟨W0,hW,hav,hb0⟩:∃ W,W=w.alloc (.cells #[.string (Ident.mk p.name),p.ver.v.a,p.ver.v.b,p.ver.v.c,.slice p.ver.A p.ver.v.pre.length p.ver.c,.slice p.ver.B p.ver.v.build.length p.ver.d] 66)∧AtV W w.heap.size [.string (Ident.mk p.name),.int .u64 p.ver.v.a,.int .u64 p.ver.v.b,.int .u64 p.ver.v.c,.slice p.ver.A p.ver.v.pre.length p.ver.c,.slice p.ver.B p.ver.v.build.length p.ver.d]∧Below w.heap.size w W:=⟨_,rfl,AtV.new w _ _,(Below.refl _ _).alloc (Nat.le_refl _) _⟩
 have HAV:=Lib.hid hav
 have HB0:Hid (But (fun b=>b=mb) w W0):=But.of_same hb0 _
 have HP0:Hid (PinOk W0 (LtB B) p):=HP.out.keep (KeepS.of_below hb0)
 have HC0:Hid (AtV W0 nb [.map (some mb)]):=HC.out.kept hb0 HC.out.lt
 have HS0:Hid (SeenAt W0 mb x):=HS.out.kept hb0 HS.out.lt
 have HLB:Hid (B≤W0.heap.size):=Nat.le_trans hB hb0.size
 clear hav hb0 HP HC HS
 obtain ⟨bd,hbd⟩:∃ bd,w.heap.size=bd:=⟨_,rfl⟩
 unfold MPin.agg
 go_enter Tryz.func39,Tryz.ntmps39
 go_upto_region 1 with (fail)
 rw [← hW]
 clear hW
 rw [hbd] at HAV
 clear hbd hB
 have c0:=HAV.out.at_ 0 _ rfl
 go_wp2_with fail
 refine (Name.good_any (Ident.mk p.name) _ (by rw [mk_size]; exact HP0.out.short)).mono ?_
 rw [mk_list]
 rintro e W1 ⟨rfl,hb⟩
 have HAV1:=Lib.hid (HAV.out.kept hb HAV.out.lt)
 have HB1:=Lib.hid (HB0.out.then_same hb)
 have HP1:=Lib.hid (HP0.out.keep (KeepS.of_below (S:=LtB B) hb))
 have HC1:=Lib.hid (HC0.out.kept hb HC0.out.lt)
 have HS1:=Lib.hid (HS0.out.kept hb HS0.out.lt)
 clear hb c0
 cases hnm:isName p.name
 ·have HF:=Lib.hid (HE1.out hnm)
  clear hnm
  go_wp2
  go_ret
  exact ⟨by rw [HF.out]; rfl,(fun h=>by rw [HF.out] at h; cases h),HB1.out⟩
 ·have HNM:=Lib.hid hnm
  clear hnm
  have c1:=HAV1.out.at_ 1 _ rfl
  have c2:=HAV1.out.at_ 2 _ rfl
  have c3:=HAV1.out.at_ 3 _ rfl
  have c4:=HAV1.out.at_ 4 _ rfl
  have c5:=HAV1.out.at_ 5 _ rfl
  go_wp2_with fail
  refine (vgood_any p.ver.v p.ver.A p.ver.c p.ver.B p.ver.d _ HP1.out.ver.pre HP1.out.ver.build HP1.out.ver.fit.pre HP1.out.ver.fit.build HP1.out.ver.fit.pres HP1.out.ver.fit.builds).mono ?_
  rintro e W2 ⟨rfl,hb⟩
  have HAV2:=Lib.hid (HAV1.out.kept hb HAV1.out.lt)
  have HB2:=Lib.hid (HB1.out.then_same hb)
  have HP2:=Lib.hid (HP1.out.keep (KeepS.of_below (S:=LtB B) hb))
  have HC2:=Lib.hid (HC1.out.kept hb HC1.out.lt)
  have HS2:=Lib.hid (HS1.out.kept hb HS1.out.lt)
  clear hb c1 c2 c3 c4 c5
  cases hg:goodV p.ver.v
  ·have HF:=Lib.hid (HE2.out HNM.out hg)
   clear hg
   go_wp2
   go_ret
   exact ⟨by rw [HF.out]; rfl,(fun h=>by rw [HF.out] at h; cases h),HB2.out⟩
  ·have HG:=Lib.hid hg
   clear hg
   have c0:=HAV2.out.at_ 0 _ rfl
   have d0:=HC2.out.at_ 0 _ rfl
   go_wp2_with fail
   refine (again_any mb x (Ident.mk p.name) _ HS2.out (by rw [mk_size]; exact HP2.out.short) (by omega)).mono ?_
   rw [mk_list]
   rintro e W3 ⟨rfl,hs3,hb⟩
   have HS3:=Lib.hid hs3
   have HB3:=Lib.hid (HB2.out.then_ hb)
   clear hb hs3 c0 d0
   by_cases hq:p.name ∈ x
   ·have HF:=Lib.hid (HE3.out HNM.out HG.out hq)
    rw [decide_eq_true hq]
    clear hq
    go_wp2
    go_ret
    exact ⟨by rw [HF.out]; rfl,(fun h=>by rw [HF.out] at h; cases h),HB3.out⟩
   ·have HF:=Lib.hid (HE4.out HNM.out HG.out hq)
    rw [decide_eq_false hq]
    clear hq
    go_wp2
    go_ret
    exact ⟨by rw [HF.out]; rfl,(fun _=>HS3.out),HB3.out⟩
theorem nameB_iff {α:Type} [Inhabited α] (nm:α→List UInt8) (l:List α) (k:Nat):nameB nm l k=true↔nm (l.getD k default) ∈ (l.take k).map nm:=by
 unfold nameB
 simp only [List.any_eq_true,beq_iff_eq,List.mem_map]
theorem pinE_K (s:List PPin) (k:Nat):pinE s k (s.getD k default)=pinK ((s.take k).map PPin.name) (s.getD k default):=by
 unfold pinE pinK
 by_cases h:nameB PPin.name s k=true
 ·rw [if_pos h,if_pos ((nameB_iff _ _ _).1 h)]
 ·rw [if_neg h,if_neg (fun g=>h ((nameB_iff _ _ _).2 g))]
theorem take_map_snoc {α β:Type} [Inhabited α] (f:α→β) (l:List α) {k:Nat} (h:k<l.length):(l.take (k+1)).map f=(l.take k).map f ++ [f (l.getD k default)]:=by
 rw [List.take_succ_eq_append_getElem h,List.map_append,List.getD_eq_getElem?_getD,List.getElem?_eq_getElem h]; rfl
theorem seen_made (w:World) (t:TypeId):∃ W,W=(w.alloc (.map #[] 0)).alloc (.cells #[.map (some w.heap.size)] t)∧SeenAt W w.heap.size []∧AtV W (w.heap.size+1) [.map (some w.heap.size)]∧Below w.heap.size w W:=by
 refine ⟨_,rfl,?_,?_,?_⟩
 ·exact (SeenAt.made w).kept ((Below.refl _ _).alloc (Nat.le_refl _) _) (by simp)
 ·have h:=AtV.new (w.alloc (.map #[] 0)) t [.map (some w.heap.size)]
  rwa [size_alloc] at h
 ·exact ((Below.refl _ _).alloc (Nat.le_refl _) _).alloc (by simp) _
theorem pins_any (A:Option Addr) (n c:Nat) (l:List MPin) (B:Nat) (w:World) (h:SPRow w (LtB B) A n l) (hB:B≤w.heap.size) (hn:n≤1000) :
  Calls Tryz.prog 13 #[.slice A n c] w fun e w'=>e=.returned (out2V (pinsF (l.map MPin.p)))∧Below w.heap.size w w':=by
 obtain ⟨W,hW,hs,ha,hb⟩:=seen_made w 69
 obtain ⟨mb,hmb⟩:∃ mb,w.heap.size=mb:=⟨_,rfl⟩
 have HB:=Lib.hid hb
 have HL:=Lib.hid h.row.1
 have HBM:Hid (B≤mb):=by rw [← hmb]; exact hB
 have hfst:Calls Tryz.prog 38 #[.slice A n c,.func (.func 39) #[] #[.pointer (some ⟨mb+1,0,none⟩)]] W (FirstPost n (fun k=>pinE (l.map MPin.p) k ((l.map MPin.p).getD k default)) (fun k W'=>SeenAt W' mb (((l.map MPin.p).take k).map PPin.name)∧But (fun b=>b=mb) W W') (fun _ W'=>But (fun b=>b=mb) W W')):=by
  rw [hmb] at hs ha
  have hrow:∀ W',But (fun b=>b=mb) W W'→SPRow W' (LtB B) A n l:=fun W' hw=>(h.keep (KeepS.of_below hb)).keep (keepS_but hw fun g hg e=>by have:=HBM.out; have hg:g<B:=hg; omega)
  refine firstPin_any 39 #[.pointer (some ⟨mb+1,0,none⟩)] (enters_of Tryz.func39 (by kernel_rfl) rfl) A n c l _ _ _ (LtB B) W (by unfold maxLen; omega)
   (fun k W' _ hI=>hrow W' hI.2) (fun k W' hk hI=>?_) ⟨hs,But.refl _ _⟩
  have hkl:k<l.length:=by rw [HL.out]; exact hk
  have hx:=pinE_K (l.map MPin.p) k
  rw [map_at MPin.p l hkl] at hx ⊢
  rw [hx]
  refine (pin1_any (l.getD k default) (mb+1) mb (((l.map MPin.p).take k).map PPin.name) B W' ((hrow W' hI.2).ok _ (h.row.mem hk)) (ha.but hI.2 (by omega)) hI.1 (by simp; omega) (by omega) (by have:=HB.out.size; have:=hI.2.size; omega) HBM.out).mono ?_
  rintro e w' ⟨he,h1,h2⟩
  refine ⟨he,fun h0=>⟨?_,hI.2.then_ h2⟩,fun _=>hI.2.then_ h2⟩
  rw [take_map_snoc PPin.name (l.map MPin.p) (by rw [List.length_map]; exact hkl),map_at MPin.p l hkl]
  exact h1 h0
 have HP:Hid (∀ e w',FirstPost n (fun k=>pinE (l.map MPin.p) k ((l.map MPin.p).getD k default)) (fun k W'=>SeenAt W' mb (((l.map MPin.p).take k).map PPin.name)∧But (fun b=>b=mb) W W') (fun _ W'=>But (fun b=>b=mb) W W') e w'→e=.returned (out2V (pinsF (l.map MPin.p)))∧Below w.heap.size w w'):=fun e w' hp=>by
  have hq:=first_out (l.map MPin.p) _ _ _ (by rw [List.length_map,HL.out]; exact hp) (fun k p=>pinE (l.map MPin.p) k p) (fun k _=>rfl)
  refine ⟨hq.1,?_⟩
  have hbt:But (fun b=>b=mb) W w':=by rcases hq.2 with ⟨k,_,hb,_⟩ | ⟨hb,_⟩; exact hb; exact hb.2
  exact HB.out.trans (hbt.to_below HB.out.size (by omega))
 clear h hs ha hb
 have hmm:=@run_makeMap Tryz.prog
 rw [hmb] at hW
 go_enter Tryz.func13,Tryz.ntmps13
 go_upto_region 2 with (fail)
 rw [← hW]
 clear hW hmb hmm
 go_wp2_with fail
 refine hfst.mono ?_
 intro e w' hp
 obtain ⟨he,hb⟩:=HP.out e w' hp
 subst he
 clear hp
 have HB2:=Lib.hid hb
 clear hb
 obtain ⟨r,hr⟩:∃ r,pinsF (l.map MPin.p)=r:=⟨_,rfl⟩
 have HR:=Lib.hid hr
 rw [hr]
 clear hr
 unfold out2V
 go_wp2
 go_ret2
 exact ⟨by rw [HR.out]; rfl,HB2.out⟩
end Go.Proofs.YtneilnibghhgmaaGreatDoor.Model
namespace Go.Proofs.YtneilnibghhgmaaGreatDoor.Model
open Go.RowKit Num Ident Semver Fr
open Range (Rng noRng RV KeepS LtB LenOk goodR wt)
open KR (KRow AtV)
open Name (isName)

theorem cmp_less:∀ (a b:List UInt8),Lib.compareBytes a b<0↔a<b
 | [],[]=>by simp [Lib.compareBytes]
 | [],y :: b=>by simp [Lib.compareBytes]
 | x :: a,[]=>by simp [Lib.compareBytes]
 | x :: a,y :: b=>by
  rw [List.cons_lt_cons_iff]
  unfold Lib.compareBytes
  by_cases h1:x<y
  ·rw [if_pos h1]; simp [h1]
  ·rw [if_neg h1]
   by_cases h2:y<x
   ·rw [if_pos h2]
    have h3:x≠y:=fun e=>by subst e; exact h1 h2
    simp [h1,h3]
   ·rw [if_neg h2,cmp_less a b]
    have h3:x=y:=by
     have a1:¬ x.toNat<y.toNat:=fun h=>h1 (UInt8.lt_iff_toNat_lt.2 h)
     have a2:¬ y.toNat<x.toNat:=fun h=>h2 (UInt8.lt_iff_toNat_lt.2 h)
     exact UInt8.toNat_inj.1 (by omega)
    simp [h3,UInt8.lt_irrefl]
theorem sortedPin_any (A:Option Addr) (n c:Nat) (l:List MPin) (g:Nat) (cb:Array Value) (eg:∀ args w,(callFunc g args).run Tryz.prog w=.ok (.enter g args) w) (cf:MPin→MPin→Int) (S:Nat→Prop) (w:World) (hr:KRow MPin.vals 6 w S A n l) (hn:n≤100000)
  (hp:∀ (W:World) (x y:MPin),x ∈ l→y ∈ l→Below w.heap.size w W→Calls Tryz.prog g (#[x.agg,y.agg] ++ cb) W fun e w'=>e=.returned (.int .i64 (cf x y))∧Below W.heap.size W w') :
  Calls Tryz.prog 81 #[.slice A n c,.func (.func g) #[] cb] w fun e w'=>e=.returned (.bool (chainB (fun a b=>decide (0≤cf b a)) l))∧Below w.heap.size w w':=by
 have HR:=Lib.hid hr
 have HL:=Lib.hid hr.1
 have HP:=Lib.hid hp
 clear hr hp
 have hw0:IntKind.i64.wrap ((n:Int) - 1)=(n:Int) - 1:=by rw [IntKind.wrap_i64] <;> omega
 go_enter Tryz.func81,Tryz.ntmps81
 go_wp2
 clear hw0
 go_loopw [5] (fun y W=>∃ k:Int,-1≤k∧k≤(n:Int) - 1∧y=.int .i64 k∧Hid (∀ j:Nat,k≤(j:Int)→j+1<n→decide (0≤cf (l.getD (j+1) default) (l.getD j default))=true)∧Hid (Below w.heap.size w W)) (fun y _=>(intOf y+1).toNat)
 case atStart=>exact ⟨(n:Int) - 1,by omega,by omega,rfl,(fun j h1 h2=>by omega),Below.refl _ _⟩
 case round =>
  rename World=>wk
  obtain ⟨k,hk0,hk1,rfl,HD,HW⟩:=hrel
  by_cases hlt:0<k
  ·obtain ⟨j,rfl⟩:∃ j:Nat,k=(j:Int)+1:=⟨(k - 1).toNat,by omega⟩
   have hjn:j+1<n:=by omega
   have hjn0:j<n:=by omega
   have hw1:IntKind.i64.wrap ((j:Int)+1 - 1)=(j:Int):=by rw [IntKind.wrap_i64] <;> omega
   have hw2:IntKind.i64.wrap (j:Int)=(j:Int):=by rw [IntKind.wrap_i64] <;> omega
   have hn1:¬ (n:Int)≤(j:Int)+1:=by omega
   have hn2:¬ (n:Int)≤(j:Int):=by omega
   have hb1:¬ ((j:Int)+1<0):=by omega
   have hz1:((j:Int)+1).toNat=j+1:=by omega
   have hrow:=HR.out.keep (KeepS.of_below (S:=S) HW.out)
   obtain ⟨b,o,rfl,_,hb,hcx⟩:=hrow.at_ hjn
   obtain ⟨b',o',e',_,_,hcy⟩:=hrow.at_ hjn0
   injection e' with e'
   injection e' with e1 e2
   subst e1
   subst e2
   have hcl:∀ V:World,Below wk.heap.size wk V→Calls Tryz.prog g (#[(l.getD (j+1) default).agg,(l.getD j default).agg] ++ cb) V fun e w'=>e=.returned (.int .i64 (cf (l.getD (j+1) default) (l.getD j default)))∧Below V.heap.size V w':=fun V hV=>HP.out V _ _ (hrow.mem hjn) (hrow.mem hjn0) (HW.out.trans (hV.mono HW.out.size))
   have HYES:Hid (0≤cf (l.getD (j+1) default) (l.getD j default)→∀ i:Nat,(j:Int)≤(i:Int)→i+1<n→decide (0≤cf (l.getD (i+1) default) (l.getD i default))=true):=fun h i h1 h2=>by
    by_cases e:i=j
    ·subst e; exact decide_eq_true h
    ·exact HD.out i (by omega) h2
   have HNO:Hid (cf (l.getD (j+1) default) (l.getD j default)<0→chainB (fun a b=>decide (0≤cf b a)) l=false):=fun h=>chainB_no (i:=j) (by rw [HL.out]; exact hjn) (decide_eq_false (by omega))
   obtain ⟨x,hx⟩:∃ x,l.getD (j+1) default=x:=⟨_,rfl⟩
   obtain ⟨y,hy⟩:∃ y,l.getD j default=y:=⟨_,rfl⟩
   rw [hx] at hcx hcl HYES HNO
   rw [hy] at hcy hcl HYES HNO
   clear hx hy hrow HD
   have x0:=hcx 0 _ rfl
   have x1:=hcx 1 _ rfl
   have x2:=hcx 2 _ rfl
   have x3:=hcx 3 _ rfl
   have x4:=hcx 4 _ rfl
   have x5:=hcx 5 _ rfl
   have y0:=hcy 0 _ rfl
   have y1:=hcy 1 _ rfl
   have y2:=hcy 2 _ rfl
   have y3:=hcy 3 _ rfl
   have y4:=hcy 4 _ rfl
   have y5:=hcy 5 _ rfl
   clear hcx hcy
   obtain ⟨q,hq⟩:∃ q,cf x y=q:=⟨_,rfl⟩
   rw [hq] at hcl HYES HNO
   clear hq
   unfold MPin.agg at hcl
   go_wp2
   have H0:Hid (Below wk.heap.size wk wk.drew):=(Below.refl _ _).drew
   refine wp_region_held_drew (S:=fun w'=>Below wk.heap.size wk w') (by kernel_rfl) H0.out (fun hHeld=>?_)
   generalize wk.drew=wd at H0 hHeld ⊢
   have hcl:=hcl wd H0.out
   refine tk 0 rfl (.func (.func g) #[] cb) ?_
   refine tk 1 rfl (.slice (some ⟨b,o,none⟩) n c) ?_
   refine tk 2 rfl (.int .i64 ((j:Int)+1)) ?_
   refine tk 3 rfl (.pointer (some ⟨b,o+(j+1) * 6,none⟩)) ?_
   refine tk 4 rfl (.agg #[.string (Ident.mk x.name),x.ver.v.a,x.ver.v.b,x.ver.v.c,.slice x.ver.A x.ver.v.pre.length x.ver.c,.slice x.ver.B x.ver.v.build.length x.ver.d]) ?_ (hv:=fun w' hS'=>by ((have z0:=(hS'.cell (p:=⟨b,o+(j+1) * 6,none⟩) hb).trans x0); (have z1:=(hS'.cell (p:=⟨b,o+(j+1) * 6+1,none⟩) hb).trans x1); (have z2:=(hS'.cell (p:=⟨b,o+(j+1) * 6+2,none⟩) hb).trans x2); (have z3:=(hS'.cell (p:=⟨b,o+(j+1) * 6+3,none⟩) hb).trans x3); (have z4:=(hS'.cell (p:=⟨b,o+(j+1) * 6+4,none⟩) hb).trans x4); (have z5:=(hS'.cell (p:=⟨b,o+(j+1) * 6+5,none⟩) hb).trans x5)); go_simp)
   refine tk 5 rfl (.slice (some ⟨b,o,none⟩) n c) ?_
   refine tk 6 rfl (.int .i64 ((j:Int)+1)) ?_
   refine tk 7 rfl (.int .i64 j) ?_
   refine tk 8 rfl (.pointer (some ⟨b,o+j * 6,none⟩)) ?_
   refine tk 9 rfl (.agg #[.string (Ident.mk y.name),y.ver.v.a,y.ver.v.b,y.ver.v.c,.slice y.ver.A y.ver.v.pre.length y.ver.c,.slice y.ver.B y.ver.v.build.length y.ver.d]) ?_ (hv:=fun w' hS'=>by ((have z0:=(hS'.cell (p:=⟨b,o+j * 6,none⟩) hb).trans y0); (have z1:=(hS'.cell (p:=⟨b,o+j * 6+1,none⟩) hb).trans y1); (have z2:=(hS'.cell (p:=⟨b,o+j * 6+2,none⟩) hb).trans y2); (have z3:=(hS'.cell (p:=⟨b,o+j * 6+3,none⟩) hb).trans y3); (have z4:=(hS'.cell (p:=⟨b,o+j * 6+4,none⟩) hb).trans y4); (have z5:=(hS'.cell (p:=⟨b,o+j * 6+5,none⟩) hb).trans y5)); go_simp)
   refine cl 10 rfl fun K hK=>?_
   go_simp
   refine hcl.mono ?_
   rintro e W2 ⟨rfl,hb2⟩
   have HW2:=Lib.hid (HW.out.trans ((H0.out.trans (hb2.mono H0.out.size)).mono HW.out.size))
   refine hK.out _ _ (H0.out.trans (hb2.mono H0.out.size)) (fun hHeld2=>?_)
   clear hK K hb2 hcl x0 x1 x2 x3 x4 x5 y0 y1 y2 y3 y4 y5
   try simp only [Act.put,p1,p2,p3]
   by_cases hlq:q<0
   ·have hdq:decide (q<0)=true:=decide_eq_true hlq
    have HN:=Lib.hid (HNO.out hlq)
    refine tk 11 rfl (.bool true) ?_
    refine wpAnyH_done (by kernel_rfl) ?_ _
    go_wp2
    go_ret
    exact ⟨by rw [HN.out]; rfl,HW2.out⟩
   ·have hdq:decide (q<0)=false:=decide_eq_false hlq
    have HY:=Lib.hid (HYES.out (by omega))
    refine tk 11 rfl (.bool false) ?_
    refine wpAnyH_done (by kernel_rfl) ?_ _
    go_wp2
    exact ⟨⟨(j:Int),by omega,by omega,rfl,HY.out,HW2.out⟩,by simp [intOf]; omega⟩
  ·have hF:chainB (fun a b=>decide (0≤cf b a)) l=true:=by
    rw [chainB_iff]
    intro i hi
    exact HD.out i (by omega) (by rw [← HL.out]; exact hi)
   have HF:=Lib.hid hF
   clear hF
   go_wp2
   go_ret
   exact ⟨by rw [HF.out]; rfl,HW.out⟩
theorem twoPin (w:World) (x y:MPin):∃ W,W=(w.alloc (.cells #[.string (Ident.mk x.name),x.ver.v.a,x.ver.v.b,x.ver.v.c,.slice x.ver.A x.ver.v.pre.length x.ver.c,.slice x.ver.B x.ver.v.build.length x.ver.d] 66)).alloc (.cells #[.string (Ident.mk y.name),y.ver.v.a,y.ver.v.b,y.ver.v.c,.slice y.ver.A y.ver.v.pre.length y.ver.c,.slice y.ver.B y.ver.v.build.length y.ver.d] 66)∧AtV W w.heap.size [.string (Ident.mk x.name),.int .u64 x.ver.v.a,.int .u64 x.ver.v.b,.int .u64 x.ver.v.c,.slice x.ver.A x.ver.v.pre.length x.ver.c,.slice x.ver.B x.ver.v.build.length x.ver.d]∧AtV W (w.heap.size+1) [.string (Ident.mk y.name),.int .u64 y.ver.v.a,.int .u64 y.ver.v.b,.int .u64 y.ver.v.c,.slice y.ver.A y.ver.v.pre.length y.ver.c,.slice y.ver.B y.ver.v.build.length y.ver.d]∧BelowD w.heap.size w W:=by
 refine ⟨_,rfl,(AtV.new w _ _).kept ((Below.refl _ _).alloc (Nat.le_refl _) _) (by simp),?_,((BelowD.refl _ _).alloc (Nat.le_refl _) _).alloc (by simp) _⟩
 have h:=AtV.new (w.alloc (.cells #[.string (Ident.mk x.name),x.ver.v.a,x.ver.v.b,x.ver.v.c,.slice x.ver.A x.ver.v.pre.length x.ver.c,.slice x.ver.B x.ver.v.build.length x.ver.d] 66)) 66 [.string (Ident.mk y.name),.int .u64 y.ver.v.a,.int .u64 y.ver.v.b,.int .u64 y.ver.v.c,.slice y.ver.A y.ver.v.pre.length y.ver.c,.slice y.ver.B y.ver.v.build.length y.ver.d]
 rwa [size_alloc] at h
theorem namesPin_any (x y:MPin) (w:World):Calls Tryz.prog 82 #[x.agg,y.agg] w fun e w'=>e=.returned (.int .i64 (Lib.compareBytes x.name y.name))∧BelowD w.heap.size w w':=by
 obtain ⟨W0,hW,h1,h2,hb⟩:=twoPin w x y
 have H1:=Lib.hid h1
 have H2:=Lib.hid h2
 have HB:=Lib.hid hb
 clear h1 h2 hb
 obtain ⟨xb,hxb⟩:∃ xb,w.heap.size=xb:=⟨_,rfl⟩
 unfold MPin.agg
 go_enter Tryz.func82,Tryz.ntmps82
 go_upto_region 1 with (fail)
 rw [← hW]
 rw [hxb] at H1 H2
 clear hW hxb
 have x0:=H1.out.at_ 0 _ rfl
 have y0:=H2.out.at_ 0 _ rfl
 go_wp2_with fail
 refine (strcmp_any (Ident.mk x.name) (Ident.mk y.name) _).mono ?_
 rw [mk_list,mk_list]
 rintro e w' ⟨rfl,rfl⟩
 obtain ⟨q,hq⟩:∃ q,Lib.compareBytes x.name y.name=q:=⟨_,rfl⟩
 have HQ:=Lib.hid hq
 rw [hq]
 clear hq
 go_wp2
 go_ret
 exact ⟨by rw [HQ.out]; rfl,HB.out⟩
end Go.Proofs.YtneilnibghhgmaaGreatDoor.Model
