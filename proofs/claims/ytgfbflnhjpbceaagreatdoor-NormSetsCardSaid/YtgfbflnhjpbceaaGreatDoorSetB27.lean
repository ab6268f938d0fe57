/-
  What the theorem of the last text needs of these: SpRefCuts. Conditions: as each theorem states.
-/
import Derived.Test.YtgfbflnhjpbceaaGreatDoorSetB1
import Derived.Test.YtgfbflnhjpbceaaGreatDoorSetB23
set_option maxRecDepth 100000
set_option maxHeartbeats 25600000
namespace Go.Proofs.YtgfbflnhjpbceaaGreatDoor.Span
open Go.RowKit Num Ident Semver Prec

theorem cuts_any (A:Option Addr) (n c0:Nat) (l:List RSp) (B:Option Addr) (p d0:Nat) (r:List RSp) (w:World) (ha:SpSrc w A n c0 l) (hb:SpSrc w B p d0 r) (hn:n≤1000) (hp:p≤1000) :
  Calls Tryz.prog 68 #[.slice A n c0,.slice B p d0] w (CutsPost w l r):=by
 have HBa:Hid (Below w.heap.size w ((w.alloc (.cells #[.int .i64 0,.int .u64 0,.int .u64 0,.int .u64 0,.slice none 0 0,.slice none 0 0,.int .i64 3,.int .u64 0,.int .u64 0,.int .u64 0,.slice none 0 0,.slice none 0 0] 41)).alloc (.cells #[] 43))):=((Below.refl _ _).alloc (Nat.le_refl _) _).alloc (by simp) _
 have HS1:Hid (SpSrc ((w.alloc (.cells #[.int .i64 0,.int .u64 0,.int .u64 0,.int .u64 0,.slice none 0 0,.slice none 0 0,.int .i64 3,.int .u64 0,.int .u64 0,.int .u64 0,.slice none 0 0,.slice none 0 0] 41)).alloc (.cells #[] 43)) A n c0 l):=⟨ha.row.kept HBa.out,ha.nil⟩
 have HQ0:=Lib.hid hb
 have HZA:Hid (w.heap.size+1≤(((w.alloc (.cells #[.int .i64 0,.int .u64 0,.int .u64 0,.int .u64 0,.slice none 0 0,.slice none 0 0,.int .i64 3,.int .u64 0,.int .u64 0,.int .u64 0,.slice none 0 0,.slice none 0 0] 41)).alloc (.cells #[] 43))).heap.size):=by unfold Hid; simp
 have HLI:Hid (∀ s ∈ l ++ r,LiesS w s):=fun s hs=>(List.mem_append.1 hs).elim (ha.row.2.1 s) (hb.row.2.1 s)
 have HLN:Hid ((l ++ r).length=n+p):=by unfold Hid; rw [List.length_append,ha.row.1,hb.row.1]
 have OWN:Hid (World.ownsRow ((w.alloc (.cells #[.int .i64 0,.int .u64 0,.int .u64 0,.int .u64 0,.slice none 0 0,.slice none 0 0,.int .i64 3,.int .u64 0,.int .u64 0,.int .u64 0,.slice none 0 0,.slice none 0 0] 41)).alloc (.cells #[] 43)) (w.heap.size+1) 43 12 (.slice (some ⟨w.heap.size+1,0,none⟩) 0 0) 0 []):=by
  have q:=World.ownsRow_made (base:=w.heap.size+1) (e:=43) (size:=12) (w.alloc (.cells #[.int .i64 0,.int .u64 0,.int .u64 0,.int .u64 0,.slice none 0 0,.slice none 0 0,.int .i64 3,.int .u64 0,.int .u64 0,.int .u64 0,.slice none 0 0,.slice none 0 0] 41)) #[] 0 (by simp) (by unfold maxLen; omega) rfl
  rw [size_alloc] at q; exact q
 have SRC:Hid (CuSrc ((w.alloc (.cells #[.int .i64 0,.int .u64 0,.int .u64 0,.int .u64 0,.slice none 0 0,.slice none 0 0,.int .i64 3,.int .u64 0,.int .u64 0,.int .u64 0,.slice none 0 0,.slice none 0 0] 41)).alloc (.cells #[] 43)) w.heap.size 0 [rlow,rhigh]):=by
  have q:CuSrc (w.alloc (.cells #[.int .i64 0,.int .u64 0,.int .u64 0,.int .u64 0,.slice none 0 0,.slice none 0 0,.int .i64 3,.int .u64 0,.int .u64 0,.int .u64 0,.slice none 0 0,.slice none 0 0] 41)) w.heap.size 0 [rlow,rhigh]:=⟨by simp,fun j u hu=>by have:=news_new w ([rlow,rhigh].flatMap RCut.vals) 41 j u hu; rw [add_none] at this; exact this⟩
  exact q.kept ((Below.refl _ _).alloc (Nat.le_refl _) _)
 clear ha hb
 go_enter Tryz.func68,Tryz.ntmps68
 go_wp2_with (first
  | (at_builtin; refine wpList_append_sps _ rfl _ _ rfl (w.heap.size+1) _ 0 [] rfl OWN.out A n c0 l rfl HS1.out (by omega) (by simp) ?_; intro v4 w4 ho4 hb4; have O4:=Lib.hid ho4; rw [Nat.zero_add,List.nil_append] at O4; have SRC4:=Lib.hid (SRC.out.keptB (Nat.lt_succ_self _) hb4); have B4:=Lib.hid (HBa.out.trans (hb4.mono (Nat.le_succ _))); have HS4:=Lib.hid (SpSrc.mk (HQ0.out.row.kept B4.out) HQ0.out.nil); have hz4:=Nat.le_trans HZA.out hb4.size; clear ho4 hb4 OWN SRC HS1)
  | (at_builtin; refine wpList_append_sps _ rfl _ _ rfl (w.heap.size+1) _ n l rfl O4.out B p d0 r rfl HS4.out (by omega) hz4 ?_; intro v5 w5 ho5 hb5; have O5:=Lib.hid ho5; have SRC5:=Lib.hid (SRC4.out.keptB (Nat.lt_succ_self _) hb5); have HBL:=Lib.hid (B4.out.trans (hb5.mono (Nat.le_succ _))); clear ho5 hb5 O4 SRC4 HS4 hz4 B4)
  | fail)
 obtain ⟨A6,c6,rfl,hc6,_,hcell6⟩:=own_cells svals_len O5.out HLN.out
 have HALL:Hid (SpRow w5 A6 (n+p) (l ++ r)):=⟨HLN.out,fun s hs=>(HLI.out s hs).kept HBL.out,fun h0=>by obtain ⟨g,e,_,h2,_,h3⟩:=hcell6 h0; exact ⟨g,0,e,h2,h3⟩⟩
 clear O5 hcell6
 obtain ⟨all,hall⟩:∃ all,l ++ r=all:=⟨_,rfl⟩
 obtain ⟨N,hN⟩:∃ N,n+p=N:=⟨_,rfl⟩
 have HAL:=Lib.hid hall
 have HNP:=Lib.hid hN
 have hN2:N≤2000:=by omega
 rw [hall,hN] at HALL
 rw [hall] at HLI
 rw [hall,hN] at HLN
 rw [hN]
 clear hall hN hn hp
 go_wp2
 go_loopw [5,7] (fun v i W=>CutsJ1 w w5 N all v i W) (fun _ i _=>N - (intOf i).toNat)
 case atStart =>
  exact ⟨0,w.heap.size,0,2,[rlow,rhigh],by omega,rfl,rfl,⟨SRC5.out,(fun x hx=>by simp only [List.mem_cons,List.mem_nil_iff,or_false] at hx; rcases hx with rfl | rfl; exact Lies.low _; exact Lies.high _),Rise.start,Nat.le_refl _,by unfold maxLen; omega,Below.refl _ _⟩,HitsAll.nil _,by simp⟩
 case round =>
  obtain ⟨k,b,o,cp,L,hk,rfl,rfl,ha1,hh1,hlen⟩:=hrel
  have HA:=Lib.hid ha1
  have HH:=Lib.hid hh1
  clear ha1 hh1
  by_cases hlt:k<N
  ·go_wp2
   go_loopw [5,8] (fun v i W=>CutsJ2 w w5 all k v i W) (fun _ i _=>2 - (intOf i).toNat)
   case atStart=>exact ⟨0,b,o,cp,L,by omega,rfl,rfl,HA.out,HH.out,⟨fun h=>by omega,fun h=>by omega⟩,by omega⟩
   case round =>
    clear HA HH hlen
    obtain ⟨q,b,o,cp,L,hq,rfl,rfl,ha2,hh2,ht2,hlen⟩:=hrel
    have HA:=Lib.hid ha2
    have HH:=Lib.hid hh2
    have HT:=Lib.hid ht2
    clear ha2 hh2 ht2
    by_cases hq2:q<2
    ·have HR1:=Lib.hid (HALL.out.kept HA.out.bel)
     obtain ⟨ba,oa,rfl,hba,hca⟩:=HR1.out.2.2 (by omega)
     have C1:Hid (SpAt wr ba (oa+k * 12) (all.getD k default)):=hca k hlt
     have LS:Hid (LiesS w (all.getD k default)):=HLI.out _ (getS_mem (by rw [HLN.out]; exact hlt))
     obtain ⟨s,hs⟩:∃ s,all.getD k default=s:=⟨_,rfl⟩
     rw [hs] at C1 LS
     obtain ⟨x0,x1,x2,x3,x4,x5,x6,x7,x8,x9,x10,x11⟩:=C1.out.cells
     clear hca C1 HR1
     rcases (show q=0∨q=1 by omega) with rfl | rfl
     ·have HNX:Hid (∀ M:List Cut,(∀ x ∈ L.map RCut.cut,x ∈ M)→(right s.lo.cut=true→Hits M s.lo.cut)→Two M (all.getD k default).sp 1):=fun M h1 h2=>by rw [hs]; exact ⟨fun _=>h2,fun h=>by omega⟩
      have LC:=Lib.hid LS.out.lo
      clear hs LS
      go_upto_region 12 with (fail)
      clear x0 x1 x2 x3 x4 x5 x6 x7 x8 x9 x10 x11
      generalize s.lo=c at HNX LC ⊢
      have A1:Hid (Below wr.heap.size wr (wr.alloc c)):=(Below.refl _ _).alloc (Nat.le_refl _) _
      have K1:Hid (At6B (wr.alloc c) wr.heap.size c.kind c.v.a c.v.b c.v.c (.slice c.A c.v.pre.length c.c) (.slice c.B c.v.build.length c.d)):=At6B.new wr _ _ _ _ _ _ _
      generalize (wr.alloc c)=w1 at A1 K1 ⊢
      have HA1:=Lib.hid (HA.out.kept A1.out)
      obtain ⟨pc,hpc0⟩:∃ pc,wr.heap.size=pc:=⟨_,rfl⟩
      rw [hpc0] at K1 ⊢
      clear hpc0 A1 HA
      have LC1:=Lib.hid (LC.out.kept (HBL.out.trans (HA1.out.bel.mono HBL.out.size)))
      obtain ⟨_,_,z0,z1,z2,z3,z4,z5⟩:=K1.out
      go_wp2_with fail
      refine (refRight_any c _ LC1.out).mono ?_
      rintro e w2 ⟨rfl,hb⟩
      have HA2:=Lib.hid (HA1.out.kept hb)
      have K2:=Lib.hid (K1.out.kept hb K1.out.1)
      clear hb HA1 K1 LC1 z0 z1 z2 z3 z4 z5
      cases g1:right c.cut
      ·have HT2:=Lib.hid (HNX.out _ (fun x h=>h) (fun h=>by rw [g1] at h; cases h))
       clear g1
       go_wp2
       exact ⟨⟨1,b,o,cp,L,by omega,by go_num,rfl,HA2.out,HH.out,HT2.out,by omega⟩,by simp [intOf]⟩
      have G1:=Lib.hid g1
      clear g1
      go_wp2
      go_loopw [10] (fun i W=>∃ m:Nat,m≤L.length∧i=.int .i64 m∧Hid (∀ j,j<m→stand (cutAt (L.map RCut.cut) j) c.cut<0)∧Hid (Below w2.heap.size w2 W)) (fun i _=>L.length - (intOf i).toNat)
      case atStart=>exact ⟨0,Nat.zero_le _,rfl,(fun j hj=>by omega),Below.refl _ _⟩
      case round =>
       obtain ⟨m,hm,rfl,HM,HW⟩:=hrel
       have HA3:=Lib.hid (HA2.out.kept HW.out)
       have K3:=Lib.hid (K2.out.kept HW.out K2.out.1)
       have LCW:=Lib.hid LC.out
       replace LC:=Lib.hid (LC.out.kept (HBL.out.trans (HA3.out.bel.mono HBL.out.size)))
       have hlm:L.length≤9223372036854775807:=by omega
       have hbl:b<wr.heap.size:=HA3.out.src.1
       obtain ⟨hpc,_,z0,z1,z2,z3,z4,z5⟩:=K3.out
       have HBW:Hid (Below wr.heap.size wr wr):=Below.refl _ _
       by_cases hml:m<L.length
       ·have LY:Hid (Lies wr (L.getD m default)):=(HA3.out.lies _ (getC_mem hml)).kept (HBL.out.trans (HA3.out.bel.mono HBL.out.size))
        have RY:Hid (right (L.getD m default).cut=true):=HA3.out.rise.right _ (List.mem_map_of_mem (getC_mem hml))
        have HE:=Lib.hid (cut_at_map L m)
        obtain ⟨y0,y1,y2,y3,y4,y5⟩:=HA3.out.src.at hml
        generalize L.getD m default=y at LY RY HE y0 y1 y2 y3 y4 y5
        obtain ⟨d,hd⟩:∃ d,cmpC y.cut c.cut=d:=⟨_,rfl⟩
        have HD:=Lib.hid hd
        have HS:Hid (stand (cutAt (L.map RCut.cut) m) c.cut=d):=by unfold Hid; rw [HE.out,← cmpC_right RY.out G1.out]; exact hd
        clear hd HE RY
        go_upto_region 14 with (fail)
        by_cases hd1:d<0
        ·have HM2:Hid (∀ j,j<m+1→stand (cutAt (L.map RCut.cut) j) c.cut<0):=fun j hj=>by
          rcases Nat.lt_or_ge j m with g | g
          ·exact HM.out j g
          ·rw [show j=m by omega,HS.out]; exact hd1
         replace HBW:=Lib.hid HBW.out.drew
         refine wp_region_held_drew (S:=fun w'=>Below wr.heap.size wr w') (by kernel_rfl) HBW.out (fun hHeld=>?_)
         refine tk 0 rfl (.int .i64 m) ?_
         refine tk 1 rfl (.slice (some ⟨b,o,none⟩) L.length cp) ?_
         refine tk 2 rfl (.int .i64 L.length) ?_
         refine tk 3 rfl (.bool true) ?_ fun w' hS'=>by first | (go_simp; done) | (go_simp; omega)
         refine tk 4 rfl (.bool true) ?_
         refine tk 5 rfl (.slice (some ⟨b,o,none⟩) L.length cp) ?_
         refine tk 6 rfl (.int .i64 m) ?_
         refine tk 7 rfl (.pointer (some ⟨b,o+m * 6,none⟩)) ?_
         refine tk 8 rfl y ?_ fun w' hS'=>by have q0:=(hS'.cell (p:=⟨b,o+m * 6,none⟩) hbl).trans y0; have q1:=(hS'.cell (p:=⟨b,o+m * 6+1,none⟩) hbl).trans y1; have q2:=(hS'.cell (p:=⟨b,o+m * 6+2,none⟩) hbl).trans y2; have q3:=(hS'.cell (p:=⟨b,o+m * 6+3,none⟩) hbl).trans y3; have q4:=(hS'.cell (p:=⟨b,o+m * 6+4,none⟩) hbl).trans y4; have q5:=(hS'.cell (p:=⟨b,o+m * 6+5,none⟩) hbl).trans y5; go_simp
         refine tk 9 rfl c ?_ fun w' hS'=>by have q0:=(hS'.cell (p:=⟨pc,0,none⟩) hpc).trans z0; have q1:=(hS'.cell (p:=⟨pc,1,none⟩) hpc).trans z1; have q2:=(hS'.cell (p:=⟨pc,2,none⟩) hpc).trans z2; have q3:=(hS'.cell (p:=⟨pc,3,none⟩) hpc).trans z3; have q4:=(hS'.cell (p:=⟨pc,4,none⟩) hpc).trans z4; have q5:=(hS'.cell (p:=⟨pc,5,none⟩) hpc).trans z5; go_simp
         refine cl 10 rfl fun K hK=>?_
         go_simp
         refine (refCompareC_any y c _ (LY.out.kept HBW.out) (LC.out.kept HBW.out)).mono ?_
         rintro e wf1 ⟨he,hb⟩
         rw [HD.out] at he
         subst he
         replace HBW:=Lib.hid (HBW.out.trans (hb.mono HBW.out.size))
         clear hb hHeld
         refine hK.out _ _ HBW.out (fun hHeld=>?_)
         clear hK K
         try simp only [Act.put,p1,p2,p3]
         refine tk 11 rfl (.bool true) ?_ fun w' hS'=>by first | (go_simp; done) | (go_simp; omega)
         refine tk 12 rfl (.bool true) ?_
         refine wpAnyH_done (by kernel_rfl) ?_ _
         go_wp2
         exact ⟨⟨m+1,by omega,by go_num,HM2.out,HW.out.trans (HBW.out.mono HW.out.size)⟩,by simp [intOf]; omega⟩
        replace HBW:=Lib.hid HBW.out.drew
        refine wp_region_held_drew (S:=fun w'=>Below wr.heap.size wr w') (by kernel_rfl) HBW.out (fun hHeld=>?_)
        refine tk 0 rfl (.int .i64 m) ?_
        refine tk 1 rfl (.slice (some ⟨b,o,none⟩) L.length cp) ?_
        refine tk 2 rfl (.int .i64 L.length) ?_
        refine tk 3 rfl (.bool true) ?_ fun w' hS'=>by first | (go_simp; done) | (go_simp; omega)
        refine tk 4 rfl (.bool true) ?_
        refine tk 5 rfl (.slice (some ⟨b,o,none⟩) L.length cp) ?_
        refine tk 6 rfl (.int .i64 m) ?_
        refine tk 7 rfl (.pointer (some ⟨b,o+m * 6,none⟩)) ?_
        refine tk 8 rfl y ?_ fun w' hS'=>by have q0:=(hS'.cell (p:=⟨b,o+m * 6,none⟩) hbl).trans y0; have q1:=(hS'.cell (p:=⟨b,o+m * 6+1,none⟩) hbl).trans y1; have q2:=(hS'.cell (p:=⟨b,o+m * 6+2,none⟩) hbl).trans y2; have q3:=(hS'.cell (p:=⟨b,o+m * 6+3,none⟩) hbl).trans y3; have q4:=(hS'.cell (p:=⟨b,o+m * 6+4,none⟩) hbl).trans y4; have q5:=(hS'.cell (p:=⟨b,o+m * 6+5,none⟩) hbl).trans y5; go_simp
        refine tk 9 rfl c ?_ fun w' hS'=>by have q0:=(hS'.cell (p:=⟨pc,0,none⟩) hpc).trans z0; have q1:=(hS'.cell (p:=⟨pc,1,none⟩) hpc).trans z1; have q2:=(hS'.cell (p:=⟨pc,2,none⟩) hpc).trans z2; have q3:=(hS'.cell (p:=⟨pc,3,none⟩) hpc).trans z3; have q4:=(hS'.cell (p:=⟨pc,4,none⟩) hpc).trans z4; have q5:=(hS'.cell (p:=⟨pc,5,none⟩) hpc).trans z5; go_simp
        refine cl 10 rfl fun K hK=>?_
        go_simp
        refine (refCompareC_any y c _ (LY.out.kept HBW.out) (LC.out.kept HBW.out)).mono ?_
        rintro e wf1 ⟨he,hb⟩
        rw [HD.out] at he
        subst he
        replace HBW:=Lib.hid (HBW.out.trans (hb.mono HBW.out.size))
        clear hb hHeld
        refine hK.out _ _ HBW.out (fun hHeld=>?_)
        clear hK K
        try simp only [Act.put,p1,p2,p3]
        refine tk 11 rfl (.bool false) ?_ fun w' hS'=>by first | (go_simp; done) | (go_simp; omega)
        refine tk 12 rfl (.bool false) ?_
        refine wpAnyH_done (by kernel_rfl) ?_ _
        go_upto_region 16 with (fail)
        by_cases hd0:d=0
        ·have HT2:=Lib.hid (HNX.out _ (fun x h=>h) (fun _=>⟨m,by rw [List.length_map]; exact hml,by rw [HS.out]; exact hd0⟩))
         replace HBW:=Lib.hid HBW.out.drew
         refine wp_region_held_drew (S:=fun w'=>Below wr.heap.size wr w') (by kernel_rfl) HBW.out (fun hHeld=>?_)
         refine tk 0 rfl (.int .i64 m) ?_
         refine tk 1 rfl (.slice (some ⟨b,o,none⟩) L.length cp) ?_
         refine tk 2 rfl (.int .i64 L.length) ?_
         refine tk 3 rfl (.bool true) ?_ fun w' hS'=>by first | (go_simp; done) | (go_simp; omega)
         refine tk 4 rfl (.bool true) ?_
         refine tk 5 rfl (.slice (some ⟨b,o,none⟩) L.length cp) ?_
         refine tk 6 rfl (.int .i64 m) ?_
         refine tk 7 rfl (.pointer (some ⟨b,o+m * 6,none⟩)) ?_
         refine tk 8 rfl y ?_ fun w' hS'=>by have q0:=(hS'.cell (p:=⟨b,o+m * 6,none⟩) hbl).trans y0; have q1:=(hS'.cell (p:=⟨b,o+m * 6+1,none⟩) hbl).trans y1; have q2:=(hS'.cell (p:=⟨b,o+m * 6+2,none⟩) hbl).trans y2; have q3:=(hS'.cell (p:=⟨b,o+m * 6+3,none⟩) hbl).trans y3; have q4:=(hS'.cell (p:=⟨b,o+m * 6+4,none⟩) hbl).trans y4; have q5:=(hS'.cell (p:=⟨b,o+m * 6+5,none⟩) hbl).trans y5; go_simp
         refine tk 9 rfl c ?_ fun w' hS'=>by have q0:=(hS'.cell (p:=⟨pc,0,none⟩) hpc).trans z0; have q1:=(hS'.cell (p:=⟨pc,1,none⟩) hpc).trans z1; have q2:=(hS'.cell (p:=⟨pc,2,none⟩) hpc).trans z2; have q3:=(hS'.cell (p:=⟨pc,3,none⟩) hpc).trans z3; have q4:=(hS'.cell (p:=⟨pc,4,none⟩) hpc).trans z4; have q5:=(hS'.cell (p:=⟨pc,5,none⟩) hpc).trans z5; go_simp
         refine cl 10 rfl fun K hK=>?_
         go_simp
         refine (refCompareC_any y c _ (LY.out.kept HBW.out) (LC.out.kept HBW.out)).mono ?_
         rintro e wg1 ⟨he,hb⟩
         rw [HD.out] at he
         subst he
         replace HBW:=Lib.hid (HBW.out.trans (hb.mono HBW.out.size))
         clear hb hHeld
         refine hK.out _ _ HBW.out (fun hHeld=>?_)
         clear hK K
         try simp only [Act.put,p1,p2,p3]
         refine tk 11 rfl (.bool true) ?_ fun w' hS'=>by first | (go_simp; done) | (go_simp; omega)
         refine tk 12 rfl (.bool true) ?_
         refine wpAnyH_done (by kernel_rfl) ?_ _
         have HA4:=Lib.hid (HA3.out.kept HBW.out)
         go_wp2
         exact ⟨⟨1,b,o,cp,L,by omega,by go_num,rfl,HA4.out,HH.out,HT2.out,by omega⟩,by simp [intOf]⟩
        have HJ:Hid (m=(L.map RCut.cut).length∨0<stand (cutAt (L.map RCut.cut) m) c.cut):=.inr (by rw [HS.out]; omega)
        replace HBW:=Lib.hid HBW.out.drew
        refine wp_region_held_drew (S:=fun w'=>Below wr.heap.size wr w') (by kernel_rfl) HBW.out (fun hHeld=>?_)
        refine tk 0 rfl (.int .i64 m) ?_
        refine tk 1 rfl (.slice (some ⟨b,o,none⟩) L.length cp) ?_
        refine tk 2 rfl (.int .i64 L.length) ?_
        refine tk 3 rfl (.bool true) ?_ fun w' hS'=>by first | (go_simp; done) | (go_simp; omega)
        refine tk 4 rfl (.bool true) ?_
        refine tk 5 rfl (.slice (some ⟨b,o,none⟩) L.length cp) ?_
        refine tk 6 rfl (.int .i64 m) ?_
        refine tk 7 rfl (.pointer (some ⟨b,o+m * 6,none⟩)) ?_
        refine tk 8 rfl y ?_ fun w' hS'=>by have q0:=(hS'.cell (p:=⟨b,o+m * 6,none⟩) hbl).trans y0; have q1:=(hS'.cell (p:=⟨b,o+m * 6+1,none⟩) hbl).trans y1; have q2:=(hS'.cell (p:=⟨b,o+m * 6+2,none⟩) hbl).trans y2; have q3:=(hS'.cell (p:=⟨b,o+m * 6+3,none⟩) hbl).trans y3; have q4:=(hS'.cell (p:=⟨b,o+m * 6+4,none⟩) hbl).trans y4; have q5:=(hS'.cell (p:=⟨b,o+m * 6+5,none⟩) hbl).trans y5; go_simp
        refine tk 9 rfl c ?_ fun w' hS'=>by have q0:=(hS'.cell (p:=⟨pc,0,none⟩) hpc).trans z0; have q1:=(hS'.cell (p:=⟨pc,1,none⟩) hpc).trans z1; have q2:=(hS'.cell (p:=⟨pc,2,none⟩) hpc).trans z2; have q3:=(hS'.cell (p:=⟨pc,3,none⟩) hpc).trans z3; have q4:=(hS'.cell (p:=⟨pc,4,none⟩) hpc).trans z4; have q5:=(hS'.cell (p:=⟨pc,5,none⟩) hpc).trans z5; go_simp
        refine cl 10 rfl fun K hK=>?_
        go_simp
        refine (refCompareC_any y c _ (LY.out.kept HBW.out) (LC.out.kept HBW.out)).mono ?_
        rintro e wg1 ⟨he,hb⟩
        rw [HD.out] at he
        subst he
        replace HBW:=Lib.hid (HBW.out.trans (hb.mono HBW.out.size))
        clear hb hHeld
        refine hK.out _ _ HBW.out (fun hHeld=>?_)
        clear hK K
        try simp only [Act.put,p1,p2,p3]
        refine tk 11 rfl (.bool false) ?_ fun w' hS'=>by first | (go_simp; done) | (go_simp; omega)
        refine tk 12 rfl (.bool false) ?_
        refine wpAnyH_done (by kernel_rfl) ?_ _
        clear y0 y1 y2 y3 y4 y5 LY HD HS hd0 hd1
        go_upto_region 17 with (fail)
        generalize wg1=wz at HBW ⊢
        have HA7:=Lib.hid (HA3.out.kept HBW.out)
        have K7:=Lib.hid (K3.out.kept HBW.out hpc)
        refine ins17 w w5 wz b o cp m pc L c _ _ _ _ _ _ _ _ _ _ _ _ _ _ _ _ _ _ _ _ _ _ _ _ _ _ _ _ _ _ _ _ _ _ _ _ _ _ _ _ _ _ _ _ _ _ _ _ _ _ _ _ _ _ _ _ _ _ _ _ _ _ _ _ _ _ _ _ _ _ _ _ _ _ _ _ _ _ _ _ _ _ hm (by omega) HA7.out K7.out (fun _ _ _ _ _ h=>h) ?_
        intro g' cp' L' W' t0 t1 t2 t3 t4 t5 t6 t7 t8 t9 t10 t11 hL' k3 k1 k2 hB
        have HLL:=Lib.hid hL'
        have hl2:L'.length=L.length+1:=by rw [← hL']; simp; omega
        have HF1:Hid (Rise (L'.map RCut.cut)):=by unfold Hid; rw [← hL',ins_map]; exact HA3.out.rise.ins G1.out HM.out (by rw [List.length_map]; exact hm) HJ.out
        have HF2:Hid (∀ r ∈ L',Lies w r):=fun x hx=>by
         rw [← HLL.out] at hx
         rcases List.mem_append.1 hx with hx | hx
         ·exact HA3.out.lies x (List.mem_of_mem_take hx)
         ·rcases List.mem_cons.1 hx with rfl | hx
          ·exact LCW.out
          ·exact HA3.out.lies x (List.mem_of_mem_drop hx)
        have HF3:Hid (HitsAll (L'.map RCut.cut) ((all.take k).map RSp.sp)):=by unfold Hid; rw [← hL',ins_map]; exact HH.out.more ins_mem
        have HF4:=Lib.hid (HNX.out (L'.map RCut.cut) (by rw [← hL',ins_map]; exact ins_mem) (fun _=>by rw [← hL',ins_map]; exact ins_hits))
        have HAF:Hid (CutsAt w w5 g' 0 cp' L' W'):=⟨k3,HF2.out,HF1.out,k1,k2,HA7.out.bel.trans (hB.mono HA7.out.bel.size)⟩
        clear hL' hB k1 k2 k3 HJ
        go_wp2
        exact ⟨⟨1,g',0,cp',L',by omega,by go_num,rfl,HAF.out,HF3.out,HF4.out,by omega⟩,by simp [intOf]⟩
       ·have HJ:Hid (m=(L.map RCut.cut).length∨0<stand (cutAt (L.map RCut.cut) m) c.cut):=.inl (by rw [List.length_map]; omega)
        go_upto_region 14 with (fail)
        replace HBW:=Lib.hid HBW.out.drew
        refine wp_region_held_drew (S:=fun w'=>Below wr.heap.size wr w') (by kernel_rfl) HBW.out (fun hHeld=>?_)
        refine tk 0 rfl (.int .i64 m) ?_
        refine tk 1 rfl (.slice (some ⟨b,o,none⟩) L.length cp) ?_
        refine tk 2 rfl (.int .i64 L.length) ?_
        refine tk 3 rfl (.bool false) ?_ fun w' hS'=>by first | (go_simp; done) | (go_simp; omega)
        refine tk 4 rfl (.bool false) ?_
        refine sk 5 rfl ?_
        refine sk 6 rfl ?_
        refine sk 7 rfl ?_
        refine sk 8 rfl ?_
        refine sk 9 rfl ?_
        refine sk 10 rfl ?_
        refine sk 11 rfl ?_
        refine tk 12 rfl (.bool false) ?_
        refine wpAnyH_done (by kernel_rfl) ?_ _
        go_upto_region 16 with (fail)
        replace HBW:=Lib.hid HBW.out.drew
        refine wp_region_held_drew (S:=fun w'=>Below wr.heap.size wr w') (by kernel_rfl) HBW.out (fun hHeld=>?_)
        refine tk 0 rfl (.int .i64 m) ?_
        refine tk 1 rfl (.slice (some ⟨b,o,none⟩) L.length cp) ?_
        refine tk 2 rfl (.int .i64 L.length) ?_
        refine tk 3 rfl (.bool false) ?_ fun w' hS'=>by first | (go_simp; done) | (go_simp; omega)
        refine tk 4 rfl (.bool false) ?_
        refine sk 5 rfl ?_
        refine sk 6 rfl ?_
        refine sk 7 rfl ?_
        refine sk 8 rfl ?_
        refine sk 9 rfl ?_
        refine sk 10 rfl ?_
        refine sk 11 rfl ?_
        refine tk 12 rfl (.bool false) ?_
        refine wpAnyH_done (by kernel_rfl) ?_ _
        go_upto_region 17 with (fail)
        generalize wr.drew.drew=wz at HBW ⊢
        have HA7:=Lib.hid (HA3.out.kept HBW.out)
        have K7:=Lib.hid (K3.out.kept HBW.out hpc)
        refine ins17 w w5 wz b o cp m pc L c _ _ _ _ _ _ _ _ _ _ _ _ _ _ _ _ _ _ _ _ _ _ _ _ _ _ _ _ _ _ _ _ _ _ _ _ _ _ _ _ _ _ _ _ _ _ _ _ _ _ _ _ _ _ _ _ _ _ _ _ _ _ _ _ _ _ _ _ _ _ _ _ _ _ _ _ _ _ _ _ _ _ hm (by omega) HA7.out K7.out (fun _ _ _ _ _ h=>h) ?_
        intro g' cp' L' W' t0 t1 t2 t3 t4 t5 t6 t7 t8 t9 t10 t11 hL' k3 k1 k2 hB
        have HLL:=Lib.hid hL'
        have hl2:L'.length=L.length+1:=by rw [← hL']; simp; omega
        have HF1:Hid (Rise (L'.map RCut.cut)):=by unfold Hid; rw [← hL',ins_map]; exact HA3.out.rise.ins G1.out HM.out (by rw [List.length_map]; exact hm) HJ.out
        have HF2:Hid (∀ r ∈ L',Lies w r):=fun x hx=>by
         rw [← HLL.out] at hx
         rcases List.mem_append.1 hx with hx | hx
         ·exact HA3.out.lies x (List.mem_of_mem_take hx)
         ·rcases List.mem_cons.1 hx with rfl | hx
          ·exact LCW.out
          ·exact HA3.out.lies x (List.mem_of_mem_drop hx)
        have HF3:Hid (HitsAll (L'.map RCut.cut) ((all.take k).map RSp.sp)):=by unfold Hid; rw [← hL',ins_map]; exact HH.out.more ins_mem
        have HF4:=Lib.hid (HNX.out (L'.map RCut.cut) (by rw [← hL',ins_map]; exact ins_mem) (fun _=>by rw [← hL',ins_map]; exact ins_hits))
        have HAF:Hid (CutsAt w w5 g' 0 cp' L' W'):=⟨k3,HF2.out,HF1.out,k1,k2,HA7.out.bel.trans (hB.mono HA7.out.bel.size)⟩
        clear hL' hB k1 k2 k3 HJ
        go_wp2
        exact ⟨⟨1,g',0,cp',L',by omega,by go_num,rfl,HAF.out,HF3.out,HF4.out,by omega⟩,by simp [intOf]⟩
     ·have HNX:Hid (∀ M:List Cut,(∀ x ∈ L.map RCut.cut,x ∈ M)→(right s.hi.cut=true→Hits M s.hi.cut)→Two M (all.getD k default).sp 2):=fun M h1 h2=>by have h3:=HT.out.1 (by omega); rw [hs] at h3 ⊢; exact ⟨fun _ g=>(h3 g).more h1,fun _=>h2⟩
      have LC:=Lib.hid LS.out.hi
      clear hs LS
      go_upto_region 12 with (fail)
      clear x0 x1 x2 x3 x4 x5 x6 x7 x8 x9 x10 x11
      generalize s.hi=c at HNX LC ⊢
      have A1:Hid (Below wr.heap.size wr (wr.alloc c)):=(Below.refl _ _).alloc (Nat.le_refl _) _
      have K1:Hid (At6B (wr.alloc c) wr.heap.size c.kind c.v.a c.v.b c.v.c (.slice c.A c.v.pre.length c.c) (.slice c.B c.v.build.length c.d)):=At6B.new wr _ _ _ _ _ _ _
      generalize (wr.alloc c)=w1 at A1 K1 ⊢
      have HA1:=Lib.hid (HA.out.kept A1.out)
      obtain ⟨pc,hpc0⟩:∃ pc,wr.heap.size=pc:=⟨_,rfl⟩
      rw [hpc0] at K1 ⊢
      clear hpc0 A1 HA
      have LC1:=Lib.hid (LC.out.kept (HBL.out.trans (HA1.out.bel.mono HBL.out.size)))
      obtain ⟨_,_,z0,z1,z2,z3,z4,z5⟩:=K1.out
      go_wp2_with fail
      refine (refRight_any c _ LC1.out).mono ?_
      rintro e w2 ⟨rfl,hb⟩
      have HA2:=Lib.hid (HA1.out.kept hb)
      have K2:=Lib.hid (K1.out.kept hb K1.out.1)
      clear hb HA1 K1 LC1 z0 z1 z2 z3 z4 z5
      cases g1:right c.cut
      ·have HT2:=Lib.hid (HNX.out _ (fun x h=>h) (fun h=>by rw [g1] at h; cases h))
       clear g1
       go_wp2
       exact ⟨⟨2,b,o,cp,L,by omega,by go_num,rfl,HA2.out,HH.out,HT2.out,by omega⟩,by simp [intOf]⟩
      have G1:=Lib.hid g1
      clear g1
      go_wp2
      go_loopw [10] (fun i W=>∃ m:Nat,m≤L.length∧i=.int .i64 m∧Hid (∀ j,j<m→stand (cutAt (L.map RCut.cut) j) c.cut<0)∧Hid (Below w2.heap.size w2 W)) (fun i _=>L.length - (intOf i).toNat)
      case atStart=>exact ⟨0,Nat.zero_le _,rfl,(fun j hj=>by omega),Below.refl _ _⟩
      case round =>
       obtain ⟨m,hm,rfl,HM,HW⟩:=hrel
       have HA3:=Lib.hid (HA2.out.kept HW.out)
       have K3:=Lib.hid (K2.out.kept HW.out K2.out.1)
       have LCW:=Lib.hid LC.out
       replace LC:=Lib.hid (LC.out.kept (HBL.out.trans (HA3.out.bel.mono HBL.out.size)))
       have hlm:L.length≤9223372036854775807:=by omega
       have hbl:b<wr.heap.size:=HA3.out.src.1
       obtain ⟨hpc,_,z0,z1,z2,z3,z4,z5⟩:=K3.out
       have HBW:Hid (Below wr.heap.size wr wr):=Below.refl _ _
       by_cases hml:m<L.length
       ·have LY:Hid (Lies wr (L.getD m default)):=(HA3.out.lies _ (getC_mem hml)).kept (HBL.out.trans (HA3.out.bel.mono HBL.out.size))
        have RY:Hid (right (L.getD m default).cut=true):=HA3.out.rise.right _ (List.mem_map_of_mem (getC_mem hml))
        have HE:=Lib.hid (cut_at_map L m)
        obtain ⟨y0,y1,y2,y3,y4,y5⟩:=HA3.out.src.at hml
        generalize L.getD m default=y at LY RY HE y0 y1 y2 y3 y4 y5
        obtain ⟨d,hd⟩:∃ d,cmpC y.cut c.cut=d:=⟨_,rfl⟩
        have HD:=Lib.hid hd
        have HS:Hid (stand (cutAt (L.map RCut.cut) m) c.cut=d):=by unfold Hid; rw [HE.out,← cmpC_right RY.out G1.out]; exact hd
        clear hd HE RY
        go_upto_region 14 with (fail)
        by_cases hd1:d<0
        ·have HM2:Hid (∀ j,j<m+1→stand (cutAt (L.map RCut.cut) j) c.cut<0):=fun j hj=>by
          rcases Nat.lt_or_ge j m with g | g
          ·exact HM.out j g
          ·rw [show j=m by omega,HS.out]; exact hd1
         replace HBW:=Lib.hid HBW.out.drew
         refine wp_region_held_drew (S:=fun w'=>Below wr.heap.size wr w') (by kernel_rfl) HBW.out (fun hHeld=>?_)
         refine tk 0 rfl (.int .i64 m) ?_
         refine tk 1 rfl (.slice (some ⟨b,o,none⟩) L.length cp) ?_
         refine tk 2 rfl (.int .i64 L.length) ?_
         refine tk 3 rfl (.bool true) ?_ fun w' hS'=>by first | (go_simp; done) | (go_simp; omega)
         refine tk 4 rfl (.bool true) ?_
         refine tk 5 rfl (.slice (some ⟨b,o,none⟩) L.length cp) ?_
         refine tk 6 rfl (.int .i64 m) ?_
         refine tk 7 rfl (.pointer (some ⟨b,o+m * 6,none⟩)) ?_
         refine tk 8 rfl y ?_ fun w' hS'=>by have q0:=(hS'.cell (p:=⟨b,o+m * 6,none⟩) hbl).trans y0; have q1:=(hS'.cell (p:=⟨b,o+m * 6+1,none⟩) hbl).trans y1; have q2:=(hS'.cell (p:=⟨b,o+m * 6+2,none⟩) hbl).trans y2; have q3:=(hS'.cell (p:=⟨b,o+m * 6+3,none⟩) hbl).trans y3; have q4:=(hS'.cell (p:=⟨b,o+m * 6+4,none⟩) hbl).trans y4; have q5:=(hS'.cell (p:=⟨b,o+m * 6+5,none⟩) hbl).trans y5; go_simp
         refine tk 9 rfl c ?_ fun w' hS'=>by have q0:=(hS'.cell (p:=⟨pc,0,none⟩) hpc).trans z0; have q1:=(hS'.cell (p:=⟨pc,1,none⟩) hpc).trans z1; have q2:=(hS'.cell (p:=⟨pc,2,none⟩) hpc).trans z2; have q3:=(hS'.cell (p:=⟨pc,3,none⟩) hpc).trans z3; have q4:=(hS'.cell (p:=⟨pc,4,none⟩) hpc).trans z4; have q5:=(hS'.cell (p:=⟨pc,5,none⟩) hpc).trans z5; go_simp
         refine cl 10 rfl fun K hK=>?_
         go_simp
         refine (refCompareC_any y c _ (LY.out.kept HBW.out) (LC.out.kept HBW.out)).mono ?_
         rintro e wf1 ⟨he,hb⟩
         rw [HD.out] at he
         subst he
         replace HBW:=Lib.hid (HBW.out.trans (hb.mono HBW.out.size))
         clear hb hHeld
         refine hK.out _ _ HBW.out (fun hHeld=>?_)
         clear hK K
         try simp only [Act.put,p1,p2,p3]
         refine tk 11 rfl (.bool true) ?_ fun w' hS'=>by first | (go_simp; done) | (go_simp; omega)
         refine tk 12 rfl (.bool true) ?_
         refine wpAnyH_done (by kernel_rfl) ?_ _
         go_wp2
         exact ⟨⟨m+1,by omega,by go_num,HM2.out,HW.out.trans (HBW.out.mono HW.out.size)⟩,by simp [intOf]; omega⟩
        replace HBW:=Lib.hid HBW.out.drew
        refine wp_region_held_drew (S:=fun w'=>Below wr.heap.size wr w') (by kernel_rfl) HBW.out (fun hHeld=>?_)
        refine tk 0 rfl (.int .i64 m) ?_
        refine tk 1 rfl (.slice (some ⟨b,o,none⟩) L.length cp) ?_
        refine tk 2 rfl (.int .i64 L.length) ?_
        refine tk 3 rfl (.bool true) ?_ fun w' hS'=>by first | (go_simp; done) | (go_simp; omega)
        refine tk 4 rfl (.bool true) ?_
        refine tk 5 rfl (.slice (some ⟨b,o,none⟩) L.length cp) ?_
        refine tk 6 rfl (.int .i64 m) ?_
        refine tk 7 rfl (.pointer (some ⟨b,o+m * 6,none⟩)) ?_
        refine tk 8 rfl y ?_ fun w' hS'=>by have q0:=(hS'.cell (p:=⟨b,o+m * 6,none⟩) hbl).trans y0; have q1:=(hS'.cell (p:=⟨b,o+m * 6+1,none⟩) hbl).trans y1; have q2:=(hS'.cell (p:=⟨b,o+m * 6+2,none⟩) hbl).trans y2; have q3:=(hS'.cell (p:=⟨b,o+m * 6+3,none⟩) hbl).trans y3; have q4:=(hS'.cell (p:=⟨b,o+m * 6+4,none⟩) hbl).trans y4; have q5:=(hS'.cell (p:=⟨b,o+m * 6+5,none⟩) hbl).trans y5; go_simp
        refine tk 9 rfl c ?_ fun w' hS'=>by have q0:=(hS'.cell (p:=⟨pc,0,none⟩) hpc).trans z0; have q1:=(hS'.cell (p:=⟨pc,1,none⟩) hpc).trans z1; have q2:=(hS'.cell (p:=⟨pc,2,none⟩) hpc).trans z2; have q3:=(hS'.cell (p:=⟨pc,3,none⟩) hpc).trans z3; have q4:=(hS'.cell (p:=⟨pc,4,none⟩) hpc).trans z4; have q5:=(hS'.cell (p:=⟨pc,5,none⟩) hpc).trans z5; go_simp
        refine cl 10 rfl fun K hK=>?_
        go_simp
        refine (refCompareC_any y c _ (LY.out.kept HBW.out) (LC.out.kept HBW.out)).mono ?_
        rintro e wf1 ⟨he,hb⟩
        rw [HD.out] at he
        subst he
        replace HBW:=Lib.hid (HBW.out.trans (hb.mono HBW.out.size))
        clear hb hHeld
        refine hK.out _ _ HBW.out (fun hHeld=>?_)
        clear hK K
        try simp only [Act.put,p1,p2,p3]
        refine tk 11 rfl (.bool false) ?_ fun w' hS'=>by first | (go_simp; done) | (go_simp; omega)
        refine tk 12 rfl (.bool false) ?_
        refine wpAnyH_done (by kernel_rfl) ?_ _
        go_upto_region 16 with (fail)
        by_cases hd0:d=0
        ·have HT2:=Lib.hid (HNX.out _ (fun x h=>h) (fun _=>⟨m,by rw [List.length_map]; exact hml,by rw [HS.out]; exact hd0⟩))
         replace HBW:=Lib.hid HBW.out.drew
         refine wp_region_held_drew (S:=fun w'=>Below wr.heap.size wr w') (by kernel_rfl) HBW.out (fun hHeld=>?_)
         refine tk 0 rfl (.int .i64 m) ?_
         refine tk 1 rfl (.slice (some ⟨b,o,none⟩) L.length cp) ?_
         refine tk 2 rfl (.int .i64 L.length) ?_
         refine tk 3 rfl (.bool true) ?_ fun w' hS'=>by first | (go_simp; done) | (go_simp; omega)
         refine tk 4 rfl (.bool true) ?_
         refine tk 5 rfl (.slice (some ⟨b,o,none⟩) L.length cp) ?_
         refine tk 6 rfl (.int .i64 m) ?_
         refine tk 7 rfl (.pointer (some ⟨b,o+m * 6,none⟩)) ?_
         refine tk 8 rfl y ?_ fun w' hS'=>by have q0:=(hS'.cell (p:=⟨b,o+m * 6,none⟩) hbl).trans y0; have q1:=(hS'.cell (p:=⟨b,o+m * 6+1,none⟩) hbl).trans y1; have q2:=(hS'.cell (p:=⟨b,o+m * 6+2,none⟩) hbl).trans y2; have q3:=(hS'.cell (p:=⟨b,o+m * 6+3,none⟩) hbl).trans y3; have q4:=(hS'.cell (p:=⟨b,o+m * 6+4,none⟩) hbl).trans y4; have q5:=(hS'.cell (p:=⟨b,o+m * 6+5,none⟩) hbl).trans y5; go_simp
         refine tk 9 rfl c ?_ fun w' hS'=>by have q0:=(hS'.cell (p:=⟨pc,0,none⟩) hpc).trans z0; have q1:=(hS'.cell (p:=⟨pc,1,none⟩) hpc).trans z1; have q2:=(hS'.cell (p:=⟨pc,2,none⟩) hpc).trans z2; have q3:=(hS'.cell (p:=⟨pc,3,none⟩) hpc).trans z3; have q4:=(hS'.cell (p:=⟨pc,4,none⟩) hpc).trans z4; have q5:=(hS'.cell (p:=⟨pc,5,none⟩) hpc).trans z5; go_simp
         refine cl 10 rfl fun K hK=>?_
         go_simp
         refine (refCompareC_any y c _ (LY.out.kept HBW.out) (LC.out.kept HBW.out)).mono ?_
         rintro e wg1 ⟨he,hb⟩
         rw [HD.out] at he
         subst he
         replace HBW:=Lib.hid (HBW.out.trans (hb.mono HBW.out.size))
         clear hb hHeld
         refine hK.out _ _ HBW.out (fun hHeld=>?_)
         clear hK K
         try simp only [Act.put,p1,p2,p3]
         refine tk 11 rfl (.bool true) ?_ fun w' hS'=>by first | (go_simp; done) | (go_simp; omega)
         refine tk 12 rfl (.bool true) ?_
         refine wpAnyH_done (by kernel_rfl) ?_ _
         have HA4:=Lib.hid (HA3.out.kept HBW.out)
         go_wp2
         exact ⟨⟨2,b,o,cp,L,by omega,by go_num,rfl,HA4.out,HH.out,HT2.out,by omega⟩,by simp [intOf]⟩
        have HJ:Hid (m=(L.map RCut.cut).length∨0<stand (cutAt (L.map RCut.cut) m) c.cut):=.inr (by rw [HS.out]; omega)
        replace HBW:=Lib.hid HBW.out.drew
        refine wp_region_held_drew (S:=fun w'=>Below wr.heap.size wr w') (by kernel_rfl) HBW.out (fun hHeld=>?_)
        refine tk 0 rfl (.int .i64 m) ?_
        refine tk 1 rfl (.slice (some ⟨b,o,none⟩) L.length cp) ?_
        refine tk 2 rfl (.int .i64 L.length) ?_
        refine tk 3 rfl (.bool true) ?_ fun w' hS'=>by first | (go_simp; done) | (go_simp; omega)
        refine tk 4 rfl (.bool true) ?_
        refine tk 5 rfl (.slice (some ⟨b,o,none⟩) L.length cp) ?_
        refine tk 6 rfl (.int .i64 m) ?_
        refine tk 7 rfl (.pointer (some ⟨b,o+m * 6,none⟩)) ?_
        refine tk 8 rfl y ?_ fun w' hS'=>by have q0:=(hS'.cell (p:=⟨b,o+m * 6,none⟩) hbl).trans y0; have q1:=(hS'.cell (p:=⟨b,o+m * 6+1,none⟩) hbl).trans y1; have q2:=(hS'.cell (p:=⟨b,o+m * 6+2,none⟩) hbl).trans y2; have q3:=(hS'.cell (p:=⟨b,o+m * 6+3,none⟩) hbl).trans y3; have q4:=(hS'.cell (p:=⟨b,o+m * 6+4,none⟩) hbl).trans y4; have q5:=(hS'.cell (p:=⟨b,o+m * 6+5,none⟩) hbl).trans y5; go_simp
        refine tk 9 rfl c ?_ fun w' hS'=>by have q0:=(hS'.cell (p:=⟨pc,0,none⟩) hpc).trans z0; have q1:=(hS'.cell (p:=⟨pc,1,none⟩) hpc).trans z1; have q2:=(hS'.cell (p:=⟨pc,2,none⟩) hpc).trans z2; have q3:=(hS'.cell (p:=⟨pc,3,none⟩) hpc).trans z3; have q4:=(hS'.cell (p:=⟨pc,4,none⟩) hpc).trans z4; have q5:=(hS'.cell (p:=⟨pc,5,none⟩) hpc).trans z5; go_simp
        refine cl 10 rfl fun K hK=>?_
        go_simp
        refine (refCompareC_any y c _ (LY.out.kept HBW.out) (LC.out.kept HBW.out)).mono ?_
        rintro e wg1 ⟨he,hb⟩
        rw [HD.out] at he
        subst he
        replace HBW:=Lib.hid (HBW.out.trans (hb.mono HBW.out.size))
        clear hb hHeld
        refine hK.out _ _ HBW.out (fun hHeld=>?_)
        clear hK K
        try simp only [Act.put,p1,p2,p3]
        refine tk 11 rfl (.bool false) ?_ fun w' hS'=>by first | (go_simp; done) | (go_simp; omega)
        refine tk 12 rfl (.bool false) ?_
        refine wpAnyH_done (by kernel_rfl) ?_ _
        clear y0 y1 y2 y3 y4 y5 LY HD HS hd0 hd1
        go_upto_region 17 with (fail)
        generalize wg1=wz at HBW ⊢
        have HA7:=Lib.hid (HA3.out.kept HBW.out)
        have K7:=Lib.hid (K3.out.kept HBW.out hpc)
        refine ins17 w w5 wz b o cp m pc L c _ _ _ _ _ _ _ _ _ _ _ _ _ _ _ _ _ _ _ _ _ _ _ _ _ _ _ _ _ _ _ _ _ _ _ _ _ _ _ _ _ _ _ _ _ _ _ _ _ _ _ _ _ _ _ _ _ _ _ _ _ _ _ _ _ _ _ _ _ _ _ _ _ _ _ _ _ _ _ _ _ _ hm (by omega) HA7.out K7.out (fun _ _ _ _ _ h=>h) ?_
        intro g' cp' L' W' t0 t1 t2 t3 t4 t5 t6 t7 t8 t9 t10 t11 hL' k3 k1 k2 hB
        have HLL:=Lib.hid hL'
        have hl2:L'.length=L.length+1:=by rw [← hL']; simp; omega
        have HF1:Hid (Rise (L'.map RCut.cut)):=by unfold Hid; rw [← hL',ins_map]; exact HA3.out.rise.ins G1.out HM.out (by rw [List.length_map]; exact hm) HJ.out
        have HF2:Hid (∀ r ∈ L',Lies w r):=fun x hx=>by
         rw [← HLL.out] at hx
         rcases List.mem_append.1 hx with hx | hx
         ·exact HA3.out.lies x (List.mem_of_mem_take hx)
         ·rcases List.mem_cons.1 hx with rfl | hx
          ·exact LCW.out
          ·exact HA3.out.lies x (List.mem_of_mem_drop hx)
        have HF3:Hid (HitsAll (L'.map RCut.cut) ((all.take k).map RSp.sp)):=by unfold Hid; rw [← hL',ins_map]; exact HH.out.more ins_mem
        have HF4:=Lib.hid (HNX.out (L'.map RCut.cut) (by rw [← hL',ins_map]; exact ins_mem) (fun _=>by rw [← hL',ins_map]; exact ins_hits))
        have HAF:Hid (CutsAt w w5 g' 0 cp' L' W'):=⟨k3,HF2.out,HF1.out,k1,k2,HA7.out.bel.trans (hB.mono HA7.out.bel.size)⟩
        clear hL' hB k1 k2 k3 HJ
        go_wp2
        exact ⟨⟨2,g',0,cp',L',by omega,by go_num,rfl,HAF.out,HF3.out,HF4.out,by omega⟩,by simp [intOf]⟩
       ·have HJ:Hid (m=(L.map RCut.cut).length∨0<stand (cutAt (L.map RCut.cut) m) c.cut):=.inl (by rw [List.length_map]; omega)
        go_upto_region 14 with (fail)
        replace HBW:=Lib.hid HBW.out.drew
        refine wp_region_held_drew (S:=fun w'=>Below wr.heap.size wr w') (by kernel_rfl) HBW.out (fun hHeld=>?_)
        refine tk 0 rfl (.int .i64 m) ?_
        refine tk 1 rfl (.slice (some ⟨b,o,none⟩) L.length cp) ?_
        refine tk 2 rfl (.int .i64 L.length) ?_
        refine tk 3 rfl (.bool false) ?_ fun w' hS'=>by first | (go_simp; done) | (go_simp; omega)
        refine tk 4 rfl (.bool false) ?_
        refine sk 5 rfl ?_
        refine sk 6 rfl ?_
        refine sk 7 rfl ?_
        refine sk 8 rfl ?_
        refine sk 9 rfl ?_
        refine sk 10 rfl ?_
        refine sk 11 rfl ?_
        refine tk 12 rfl (.bool false) ?_
        refine wpAnyH_done (by kernel_rfl) ?_ _
        go_upto_region 16 with (fail)
        replace HBW:=Lib.hid HBW.out.drew
        refine wp_region_held_drew (S:=fun w'=>Below wr.heap.size wr w') (by kernel_rfl) HBW.out (fun hHeld=>?_)
        refine tk 0 rfl (.int .i64 m) ?_
        refine tk 1 rfl (.slice (some ⟨b,o,none⟩) L.length cp) ?_
        refine tk 2 rfl (.int .i64 L.length) ?_
        refine tk 3 rfl (.bool false) ?_ fun w' hS'=>by first | (go_simp; done) | (go_simp; omega)
        refine tk 4 rfl (.bool false) ?_
        refine sk 5 rfl ?_
        refine sk 6 rfl ?_
        refine sk 7 rfl ?_
        refine sk 8 rfl ?_
        refine sk 9 rfl ?_
        refine sk 10 rfl ?_
        refine sk 11 rfl ?_
        refine tk 12 rfl (.bool false) ?_
        refine wpAnyH_done (by kernel_rfl) ?_ _
        go_upto_region 17 with (fail)
        generalize wr.drew.drew=wz at HBW ⊢
        have HA7:=Lib.hid (HA3.out.kept HBW.out)
        have K7:=Lib.hid (K3.out.kept HBW.out hpc)
        refine ins17 w w5 wz b o cp m pc L c _ _ _ _ _ _ _ _ _ _ _ _ _ _ _ _ _ _ _ _ _ _ _ _ _ _ _ _ _ _ _ _ _ _ _ _ _ _ _ _ _ _ _ _ _ _ _ _ _ _ _ _ _ _ _ _ _ _ _ _ _ _ _ _ _ _ _ _ _ _ _ _ _ _ _ _ _ _ _ _ _ _ hm (by omega) HA7.out K7.out (fun _ _ _ _ _ h=>h) ?_
        intro g' cp' L' W' t0 t1 t2 t3 t4 t5 t6 t7 t8 t9 t10 t11 hL' k3 k1 k2 hB
        have HLL:=Lib.hid hL'
        have hl2:L'.length=L.length+1:=by rw [← hL']; simp; omega
        have HF1:Hid (Rise (L'.map RCut.cut)):=by unfold Hid; rw [← hL',ins_map]; exact HA3.out.rise.ins G1.out HM.out (by rw [List.length_map]; exact hm) HJ.out
        have HF2:Hid (∀ r ∈ L',Lies w r):=fun x hx=>by
         rw [← HLL.out] at hx
         rcases List.mem_append.1 hx with hx | hx
         ·exact HA3.out.lies x (List.mem_of_mem_take hx)
         ·rcases List.mem_cons.1 hx with rfl | hx
          ·exact LCW.out
          ·exact HA3.out.lies x (List.mem_of_mem_drop hx)
        have HF3:Hid (HitsAll (L'.map RCut.cut) ((all.take k).map RSp.sp)):=by unfold Hid; rw [← hL',ins_map]; exact HH.out.more ins_mem
        have HF4:=Lib.hid (HNX.out (L'.map RCut.cut) (by rw [← hL',ins_map]; exact ins_mem) (fun _=>by rw [← hL',ins_map]; exact ins_hits))
        have HAF:Hid (CutsAt w w5 g' 0 cp' L' W'):=⟨k3,HF2.out,HF1.out,k1,k2,HA7.out.bel.trans (hB.mono HA7.out.bel.size)⟩
        clear hL' hB k1 k2 k3 HJ
        go_wp2
        exact ⟨⟨2,g',0,cp',L',by omega,by go_num,rfl,HAF.out,HF3.out,HF4.out,by omega⟩,by simp [intOf]⟩
    ·obtain rfl:q=2:=by omega
     have HH2:Hid (HitsAll (L.map RCut.cut) ((all.take (k+1)).map RSp.sp)):=by unfold Hid; rw [take_all all k (by rw [HLN.out]; exact hlt)]; exact HH.out.snoc HT.out
     go_wp2
     exact ⟨⟨k+1,b,o,cp,L,by omega,by go_num,rfl,HA.out,HH2.out,by omega⟩,by simp [intOf]; omega⟩
  ·obtain rfl:k=N:=by omega
   have HH2:Hid (HitsAll (L.map RCut.cut) ((l ++ r).map RSp.sp)):=by have:=HH.out; rw [List.take_of_length_le (by rw [HLN.out]; exact Nat.le_refl _),← HAL.out] at this; exact this
   have hfin:L.length≤2+2 * (l.length+r.length):=by have h1:=HLN.out; rw [← HAL.out,List.length_append] at h1; omega
   go_wp2
   go_ret
   exact ⟨b,o,cp,L,rfl,HA.out.src,HA.out.lies,HA.out.rise,(fun s hs=>HH2.out s (by rw [List.map_append]; exact List.mem_append_left _ hs)),(fun s hs=>HH2.out s (by rw [List.map_append]; exact List.mem_append_right _ hs)),hfin,HBL.out.trans (HA.out.bel.mono HBL.out.size)⟩
end Go.Proofs.YtgfbflnhjpbceaaGreatDoor.Span
