/-
  What the theorem of the last text needs of these: NmPieces, NmPlainW, NmAwake, NmSetsWalk. Conditions: as each theorem states.
-/
import Derived.Test.YtgfbflnhjpbceaaGreatDoorSetB1
import Derived.Test.YtgfbflnhjpbceaaGreatDoorSetB2
import Derived.Test.YtgfbflnhjpbceaaGreatDoorSetB17
import Derived.Test.YtgfbflnhjpbceaaGreatDoorSetB25
import Derived.Test.YtgfbflnhjpbceaaGreatDoorSetB28
import Derived.Test.YtgfbflnhjpbceaaGreatDoorSetB30
import Derived.Test.YtgfbflnhjpbceaaGreatDoorSetB34
import Derived.Test.YtgfbflnhjpbceaaGreatDoorSetB36
import Derived.Test.YtgfbflnhjpbceaaGreatDoorSetB37
import Derived.Deep.CutBlock
import Derived.Deep.DeepCutAuto
import Derived.Deep.RegionHeld3
import Derived.Deep.QuietTactic
import Derived.BigQuiet
set_option maxRecDepth 100000
set_option maxHeartbeats 25600000
namespace Go.Proofs.YtgfbflnhjpbceaaGreatDoor.Nrm
open Go.RowKit Num Ident Semver Prec Span
open Range (Rng noRng goodR goodL fits RV RAt RgRow LtB Elems wt wtL wtL_len wt_mem KeepS zeroRV)
def PsJ0 (w:World) (A:Option Addr) (B n c:Nat) (l:List RSp) (a':Act) (W:World):Prop :=
 ∃ (t:Nat) (v:Value) (done:List Rng) (xs:List RV) (u1 u6:Value) (u7 u8 u9 u10 u11 u12 u13 u14 u15 u16 u17 u18 u19 u20 u21 u22 u23 u24 u25 u26 u27 u28 u29 u30 u31 u32 u33 u34 u35 u36 u37 u38 u39 u40 u41 u42 u43 u44 u45 u46:Value),t≤n∧done.length≤t∧Hid (PsAt w B n (l.map RSp.sp) v done xs W)∧Hid (done ++ piecesR ((l.map RSp.sp).drop t)=piecesR (l.map RSp.sp)) ∧
  a'={ tmps:=#[.slice A n c,u1,.slice none 0 0,.slice (some ⟨w.heap.size,0,none⟩) n n,v,.int .i64 t,u6,u7,u8,u9,u10,u11,u12,u13,u14,u15,u16,u17,u18,u19,u20,u21,u22,u23,u24,u25,u26,u27,u28,u29,u30,u31,u32,u33,u34,u35,u36,u37,u38,u39,u40,u41,u42,u43,u44,u45,u46],defers:=[] }
def PsJ1 (w:World) (A:Option Addr) (B n c:Nat) (l:List RSp) (a':Act) (W:World):Prop :=
 ∃ (f t:Nat) (v:Value) (done:List Rng) (xs:List RV) (u1:Value) (u7 u8 u9 u10 u11 u12 u13 u14 u15 u16 u17 u18 u19 u20 u21 u22 u23 u24 u25 u26 u27 u28 u29 u30 u31 u32 u33 u34 u35 u36 u37 u38 u39 u40 u41 u42 u43 u44 u45 u46:Value),f≤t∧t<n∧done.length≤f∧Hid (PsAt w B n (l.map RSp.sp) v done xs W)∧Hid (Half (l.map RSp.sp) f (t - f) done) ∧
  a'={ tmps:=#[.slice A n c,u1,.slice none 0 0,.slice (some ⟨w.heap.size,0,none⟩) n n,v,.int .i64 t,.int .i64 f,u7,u8,u9,u10,u11,u12,u13,u14,u15,u16,u17,u18,u19,u20,u21,u22,u23,u24,u25,u26,u27,u28,u29,u30,u31,u32,u33,u34,u35,u36,u37,u38,u39,u40,u41,u42,u43,u44,u45,u46],defers:=[] }
def PsM (n:Nat) (a':Act) (_:World):Nat:=n - (intOf (a'.tmps.getD 5 undef)).toNat
theorem pieces_any (A:Option Addr) (n c:Nat) (l:List RSp) (B:Nat) (w:World) (hr:SpRow w A n l) (hn:n≤74) (hcn:n≤c) (ho:∀ s ∈ l,OwnsS w B s) (hB:B≤w.heap.size) (hN:Span.Norm (l.map RSp.sp)) :
  Calls Tryz.prog 41 #[.slice A n c] w fun e w'=>∃ L m e',e=.returned (.slice L m e')∧m≤e'∧m≤n∧(L=none→e'=0)∧RgRow w' (fun g=>B≤g) L m (piecesR (l.map RSp.sp))∧Below w.heap.size w w':=by
 have HR:=Lib.hid hr
 have HO:=Lib.hid ho
 have HN:=Lib.hid hN
 clear hr ho hN
 go_enter Tryz.func41,Tryz.ntmps41
 go_wp2
 refine wp_two (PsJ0 w A B n c l) (PsJ1 w A B n c l) (PsM n) (PsM n) rfl rfl ?_ ?_ ?_
 ·intro mm
  rintro a' W ⟨f,t,v,done,xs,u1,u7,u8,u9,u10,u11,u12,u13,u14,u15,u16,u17,u18,u19,u20,u21,u22,u23,u24,u25,u26,u27,u28,u29,u30,u31,u32,u33,u34,u35,u36,u37,u38,u39,u40,u41,u42,u43,u44,u45,u46,hft,htn,hdn,HA,HH,rfl⟩ hmm
  have hmm2:mm=n - t:=by rw [← hmm]; simp [PsM,intOf]
  clear hmm
  have hbn:n≤74:=hn
  have hlen:(l.map RSp.sp).length=n:=by rw [List.length_map]; exact HR.out.1
  obtain ⟨b,o,hAe,hbw,hcell⟩:=HR.out.2.2 (by omega)
  clear hcell
  subst hAe
  obtain ⟨s,hs⟩:∃ s,s=t+1:=⟨_,rfl⟩
  obtain ⟨p,hp⟩:∃ p,p=t - f:=⟨_,rfl⟩
  have htp:t=f+p:=by omega
  rw [← hp] at HH
  have hw1:IntKind.i64.wrap ((s:Int) - 1)=(t:Int):=by rw [IntKind.wrap_i64] <;> omega
  have hsub:s - f=p+1:=by omega
  have hfs:f≤s:=by omega
  have hsc:s≤c:=by omega
  have hsn:s≤n:=by omega
  have hcf:¬ c=f:=by omega
  have htn2:¬ n≤t:=by omega
  have hfn:¬ n≤f:=by omega
  have hfn2:f<n:=by omega
  have hp74:p≤100000:=by omega
  have hpc:p+1≤c - f:=by omega
  have hs1:((t:Int)+1)=(s:Int):=by omega
  have HCt:Hid (∀ W':World,CxAt W' w.heap.size n (ends (l.map RSp.sp) n)→W'.cell? ⟨w.heap.size,t,none⟩=some (.complex .f64 (fb (lk (l.map RSp.sp) t)) (fb (pk (l.map RSp.sp) s)))):=fun W' h=>by rw [hs]; exact ends_at h htn
  have HTe:Hid (t=f+p):=htp
  have HSe:Hid (s=t+1):=hs
  have hrow:(((l.drop f).take (p+1)).map RSp.sp)=rowOf (l.map RSp.sp) f p:=by unfold rowOf; rw [List.map_take,List.map_drop]
  have HPC:Hid (∀ W1:World,Below w.heap.size w W1→Calls Tryz.prog 76 #[.slice (some ⟨b,o+f * 12,none⟩) (p+1) (c - f),.complex .f64 (fb (lk (l.map RSp.sp) f)) (fb (pk (l.map RSp.sp) (f+1)))] W1 (RngPost W1 (Strs W1 B) (pieceR (rowOf (l.map RSp.sp) f p)))):=fun W1 hb1=>by
   have h:=piece_any (some ⟨b,o+f * 12,none⟩) p (c - f) ((l.drop f).take (p+1)) (fb (lk (l.map RSp.sp) f)) (fb (pk (l.map RSp.sp) (f+1))) B W1 (SpRow.sub (HR.out.kept hb1) rfl (by omega)) hp74 hpc
    (fun s hs=>(HO.out s (List.mem_of_mem_drop (List.mem_of_mem_take hs))).kept hb1) (Nat.le_trans hB hb1.size) (by rw [hrow]; exact rowOf_norm HN.out f p) (by rw [hrow]; exact HH.out.1) (by
     have e0:((l.drop f).take (p+1)).getD 0 default=l.getD f default:=by
      simp only [List.getD_eq_getElem?_getD]
      rw [List.getElem?_take,if_pos (by omega),List.getElem?_drop,Nat.add_zero]
     rw [e0,pk_lk,fb_eq (by have:=lk_le (l.map RSp.sp) f; omega),sp_at]; rfl)
   rw [hrow] at h
   exact h
  clear hs hp htp hrow
  by_cases hlt:s<n
  ·obtain ⟨lnk,hlnk⟩:∃ lnk,isPoint ((l.map RSp.sp).getD t default).hi ((l.map RSp.sp).getD s default).lo=lnk:=⟨_,rfl⟩
   have HLq:Hid ((FloatKind.f64.format.order (fb (pk (l.map RSp.sp) s)) (fb (lk (l.map RSp.sp) s)) == some .eq)=lnk):=by
    unfold Hid
    rw [HSe.out] at hlnk ⊢
    rw [lk_next,fb_eq (by have:=pk_le (l.map RSp.sp) (t+1); omega),hlnk]
   have HLk:Hid (isPoint ((l.map RSp.sp).getD (f+p) default).hi ((l.map RSp.sp).getD (f+p+1) default).lo=lnk):=by
    unfold Hid
    rw [HSe.out,HTe.out] at hlnk
    exact hlnk
   have hlt1:(s:Int)<(n:Int):=by omega
   have hlt2:¬ n≤s:=by omega
   clear hlnk
   go_upto_region 8 with (fail)
   replace HA:Hid (PsAt w B n (l.map RSp.sp) v done xs W.drew):=HA.out.kept (Below.refl _ _).drew
   refine wp_region_held_drew (S:=fun w'=>CxAt w' w.heap.size n (ends (l.map RSp.sp) n)) (by kernel_rfl) HA.out.cx (fun hHeld=>?_)
   refine tk 0 rfl (.int .i64 s) ?_
   refine tk 1 rfl (.slice (some ⟨b,o,none⟩) n c) ?_
   refine tk 2 rfl (.int .i64 n) ?_
   refine tk 3 rfl (.bool true) ?_
   refine tk 4 rfl (.bool true) ?_
   refine tk 5 rfl (.slice (some ⟨w.heap.size,0,none⟩) n n) ?_
   refine tk 6 rfl (.int .i64 s) ?_
   refine tk 7 rfl (.int .i64 t) ?_
   refine tk 8 rfl (.pointer (some ⟨w.heap.size,t,none⟩)) ?_
   refine tk 9 rfl (.complex .f64 (fb (lk (l.map RSp.sp) t)) (fb (pk (l.map RSp.sp) s))) ?_ fun w' hS'=>by have hc:=HCt.out _ hS'; go_simp
   refine tk 10 rfl (.float .f64 (fb (pk (l.map RSp.sp) s))) ?_
   refine tk 11 rfl (.slice (some ⟨w.heap.size,0,none⟩) n n) ?_
   refine tk 12 rfl (.int .i64 s) ?_
   refine tk 13 rfl (.pointer (some ⟨w.heap.size,s,none⟩)) ?_
   refine tk 14 rfl (.complex .f64 (fb (lk (l.map RSp.sp) s)) (fb (pk (l.map RSp.sp) (s+1)))) ?_ fun w' hS'=>by have hc:=ends_at hS' hlt; go_simp
   refine tk 15 rfl (.float .f64 (fb (lk (l.map RSp.sp) s))) ?_
   refine tk 16 rfl (.bool lnk) ?_ fun w' hS'=>by have hq:=HLq.out; go_simp
   refine tk 17 rfl (.bool lnk) ?_
   refine wpAnyH_done (by kernel_rfl) ?_ _
   cases lnk
   ·have HSh:Hid ((done ++ [pieceR (rowOf (l.map RSp.sp) f p)]) ++ piecesR ((l.map RSp.sp).drop s)=piecesR (l.map RSp.sp)):=by
     unfold Hid
     have h1:=HSe.out
     have h2:=HTe.out
     rw [h1,h2]
     exact half_shut HH.out (by omega) (fun _=>HLk.out)
    go_upto_region 9 with (fail)
    clear hHeld
    replace HA:Hid (PsAt w B n (l.map RSp.sp) v done xs W.drew.drew):=HA.out.kept (Below.refl _ _).drew
    refine wp_region_held_drew (S:=fun w'=>CxAt w' w.heap.size n (ends (l.map RSp.sp) n)) (by kernel_rfl) HA.out.cx (fun hHeld=>?_)
    generalize W.drew.drew=W1 at HA hHeld ⊢
    refine tk 0 rfl v ?_
    refine tk 1 rfl (.slice (some ⟨b,o,none⟩) n c) ?_
    refine tk 2 rfl (.int .i64 f) ?_
    refine tk 3 rfl (.int .i64 s) ?_
    refine tk 4 rfl (.slice (some ⟨b,o+f * 12,none⟩) (p+1) (c - f)) ?_
    refine tk 5 rfl (.slice (some ⟨w.heap.size,0,none⟩) n n) ?_
    refine tk 6 rfl (.int .i64 f) ?_
    refine tk 7 rfl (.pointer (some ⟨w.heap.size,f,none⟩)) ?_
    refine tk 8 rfl (.complex .f64 (fb (lk (l.map RSp.sp) f)) (fb (pk (l.map RSp.sp) (f+1)))) ?_ fun w' hS'=>by have hc:=ends_at hS' hfn2; go_simp
    refine cl 9 rfl fun K hK=>?_
    go_simp
    refine (HPC.out _ HA.out.bel).mono ?_
    rintro e wg1 ⟨x,he,hx,hb⟩
    unfold RV.agg at he
    subst he
    have HX:Hid (Range.Lies wg1 (Elems B v) (pieceR (rowOf (l.map RSp.sp) f p)) x):=hx.mono fun g hS _=>strs_elems HA.out.own hS
    replace HA:Hid (PsAt w B n (l.map RSp.sp) v done xs wg1):=HA.out.kept hb
    clear hx
    clear hb hHeld
    refine hK.out _ _ HA.out.cx (fun hHeld=>?_)
    clear hK K
    try simp only [Act.put,p1,p2,p3]
    refine cl 10 rfl fun K hK=>?_
    go_simp
    have hb:Below wg1.heap.size wg1 (wg1.alloc (.cells x.vals.toArray 28)):=(Below.refl _ _).alloc (Nat.le_refl _) _
    replace HA:Hid (PsAt w B n (l.map RSp.sp) v done xs (wg1.alloc (.cells x.vals.toArray 28))):=HA.out.kept hb
    replace HX:Hid (Range.Lies (wg1.alloc (.cells x.vals.toArray 28)) (Elems B v) (pieceR (rowOf (l.map RSp.sp) f p)) x):=HX.out.keep (KeepS.of_below hb)
    clear hb hHeld
    refine hK.out _ _ HA.out.cx (fun hHeld=>?_)
    clear hK K
    try simp only [Act.put,p1,p2,p3]
    refine cl 11 rfl fun K hK=>?_
    rw [if_pos (by rfl)]
    refine op_append_rg _ _ _ rfl (w.heap.size+1) v done.length xs rfl HA.out.own ⟨wg1.heap.size,0,none⟩ x rfl (news_new wg1 x.vals 28) (by omega) HA.out.bel_le ?_
    intro v3 w3 ho hg hat
    have HA3:=Lib.hid (HA.out.more ho hg hat HX.out)
    clear ho hg hat hHeld
    refine hK.out _ _ HA3.out.cx (fun hHeld=>?_)
    clear hK K
    try simp only [Act.put,p1,p2,p3]
    refine tk 12 rfl v3 ?_
    refine wpAnyH_done (by kernel_rfl) ?_ _
    go_wp2
    go_step3
    exact .inl ⟨rfl,⟨s,v3,done ++ [pieceR (rowOf (l.map RSp.sp) f p)],xs ++ [x],u1,.int .i64 f,_,_,_,_,_,_,_,_,_,_,_,_,_,_,_,_,_,_,_,_,_,_,_,_,_,_,_,_,_,_,_,_,_,_,_,_,_,_,_,_,hsn,by rw [List.length_append,List.length_singleton]; omega,HA3,HSh,rfl⟩,by (try rw [hmm2]); simp [PsM,intOf]; omega⟩
   ·have HH2:Hid (Half (l.map RSp.sp) f (s - f) done):=by
     unfold Hid
     have h:=half_more HH.out (by have h1:=HSe.out; have h2:=HTe.out; omega) HLk.out
     rw [hsub]; exact h
    go_wp2
    go_step3
    exact .inr ⟨rfl,⟨f,s,v,done,xs,u1,_,_,_,_,_,_,_,_,_,_,_,_,_,_,_,_,_,_,_,_,_,_,_,_,_,_,_,_,_,_,_,_,_,_,_,_,_,_,_,_,hfs,hlt,hdn,HA,HH2,rfl⟩,by (try rw [hmm2]); simp [PsM,intOf]; omega⟩
  ·have hlt1:¬ (s:Int)<(n:Int):=by omega
   have HSh:Hid ((done ++ [pieceR (rowOf (l.map RSp.sp) f p)]) ++ piecesR ((l.map RSp.sp).drop s)=piecesR (l.map RSp.sp)):=by
    unfold Hid
    have h1:=HSe.out
    have h2:=HTe.out
    rw [h1,h2]
    exact half_shut HH.out (by omega) (fun h=>absurd h (by omega))
   go_upto_region 8 with (fail)
   replace HA:Hid (PsAt w B n (l.map RSp.sp) v done xs W.drew):=HA.out.kept (Below.refl _ _).drew
   refine wp_region_held_drew (S:=fun w'=>CxAt w' w.heap.size n (ends (l.map RSp.sp) n)) (by kernel_rfl) HA.out.cx (fun hHeld=>?_)
   refine tk 0 rfl (.int .i64 s) ?_
   refine tk 1 rfl (.slice (some ⟨b,o,none⟩) n c) ?_
   refine tk 2 rfl (.int .i64 n) ?_
   refine tk 3 rfl (.bool false) ?_
   refine tk 4 rfl (.bool false) ?_
   refine sk 5 rfl ?_
   refine sk 6 rfl ?_
   refine sk 7 rfl ?_
   refine sk 8 rfl ?_
   refine sk 9 rfl ?_
   refine sk 10 rfl ?_
   refine sk 11 rfl ?_
   refine sk 12 rfl ?_
   refine sk 13 rfl ?_
   refine sk 14 rfl ?_
   refine sk 15 rfl ?_
   refine sk 16 rfl ?_
   refine tk 17 rfl (.bool false) ?_
   refine wpAnyH_done (by kernel_rfl) ?_ _
   go_upto_region 9 with (fail)
   clear hHeld
   replace HA:Hid (PsAt w B n (l.map RSp.sp) v done xs W.drew.drew):=HA.out.kept (Below.refl _ _).drew
   refine wp_region_held_drew (S:=fun w'=>CxAt w' w.heap.size n (ends (l.map RSp.sp) n)) (by kernel_rfl) HA.out.cx (fun hHeld=>?_)
   generalize W.drew.drew=W1 at HA hHeld ⊢
   refine tk 0 rfl v ?_
   refine tk 1 rfl (.slice (some ⟨b,o,none⟩) n c) ?_
   refine tk 2 rfl (.int .i64 f) ?_
   refine tk 3 rfl (.int .i64 s) ?_
   refine tk 4 rfl (.slice (some ⟨b,o+f * 12,none⟩) (p+1) (c - f)) ?_
   refine tk 5 rfl (.slice (some ⟨w.heap.size,0,none⟩) n n) ?_
   refine tk 6 rfl (.int .i64 f) ?_
   refine tk 7 rfl (.pointer (some ⟨w.heap.size,f,none⟩)) ?_
   refine tk 8 rfl (.complex .f64 (fb (lk (l.map RSp.sp) f)) (fb (pk (l.map RSp.sp) (f+1)))) ?_ fun w' hS'=>by have hc:=ends_at hS' hfn2; go_simp
   refine cl 9 rfl fun K hK=>?_
   go_simp
   refine (HPC.out _ HA.out.bel).mono ?_
   rintro e wg1 ⟨x,he,hx,hb⟩
   unfold RV.agg at he
   subst he
   have HX:Hid (Range.Lies wg1 (Elems B v) (pieceR (rowOf (l.map RSp.sp) f p)) x):=hx.mono fun g hS _=>strs_elems HA.out.own hS
   replace HA:Hid (PsAt w B n (l.map RSp.sp) v done xs wg1):=HA.out.kept hb
   clear hx
   clear hb hHeld
   refine hK.out _ _ HA.out.cx (fun hHeld=>?_)
   clear hK K
   try simp only [Act.put,p1,p2,p3]
   refine cl 10 rfl fun K hK=>?_
   go_simp
   have hb:Below wg1.heap.size wg1 (wg1.alloc (.cells x.vals.toArray 28)):=(Below.refl _ _).alloc (Nat.le_refl _) _
   replace HA:Hid (PsAt w B n (l.map RSp.sp) v done xs (wg1.alloc (.cells x.vals.toArray 28))):=HA.out.kept hb
   replace HX:Hid (Range.Lies (wg1.alloc (.cells x.vals.toArray 28)) (Elems B v) (pieceR (rowOf (l.map RSp.sp) f p)) x):=HX.out.keep (KeepS.of_below hb)
   clear hb hHeld
   refine hK.out _ _ HA.out.cx (fun hHeld=>?_)
   clear hK K
   try simp only [Act.put,p1,p2,p3]
   refine cl 11 rfl fun K hK=>?_
   rw [if_pos (by rfl)]
   refine op_append_rg _ _ _ rfl (w.heap.size+1) v done.length xs rfl HA.out.own ⟨wg1.heap.size,0,none⟩ x rfl (news_new wg1 x.vals 28) (by omega) HA.out.bel_le ?_
   intro v3 w3 ho hg hat
   have HA3:=Lib.hid (HA.out.more ho hg hat HX.out)
   clear ho hg hat hHeld
   refine hK.out _ _ HA3.out.cx (fun hHeld=>?_)
   clear hK K
   try simp only [Act.put,p1,p2,p3]
   refine tk 12 rfl v3 ?_
   refine wpAnyH_done (by kernel_rfl) ?_ _
   go_wp2
   go_step3
   exact .inl ⟨rfl,⟨s,v3,done ++ [pieceR (rowOf (l.map RSp.sp) f p)],xs ++ [x],u1,.int .i64 f,_,_,_,_,_,_,_,_,_,_,_,_,_,_,_,_,_,_,_,_,_,_,_,_,_,_,_,_,_,_,_,_,_,_,_,_,_,_,_,_,hsn,by rw [List.length_append,List.length_singleton]; omega,HA3,HSh,rfl⟩,by (try rw [hmm2]); simp [PsM,intOf]; omega⟩
 ·intro HP mm
  rintro a' W ⟨t,v,done,xs,u1,u6,u7,u8,u9,u10,u11,u12,u13,u14,u15,u16,u17,u18,u19,u20,u21,u22,u23,u24,u25,u26,u27,u28,u29,u30,u31,u32,u33,u34,u35,u36,u37,u38,u39,u40,u41,u42,u43,u44,u45,u46,htn,hdn,HA,HD,rfl⟩ hmm
  have hmm2:mm=n - t:=by rw [← hmm]; simp [PsM,intOf]
  have hlen:(l.map RSp.sp).length=n:=by rw [List.length_map]; exact HR.out.1
  clear hmm
  by_cases hlt:t<n
  ·have hne:¬ t=n:=by omega
   have HH:Hid (Half (l.map RSp.sp) t (t - t) done):=by
    unfold Hid
    rw [Nat.sub_self]
    exact half_start HD.out (by omega)
   go_wp2
   go_step3
   rename_i hK
   exact hK _ _ (HP.out _ _ _ ⟨t,t,v,done,xs,u1,_,_,_,_,_,_,_,_,_,_,_,_,_,_,_,_,_,_,_,_,_,_,_,_,_,_,_,_,_,_,_,_,_,_,_,_,_,_,_,_,Nat.le_refl t,hlt,hdn,HA,HH,rfl⟩ (by (try rw [hmm2]); simp [PsM,intOf]))
  ·obtain rfl:t=n:=by omega
   have hdone:done=piecesR (l.map RSp.sp):=by
    have h:=HD.out
    rw [List.drop_eq_nil_of_le (by omega)] at h
    exact (List.append_nil _).symm.trans h
   obtain ⟨L,e,rfl,he,hnil,hrow⟩:=HA.out.row hB
   rw [hdone] at hrow he hdn
   have HRow:=Lib.hid hrow
   have HNil:=Lib.hid hnil
   have HBl:=Lib.hid HA.out.bel
   have hl2:done.length=(piecesR (l.map RSp.sp)).length:=by rw [hdone]
   clear hrow hnil HA HD hdone
   rw [hl2]
   generalize hq:(piecesR (l.map RSp.sp)).length=q at HRow he hdn ⊢
   clear hl2
   go_wp2
   simp only [jumps]
   go_ret
   exact ⟨L,q,e,rfl,he,hdn,HNil.out,HRow.out,HBl.out⟩
 ·intro HP
  go_wp2_with fail
  refine (ranked_any A n c l w HR.out hn).mono ?_
  rintro e W2 ⟨rfl,hcx,hb⟩
  have HA0:Hid (PsAt w B n (l.map RSp.sp) (.slice none 0 0) [] [] W2):=⟨hcx,World.ownsRow_nil _ _ _ _,rfl,(fun j hj=>absurd hj (Nat.not_lt_zero _)),hb⟩
  have HD0:Hid (([]:List Rng) ++ piecesR ((l.map RSp.sp).drop 0)=piecesR (l.map RSp.sp)):=rfl
  clear hcx hb
  go_wp2
  go_step3
  rename_i hK
  exact hK _ _ (HP.out _ _ ⟨0,.slice none 0 0,[],[],_,_,_,_,_,_,_,_,_,_,_,_,_,_,_,_,_,_,_,_,_,_,_,_,_,_,_,_,_,_,_,_,_,_,_,_,_,_,_,_,_,_,Nat.zero_le _,Nat.zero_le _,HA0,HD0,rfl⟩)
end Go.Proofs.YtgfbflnhjpbceaaGreatDoor.Nrm
namespace Go.Proofs.YtgfbflnhjpbceaaGreatDoor.Nrm
open Go.RowKit Num Ident Semver Prec Span
open Range (Rng noRng goodR goodL fits RV RAt RgRow LtB Elems wt wtL wtL_len wt_mem KeepS zeroRV)
theorem plain_any (A:Option Addr) (n c:Nat) (l:List RSp) (w:World) (hr:SpRow w A n l) (hn:n≤74) :
  Calls Tryz.prog 20 #[.slice A n c] w fun e w'=>∃ (x:RV) (o:List Sp),e=.returned x.agg∧NormalOf (l.map RSp.sp) o∧Range.Lies w' (fun g=>w.heap.size+1≤g) (plainR o) x∧o.length≤n∧Below w.heap.size w w':=by
 have HB:Hid (Below w.heap.size w (w.alloc ())):=(Below.refl _ _).alloc (Nat.le_refl _) _
 have HR:Hid (RAt (w.alloc ()) w.heap.size (zeroRV 0)):=RAt.new w _ (zeroRV 0)
 have HRow:=Lib.hid (hr.kept HB.out)
 have hsz:(w.alloc ()).heap.size=w.heap.size+1:=size_alloc _ _
 clear hr
 go_enter Tryz.func20,Tryz.ntmps20
 go_upto_region 1 with (fail)
 generalize (w.alloc ())=W at HB HR HRow hsz ⊢
 go_wp2_with fail
 refine (normal_in A n c l W HRow.out (by omega)).mono ?_
 rintro e W2 ⟨A2,m2,cc2,o2,rfl,q1,q2,q3,q4,hm2,q6,hb⟩
 have HB2:=Lib.hid (HB.out.trans (hb.mono HB.out.size))
 have HR2:=Lib.hid (HR.out.kept hb HR.out.1)
 have HS:=Lib.hid q1
 have HN:=Lib.hid q3
 have HO:Hid (∀ s ∈ o2,OwnsS W2 (w.heap.size+1) s):=fun s hs=>hsz ▸ q4 s hs
 clear q1 q3 q4 q6 hb HB HR HRow
 by_cases h0:m2=0
 ·obtain rfl:o2=[]:=List.eq_nil_of_length_eq_zero (HS.out.1.trans h0)
  have q0:((m2:Int) == 0)=true:=by simp [h0]
  clear h0
  have hzz:(Range.setR W2 w.heap.size (⟨11,noVer,none,0,none,0,some ⟨W2.heap.size,0,none⟩,1,1⟩:RV)).heap.size=W2.heap.size:=by unfold Range.setR; simp
  have HK9:Hid (RAt ((Range.setR W2 w.heap.size (⟨11,noVer,none,0,none,0,some ⟨W2.heap.size,0,none⟩,1,1⟩:RV)).alloc ()) w.heap.size (⟨11,noVer,none,0,none,0,some ⟨W2.heap.size,0,none⟩,1,1⟩:RV)):=(Range.setR_at HR2.out).kept ((Below.refl _ _).alloc (Nat.le_refl _) _) (Range.setR_at (x:=(⟨11,noVer,none,0,none,0,some ⟨W2.heap.size,0,none⟩,1,1⟩:RV)) HR2.out).1
  have HB9:Hid (Below w.heap.size w ((Range.setR W2 w.heap.size (⟨11,noVer,none,0,none,0,some ⟨W2.heap.size,0,none⟩,1,1⟩:RV)).alloc ())):=(HB2.out.trans (Range.setR_below w.heap.size (Nat.le_refl _) (⟨11,noVer,none,0,none,0,some ⟨W2.heap.size,0,none⟩,1,1⟩:RV))).alloc (by rw [hzz]; exact HB2.out.size) _
  have HS9:Hid (Range.Lies ((Range.setR W2 w.heap.size (⟨11,noVer,none,0,none,0,some ⟨W2.heap.size,0,none⟩,1,1⟩:RV)).alloc ()) (fun g=>w.heap.size+1≤g) (plainR []) (⟨11,noVer,none,0,none,0,some ⟨W2.heap.size,0,none⟩,1,1⟩:RV)):=by
   have hz2:=HR2.out.1
   have h1:RgRow ((Range.setR W2 w.heap.size (⟨11,noVer,none,0,none,0,some ⟨W2.heap.size,0,none⟩,1,1⟩:RV)).alloc ()) (fun g=>w.heap.size+1≤g) (some ⟨W2.heap.size,0,none⟩) 1 [noRng]:=⟨fun _=>zeroRV 0,rfl,fun _=>⟨W2.heap.size,0,rfl,hz2,fun j hj i u hu=>by
    obtain rfl:j=0:=by omega
    have:=news_new (Range.setR W2 w.heap.size (⟨11,noVer,none,0,none,0,some ⟨W2.heap.size,0,none⟩,1,1⟩:RV)) (zeroRV 0).vals 28 i u hu
    rw [add_none,hzz] at this
    exact this⟩,fun j hj=>by
    obtain rfl:j=0:=by omega
    exact Range.Lies.zero _ _ 0⟩
   exact Range.Lies.many 11 h1 (Nat.le_refl _) (fun e=>by cases e)
  have hne9:¬ w.heap.size=W2.heap.size:=Nat.ne_of_lt HR2.out.1
  obtain ⟨_,hfz,r0,r1,r2,r3,r4,r5,r6⟩:=HR2.out
  clear HR2 HB2
  go_wp2
  change bodyPost _ _ _ _ _ ((Range.setR W2 w.heap.size (⟨11,noVer,none,0,none,0,some ⟨W2.heap.size,0,none⟩,1,1⟩:RV)).alloc ())
  generalize ((Range.setR W2 w.heap.size (⟨11,noVer,none,0,none,0,some ⟨W2.heap.size,0,none⟩,1,1⟩:RV)).alloc ())=W9 at HK9 HB9 HS9 ⊢
  obtain ⟨_,_,z0,z1,z2,z3,z4,z5,z6⟩:=HK9.out
  exact bodyPost_ret (v:=.agg #[.int .i64 11,.int .u64 0,.int .u64 0,.int .u64 0,.slice none 0 0,.slice none 0 0,.slice (some ⟨W2.heap.size,0,none⟩) 1 1]) (by simp [results,Tryz.results20,go_sem,z0,z1,z2,z3,z4,z5,z6,noVer]) rfl ⟨(⟨11,noVer,none,0,none,0,some ⟨W2.heap.size,0,none⟩,1,1⟩:RV),[],rfl,HN.out,HS9.out,Nat.zero_le _,HB9.out⟩
 ·have q0:((m2:Int) == 0)=false:=beq_eq_false_iff_ne.2 (by omega)
  have HPl:Hid (plainR (o2.map RSp.sp)=few 10 (piecesR (o2.map RSp.sp))):=by
   unfold Hid plainR
   rw [if_neg (by rw [List.length_map,HS.out.1]; exact h0)]
  clear h0
  go_wp2_with fail
  refine (pieces_any A2 m2 cc2 o2 (w.heap.size+1) W2 HS.out (by omega) hm2 HO.out HR2.out.1 HN.out.1).mono ?_
  rintro e W3 ⟨L,k,e3,rfl,hk1,hk2,hk3,hrow,hb⟩
  have HRow:=Lib.hid hrow
  have HNil:=Lib.hid hk3
  have HB3:=Lib.hid (HB2.out.trans (hb.mono HB2.out.size))
  have HR3:=Lib.hid (HR2.out.kept hb HR2.out.1)
  clear hrow hk3 hb HR2 HB2
  go_wp2_with fail
  refine (joined_any 10 L k e3 (piecesR (o2.map RSp.sp)) (fun g=>w.heap.size+1≤g) W3 HRow.out hk1 HNil.out (by omega)).mono ?_
  rintro e W4 ⟨x,he4,hx,hb⟩
  unfold RV.agg at he4
  subst he4
  have HB4:=Lib.hid (HB3.out.trans (hb.mono HB3.out.size))
  have HR4:=Lib.hid (HR3.out.kept hb HR3.out.1)
  have HK9:=Lib.hid (Range.setR_at (x:=x) HR4.out)
  have HB9:Hid (Below w.heap.size w (Range.setR W4 w.heap.size x)):=HB4.out.trans (Range.setR_below w.heap.size (Nat.le_refl _) x)
  have HS9:Hid (Range.Lies (Range.setR W4 w.heap.size x) (fun g=>w.heap.size+1≤g) (plainR (o2.map RSp.sp)) x):=by
   unfold Hid
   rw [HPl.out]
   exact hx.keep (Range.setR_keep (by omega) x)
  have hol:(o2.map RSp.sp).length≤n:=by rw [List.length_map,HS.out.1]; omega
  obtain ⟨_,hfz,r0,r1,r2,r3,r4,r5,r6⟩:=HR4.out
  clear hx hb HR3 HB3 HR4 HB4 HRow HNil
  go_wp2
  change bodyPost _ _ _ _ _ (Range.setR W4 w.heap.size x)
  generalize Range.setR W4 w.heap.size x=W9 at HK9 HB9 HS9 ⊢
  obtain ⟨_,_,z0,z1,z2,z3,z4,z5,z6⟩:=HK9.out
  exact bodyPost_ret (v:=.agg #[x.kind,x.v.a,x.v.b,x.v.c,.slice x.A x.v.pre.length x.c,.slice x.B x.v.build.length x.d,.slice x.L x.n x.e]) (by simp [results,Tryz.results20,go_sem,z0,z1,z2,z3,z4,z5,z6]) rfl ⟨x,o2.map RSp.sp,rfl,HN.out,HS9.out,hol,HB9.out⟩
def Simpled (r s:Rng):Prop:=(goodR r 0=true∧∃ o,SetOf r o∧o.length+1≤3 * wt r∧s=plainR o)∨(goodR r 0=false∧s=noRng)
theorem simple_any (r:Rng) (x:RV) (B:Nat) (w:World) (hx:Range.Lies w (LtB B) r x) (hB:B≤w.heap.size) (hlo:Range.LenOk r) (hw:goodR r 0=true→wt r≤25∨(wt r≤1500∧∀ o,SetOf r o→o.length≤74)) :
  Calls Tryz.prog 15 #[x.agg] w fun e w'=>∃ (y:RV) (s:Rng),e=.returned y.agg∧Range.Lies w' (fun g=>w.heap.size+1<g) s y∧Below w.heap.size w w'∧Simpled r s:=by
 have HB:Hid (Below w.heap.size w ((w.alloc x).alloc ())):=((Below.refl _ _).alloc (Nat.le_refl _) _).alloc (by simp) _
 have HR:Hid (RAt ((w.alloc x).alloc ()) w.heap.size x):=(RAt.new w 28 x).kept ((Below.refl _ _).alloc (Nat.le_refl _) _) (by simp)
 have HZ:Hid (RAt ((w.alloc x).alloc ()) (w.heap.size+1) (zeroRV 0)):=by
  have h:=RAt.new (w.alloc x) 28 (zeroRV 0)
  rw [size_alloc] at h; exact h
 have HL:=Lib.hid (hx.keep (KeepS.of_below (S:=LtB B) HB.out))
 have hB1:B≤((w.alloc x).alloc ()).heap.size:=Nat.le_trans hB HB.out.size
 have hwp:1≤wt r:=by rw [Range.wt_eq]; omega
 clear hx
 unfold RV.agg
 go_enter Tryz.func15,Tryz.ntmps15
 go_upto_region 1 with (fail)
 generalize ((w.alloc x).alloc ())=W at HB HR HZ HL hB1 ⊢
 obtain ⟨y1,y2,c0,c1,c2,c3,c4,c5,c6⟩:=HR.out
 go_wp2_with fail
 refine (Range.goodIs_any r x B W hlo HL.out hB1).mono ?_
 rintro e W2 ⟨rfl,hb⟩
 have HB2:=Lib.hid (HB.out.trans (hb.mono HB.out.size))
 have HR2:=Lib.hid (HR.out.kept hb HR.out.1)
 have HZ2:=Lib.hid (HZ.out.kept hb HZ.out.1)
 have HL2:=Lib.hid (HL.out.keep (KeepS.of_below (S:=LtB B) hb))
 have hB2:B≤W2.heap.size:=Nat.le_trans hB1 hb.size
 clear hb y1 y2 c0 c1 c2 c3 c4 c5 c6 HB HR HL HZ
 obtain ⟨y1,y2,c0,c1,c2,c3,c4,c5,c6⟩:=HR2.out
 cases hg:goodR r 0 with
 | true =>
  have HG:=Lib.hid hg
  have hw:=hw hg
  have hw15:wt r≤1500:=by rcases hw with h | h; omega; exact h.1
  clear hg
  go_wp2_with fail
  refine (set_any 1500 r x B 0 W2 hw15 (Nat.le_refl _) HL2.out hB2 HG.out).mono ?_
  rintro e W3 ⟨A2,m2,cc2,o2,rfl,q1,q2,q3,q4,q5,q6,hb⟩
  have H1:=Lib.hid q1
  have H3:=Lib.hid q3
  have hm74:m2≤74:=by
   rcases hw with h | h
   ·omega
   ·have h5:=h.2 _ q3; rw [List.length_map] at h5; have:=q1.1; omega
  have HB3:=Lib.hid (HB2.out.trans (hb.mono HB2.out.size))
  have HZ3:=Lib.hid (HZ2.out.kept hb HZ2.out.1)
  have hz3:=HZ3.out.1
  clear q1 q3 q4 q5 q6 hb HR2 HZ2 HB2 HL2 c0 c1 c2 c3 c4 c5 c6 y1 y2
  go_wp2_with fail
  refine (plain_any A2 m2 cc2 o2 W3 H1.out hm74).mono ?_
  rintro e W4 ⟨y,o,he4,hno,hly,hol,hb⟩
  unfold RV.agg at he4
  subst he4
  have HB4:=Lib.hid (HB3.out.trans (hb.mono HB3.out.size))
  have HZ4:=Lib.hid (HZ3.out.kept hb HZ3.out.1)
  have HK9:=Lib.hid (Range.setR_at (x:=y) HZ4.out)
  have HB9:Hid (Below w.heap.size w (Range.setR W4 (w.heap.size+1) y)):=HB4.out.trans (Range.setR_below w.heap.size (Nat.le_succ _) y)
  have HS9:Hid (Range.Lies (Range.setR W4 (w.heap.size+1) y) (fun g=>w.heap.size+1<g) (plainR o) y):=(hly.mono fun g hg _=>by omega).keep (Range.setR_keep (Nat.lt_irrefl _) y)
  have HQ:Hid (Simpled r (plainR o)):=.inl ⟨HG.out,o,⟨hno.1,fun c=>by rw [hno.2,H3.out.1.inR,H3.out.2]⟩,by omega,rfl⟩
  obtain ⟨_,hfz,r0,r1,r2,r3,r4,r5,r6⟩:=HZ4.out
  clear hly hb HZ3 HB3 HZ4 HB4
  go_wp2
  change bodyPost _ _ _ _ _ (Range.setR W4 (w.heap.size+1) y)
  generalize Range.setR W4 (w.heap.size+1) y=W9 at HK9 HB9 HS9 ⊢
  obtain ⟨_,_,z0,z1,z2,z3,z4,z5,z6⟩:=HK9.out
  exact bodyPost_ret (v:=.agg #[y.kind,y.v.a,y.v.b,y.v.c,.slice y.A y.v.pre.length y.c,.slice y.B y.v.build.length y.d,.slice y.L y.n y.e]) (by simp [results,Tryz.results15,go_sem,z0,z1,z2,z3,z4,z5,z6]) rfl ⟨y,_,rfl,HS9.out,HB9.out,HQ.out⟩
 | false =>
  have HG:=Lib.hid hg
  clear hg
  have HZ4:=HZ2
  have HB4:=HB2
  have HK9:=Lib.hid (Range.setR_at (x:=(zeroRV 0)) HZ4.out)
  have HB9:Hid (Below w.heap.size w (Range.setR W2 (w.heap.size+1) (zeroRV 0))):=HB4.out.trans (Range.setR_below w.heap.size (Nat.le_succ _) (zeroRV 0))
  have HS9:Hid (Range.Lies (Range.setR W2 (w.heap.size+1) (zeroRV 0)) (fun g=>w.heap.size+1<g) noRng (zeroRV 0)):=Range.Lies.zero _ _ 0
  have HQ:Hid (Simpled r noRng):=.inr ⟨HG.out,rfl⟩
  obtain ⟨_,hfz,r0,r1,r2,r3,r4,r5,r6⟩:=HZ2.out
  clear HR2
  go_wp2
  change bodyPost _ _ _ _ _ (Range.setR W2 (w.heap.size+1) (zeroRV 0))
  generalize Range.setR W2 (w.heap.size+1) (zeroRV 0)=W9 at HK9 HB9 HS9 ⊢
  obtain ⟨_,_,z0,z1,z2,z3,z4,z5,z6⟩:=HK9.out
  exact bodyPost_ret (v:=.agg #[.int .i64 (zeroRV 0).kind,.int .u64 ((zeroRV 0).v.a),.int .u64 ((zeroRV 0).v.b),.int .u64 ((zeroRV 0).v.c),.slice (zeroRV 0).A (zeroRV 0).v.pre.length (zeroRV 0).c,.slice (zeroRV 0).B (zeroRV 0).v.build.length (zeroRV 0).d,.slice (zeroRV 0).L (zeroRV 0).n (zeroRV 0).e]) (by simp [results,Tryz.results15,go_sem,z0,z1,z2,z3,z4,z5,z6]) rfl ⟨(zeroRV 0),_,rfl,HS9.out,HB9.out,HQ.out⟩
end Go.Proofs.YtgfbflnhjpbceaaGreatDoor.Nrm
namespace Go.Proofs.YtgfbflnhjpbceaaGreatDoor.Nrm
open Go.RowKit Num Ident Semver Prec Span
open Range (Rng noRng goodR goodL fits wt wtL RV RAt OpsTab Keep KeepS LtB zeroRV)
theorem awake_any (w:World) (htab:Tab w) (ht:OpsTab w) :
  Calls Tryz.prog 8 #[] w fun e w'=>e=.returned (.bool true)∧Below w.heap.size w w':=by
 have HT:=Lib.hid ht
 have HTab:=Lib.hid htab
 clear ht htab
 have HK:=Lib.hid exA_read
 go_enter Tryz.func8,Tryz.ntmps8
 go_wp2_with fail
 refine (Range.read_any ⟨#[94,49,46,50,46,48,44,32,33,61,49,46,51,46,48]⟩ _ (by decide) HT.out).mono ?_
 rw [show (⟨#[94,49,46,50,46,48,44,32,33,61,49,46,51,46,48]⟩:ByteArray).data.toList=exA from rfl,HK.out]
 generalize hr:rA=r
 rintro e V1 ⟨x,rfl,lx,hb⟩
 unfold RV.agg
 simp only at lx ⊢
 have HB2:Hid (Below w.heap.size w (V1.alloc x)):=hb.alloc hb.size _
 have HX2:Hid (Range.Lies (V1.alloc x) (LtB (V1.alloc x).heap.size) r x):=(lx.keep (KeepS.alloc _ _)).mono fun _ _ h=>h
 have HR2:Hid (RAt (V1.alloc x) V1.heap.size x):=RAt.new V1 _ x
 clear hb lx
 go_upto_region 2 with (fail)
 generalize V1.alloc x=V2 at HB2 HX2 HR2 ⊢
 obtain ⟨y1,y2,c0,c1,c2,c3,c4,c5,c6⟩:=HR2.out
 go_wp2_with fail
 refine (simple_any r x V2.heap.size V2 HX2.out (Nat.le_refl _) (by rw [← hr]; exact Range.LenOk.of_wt 3 _ (by decide) (by decide)) (fun _=>.inl (by rw [← hr]; decide))).mono ?_
 rintro e V3 ⟨y,s,rfl,ly,hb,hs⟩
 have HS:Hid (s=plainR oA):=by
  refine Lib.hid ?_
  rcases hs with ⟨hg,o,ho,_,he⟩ | ⟨hg,_⟩
  ·rw [he]
   rw [← hr] at ho
   rw [ho.one oA_set]
  ·rw [← hr,rA_good] at hg; cases hg
 have HB3:=Lib.hid (HB2.out.trans (hb.mono HB2.out.size))
 have HY3:Hid (Range.Lies V3 (LtB V3.heap.size) s y):=ly.mono fun _ _ h=>h
 clear hb ly hs HX2 HR2 HB2 y1 y2 c0 c1 c2 c3 c4 c5 c6
 have hs:=HS.out
 subst hs
 unfold RV.agg
 go_wp2_with fail
 refine (Range.text_any (plainR oA) y V3.heap.size V3 HY3.out (Nat.le_refl _) (plain_good oA_norm) (by decide) (by rw [oA_text]; decide) (HT.out.keep (Keep.of_below HB3.out)) (HTab.out.kept HB3.out)).mono ?_
 rw [oA_text]
 rintro e V4 ⟨rfl,hb⟩
 have HB4:=Lib.hid (HB3.out.trans (hb.mono HB3.out.size))
 clear hb
 have hq:((mk exT).toList == [62,61,49,46,50,46,48,44,32,60,50,46,48,46,48,45,48,44,32,33,61,49,46,51,46,48])=true:=by rw [Lib.toList_data]; decide
 go_wp2
 go_ret
 exact ⟨rfl,HB4.out⟩
end Go.Proofs.YtgfbflnhjpbceaaGreatDoor.Nrm
namespace Go.Proofs.YtgfbflnhjpbceaaGreatDoor.Nrm
open Go.RowKit Num Ident Semver Prec Span
open Range (Rng noRng goodR goodL fits wt wtL RV RAt OpsTab Keep KeepS LtB zeroRV LenOk)
theorem zero_of {l r:List RSp} {n:Nat} (h:l.map RSp.sp=r.map RSp.sp) (hr:Rights (l.map RSp.sp)) (hn:n≤l.length):Zero l r n:=by
 refine Like.zero ?_ hr (h ▸ hr) hn
 rw [h]; exact Like.self
theorem rof_one {r:Rng} {a b:List Sp} (ha:if goodR r 0=true then SetOf r a else a=[]) (hb:ROf r b):a=b∧Rights a:=by
 unfold ROf at hb
 cases hg:goodR r 0 with
 | true =>
  rw [hg,if_pos rfl] at ha hb
  exact ⟨ha.one hb,ha.1.rights⟩
 | false =>
  rw [hg,if_neg (by decide)] at ha hb
  rw [ha,hb]; exact ⟨rfl,fun s hs=>by cases hs⟩
theorem normal_one {o p:List Sp} (h:NormalOf o p) (hn:Norm o):p=o:=uniq h.1 hn fun c=>(h.2 c).trans (hn.inR c)
theorem normSets_any (r:Rng) (x:RV) (w:World) (hx:Range.Lies w (LtB w.heap.size) r x) (lo:LenOk r) (htab:Tab w) (ht:OpsTab w) :
  Calls Tryz.prog 3 #[x.agg] w fun e w'=>e=.returned (.bool true)∧Below w.heap.size w w':=by
 have HB0:Hid (Below w.heap.size w (w.alloc x)):=(Below.refl _ _).alloc (Nat.le_refl _) _
 have HR0:Hid (RAt (w.alloc x) w.heap.size x):=RAt.new w _ x
 unfold RV.agg
 go_enter Tryz.func3,Tryz.ntmps3
 go_upto_region 1 with (fail)
 generalize w.alloc x=W0 at HB0 HR0 ⊢
 obtain ⟨y1,y2,c0,c1,c2,c3,c4,c5,c6⟩:=HR0.out
 go_wp2_with fail
 refine (awake_any _ (htab.kept HB0.out) (ht.keep (Keep.of_below HB0.out))).mono ?_
 rintro e W1 ⟨rfl,hb⟩
 clear y1 y2 c0 c1 c2 c3 c4 c5 c6
 have HB1:=Lib.hid (HB0.out.trans (hb.mono HB0.out.size))
 have HR1:=Lib.hid (HR0.out.kept hb HR0.out.1)
 clear hb HB0 HR0
 obtain ⟨y1,y2,c0,c1,c2,c3,c4,c5,c6⟩:=HR1.out
 go_wp2_with fail
 refine (great_full (wt r) r x w.heap.size 20 W1 (Nat.le_refl _) lo (hx.keep (KeepS.of_below (S:=LtB w.heap.size) HB1.out)) HB1.out.size).mono ?_
 rintro e W2 ⟨zi,rfl,hz,hb⟩
 have HZ:=Lib.hid hz
 clear hz
 clear y1 y2 c0 c1 c2 c3 c4 c5 c6
 have HB2:=Lib.hid (HB1.out.trans (hb.mono HB1.out.size))
 have HR2:=Lib.hid (HR1.out.kept hb HR1.out.1)
 clear hb HB1 HR1
 obtain ⟨y1,y2,c0,c1,c2,c3,c4,c5,c6⟩:=HR2.out
 by_cases hz:20<zi
 ·go_wp2
  go_ret
  exact ⟨rfl,HB2.out⟩
 have hwa:goodR r 0=true→wt r≤20:=fun hg=>by
  have h1:=HZ.out.small (by decide) hz ⟨0,hg⟩
  have h2:=wt_tot r
  omega
 clear HZ
 go_wp2_with fail
 refine (of_any r x w.heap.size W2 (hx.keep (KeepS.of_below (S:=LtB w.heap.size) HB2.out)) HB2.out.size lo (fun hg=>by have:=hwa hg; omega)).mono ?_
 rintro e W3 ⟨A1,n1,k1,o1,rfl,q1,q2,q3,_,_,_,hb⟩
 have HS1:=Lib.hid q1
 have HN1:=Lib.hid q3
 clear q1 q3
 have hn1:n1≤100000:=by
  cases hg:goodR r 0 with
  | true=>have:=hwa hg; omega
  | false =>
   have h:=HN1.out
   rw [if_neg (by rw [hg]; decide)] at h
   have h2:=HS1.out.1
   have h3:=congrArg List.length h
   rw [List.length_map,h2] at h3
   rw [h3]; exact Nat.zero_le _
 clear q2
 clear y1 y2 c0 c1 c2 c3 c4 c5 c6
 have HB3:=Lib.hid (HB2.out.trans (hb.mono HB2.out.size))
 have HR3:=Lib.hid (HR2.out.kept hb HR2.out.1)
 clear hb HB2 HR2
 obtain ⟨y1,y2,c0,c1,c2,c3,c4,c5,c6⟩:=HR3.out
 go_wp2_with fail
 refine (refOf_any r x W3 (hx.keep (KeepS.of_below (S:=LtB w.heap.size) HB3.out) |>.mono fun _ h _=>Nat.lt_of_lt_of_le h HB3.out.size) lo (fun hg=>by have:=hwa hg; omega)).mono ?_
 rintro e W4 ⟨A2,n2,k2,o2,rfl,q1,q2,q3,q4,hb⟩
 have HS2:=Lib.hid q1
 have HN2:=Lib.hid q2
 have HK2:=Lib.hid q4
 clear q1 q2 q4
 clear y1 y2 c0 c1 c2 c3 c4 c5 c6
 have HB4:=Lib.hid (HB3.out.trans (hb.mono HB3.out.size))
 have HR4:=Lib.hid (HR3.out.kept hb HR3.out.1)
 replace HS1:=Lib.hid (HS1.out.kept hb)
 clear hb HB3 HR3
 obtain ⟨y1,y2,c0,c1,c2,c3,c4,c5,c6⟩:=HR4.out
 have HEq:=Lib.hid (rof_one HN1.out HN2.out)
 have h12:n1=n2:=by
  have h:=congrArg List.length HEq.out.1
  rw [List.length_map,List.length_map,HS1.out.1,HS2.out.1] at h; exact h
 subst h12
 go_wp2_with fail
 refine (Range.refGoodR_full (wt r) r x w.heap.size 0 W4 (Nat.le_refl _) lo (hx.keep (KeepS.of_below (S:=LtB w.heap.size) HB4.out)) HB4.out.size (by omega)).mono ?_
 rintro e W5 ⟨rfl,hb⟩
 clear y1 y2 c0 c1 c2 c3 c4 c5 c6
 have HB5:=Lib.hid (HB4.out.trans (hb.mono HB4.out.size))
 have HR5:=Lib.hid (HR4.out.kept hb HR4.out.1)
 replace HS1:=Lib.hid (HS1.out.kept hb)
 replace HS2:=Lib.hid (HS2.out.kept hb)
 clear hb HB4 HR4
 obtain ⟨y1,y2,c0,c1,c2,c3,c4,c5,c6⟩:=HR5.out
 go_wp2_with fail
 refine (refSameS_any A1 n1 k1 o1 A2 k2 o2 W5 HS1.out HS2.out hn1 (zero_of HEq.out.1 HEq.out.2 (by rw [HS1.out.1]; exact Nat.le_refl _))).mono ?_
 rintro e W6 ⟨rfl,hb⟩
 clear y1 y2 c0 c1 c2 c3 c4 c5 c6
 have HB6:=Lib.hid (HB5.out.trans (hb.mono HB5.out.size))
 have HR6:=Lib.hid (HR5.out.kept hb HR5.out.1)
 replace HS1:=Lib.hid (HS1.out.kept hb)
 replace HS2:=Lib.hid (HS2.out.kept hb)
 clear hb HB5 HR5
 obtain ⟨y1,y2,c0,c1,c2,c3,c4,c5,c6⟩:=HR6.out
 go_wp2_with fail
 refine (empty_any r x W6 (hx.keep (KeepS.of_below (S:=LtB w.heap.size) HB6.out) |>.mono fun _ h _=>Nat.lt_of_lt_of_le h HB6.out.size) lo (fun hg=>by have:=hwa hg; omega)).mono ?_
 rintro e W7 ⟨bb,rfl,he1,he2,hb⟩
 have HE1:=Lib.hid he1
 have HE2:=Lib.hid he2
 clear he1 he2
 clear y1 y2 c0 c1 c2 c3 c4 c5 c6
 have HB7:=Lib.hid (HB6.out.trans (hb.mono HB6.out.size))
 have HR7:=Lib.hid (HR6.out.kept hb HR6.out.1)
 replace HS1:=Lib.hid (HS1.out.kept hb)
 replace HS2:=Lib.hid (HS2.out.kept hb)
 clear hb HB6 HR6
 obtain ⟨y1,y2,c0,c1,c2,c3,c4,c5,c6⟩:=HR7.out
 cases hg:goodR r 0 with
 | false =>
  have HG:=Lib.hid hg
  obtain rfl:bb=false:=HE1.out hg
  clear hg HE1 HE2
  go_wp2_with fail
  refine (simple_any r x w.heap.size W7 (hx.keep (KeepS.of_below (S:=LtB w.heap.size) HB7.out)) HB7.out.size lo (fun hg=>.inl (by have:=hwa hg; omega))).mono ?_
  rintro e W8 ⟨y,s,rfl,hly,hb,hs⟩
  unfold RV.agg
  have HLy:=Lib.hid hly
  clear hly
  clear y1 y2 c0 c1 c2 c3 c4 c5 c6
  have HB8:=Lib.hid (HB7.out.trans (hb.mono HB7.out.size))
  have HR8:=Lib.hid (HR7.out.kept hb HR7.out.1)
  replace HS1:=Lib.hid (HS1.out.kept hb)
  replace HS2:=Lib.hid (HS2.out.kept hb)
  clear hb HB7 HR7
  obtain rfl:s=noRng:=by
   rcases hs with ⟨h,_⟩ | ⟨_,h⟩
   ·rw [HG.out] at h; cases h
   ·exact h
  clear hs
  go_upto_region 12 with (fail)
  have HB9:Hid (Below w.heap.size w (W8.alloc y)):=HB8.out.alloc HB8.out.size _
  have hb:Below W8.heap.size W8 (W8.alloc y):=(Below.refl _ _).alloc (Nat.le_refl _) _
  have HY9:=Lib.hid (RAt.new W8 28 y)
  have HLz:Hid (Range.Lies (W8.alloc y) (LtB (W8.alloc y).heap.size) noRng y):=(HLy.out.keep (KeepS.of_below hb)).mono fun _ h hl=>hl
  replace HS2:=Lib.hid (HS2.out.kept hb)
  obtain ⟨gy,hgy⟩:∃ g,W8.heap.size=g:=⟨_,rfl⟩
  generalize W8.alloc y=W9 at HB9 HY9 HLz HS2 ⊢
  rw [hgy] at HY9 ⊢
  clear hb hgy HB8 HLy HR8
  obtain ⟨y1,y2,c0,c1,c2,c3,c4,c5,c6⟩:=HY9.out
  go_wp2_with fail
  refine (Range.refSame_all (wt noRng) noRng y (zeroRV 0) W9.heap.size W9 (Nat.le_refl _) (LenOk.of_wt 179 _ (by decide) (by decide)) HLz.out.weak (Range.Weak.zero _ _ 0) (Nat.le_refl _)).mono ?_
  rintro e V ⟨rfl,hb⟩
  have HBV:=Lib.hid (HB9.out.trans (hb.mono HB9.out.size))
  clear hb y1 y2 c0 c1 c2 c3 c4 c5 c6
  go_wp2
  go_ret
  exact ⟨rfl,HBV.out⟩
 | true =>
  have HG:=Lib.hid hg
  obtain ⟨oe,ne,hoe,hle,hbe⟩:=HE2.out hg
  have hne:ne=n1:=by
   have h:=HN2.out
   unfold ROf at h
   rw [HG.out,if_pos rfl] at h
   rw [← hle,hoe.one h,List.length_map,HS2.out.1]
  subst hne
  subst hbe
  have qe:(((ne:Int) == 0) != ((ne:Int) == 0))=false:=by simp
  clear hg HE1 HE2 hoe hle
  go_wp2_with fail
  refine (simple_any r x w.heap.size W7 (hx.keep (KeepS.of_below (S:=LtB w.heap.size) HB7.out)) HB7.out.size lo (fun hg=>.inl (by have:=hwa hg; omega))).mono ?_
  rintro e W8 ⟨y,s,rfl,hly,hb,hs⟩
  unfold RV.agg
  have HLy:=Lib.hid hly
  clear hly
  clear y1 y2 c0 c1 c2 c3 c4 c5 c6
  have HB8:=Lib.hid (HB7.out.trans (hb.mono HB7.out.size))
  have HR8:=Lib.hid (HR7.out.kept hb HR7.out.1)
  replace HS1:=Lib.hid (HS1.out.kept hb)
  replace HS2:=Lib.hid (HS2.out.kept hb)
  clear hb HB7 HR7
  have hsr:∃ o,SetOf r o∧s=plainR o:=by
   rcases hs with ⟨_,o,h1,_,h2⟩ | ⟨h,_⟩
   ·exact ⟨o,h1,h2⟩
   ·rw [HG.out] at h; cases h
  obtain ⟨o,ho,rfl⟩:=hsr
  clear hs
  have HSo:Hid (SetOf r (o2.map RSp.sp)):=by have h:=HN2.out; unfold ROf at h; rw [HG.out] at h; exact h
  obtain rfl:o=o2.map RSp.sp:=ho.one HSo.out
  have hwt:wt (plainR (o2.map RSp.sp))≤400:=by
   have h:=plain_wt HSo.out.1
   have h2:=set_len HSo.out
   have h3:=hwa HG.out
   omega
  have hn2:ne≤1000:=by
   have h2:=set_len HSo.out
   have h3:=hwa HG.out
   rw [List.length_map,HS2.out.1] at h2
   omega
  clear ho
  go_upto_region 13 with (fail)
  have HB9:Hid (Below w.heap.size w (W8.alloc y)):=HB8.out.alloc HB8.out.size _
  have hb:Below W8.heap.size W8 (W8.alloc y):=(Below.refl _ _).alloc (Nat.le_refl _) _
  have HY9:=Lib.hid (RAt.new W8 28 y)
  have HLz:Hid (Range.Lies (W8.alloc y) (LtB (W8.alloc y).heap.size) (plainR (o2.map RSp.sp)) y):=(HLy.out.keep (KeepS.of_below hb)).mono fun _ h hl=>hl
  replace HS2:=Lib.hid (HS2.out.kept hb)
  obtain ⟨gy,hgy⟩:∃ g,W8.heap.size=g:=⟨_,rfl⟩
  generalize W8.alloc y=W9 at HB9 HY9 HLz HS2 ⊢
  rw [hgy] at HY9 ⊢
  clear hb hgy HB8 HLy HR8
  replace HB9:Hid (Below w.heap.size w W9.drew):=HB9.out.drew
  replace HY9:Hid (RAt W9.drew gy y):=HY9.out
  have hbd:Below W9.heap.size W9 W9.drew:=(Below.refl _ _).drew
  replace HS2:=Lib.hid (HS2.out.kept hbd)
  replace HLz:Hid (Range.Lies W9.drew (LtB W9.drew.heap.size) (plainR (o2.map RSp.sp)) y):=HLz.out.keep (KeepS.of_below hbd)
  clear hbd
  refine wp_region_held_drew (S:=fun w'=>RAt w' gy y) (by kernel_rfl) HY9.out (fun hHeld=>?_)
  generalize W9.drew=V0 at HB9 HY9 HS2 HLz hHeld ⊢
  refine tk 0 rfl y ?_ fun w' hS'=>by obtain ⟨y1,y2,c0,c1,c2,c3,c4,c5,c6⟩:=hS'; go_simp
  refine tk 1 rfl (.slice A2 ne k2) ?_
  refine cl 2 rfl fun K hK=>?_
  go_simp
  refine (refPlain_any A2 ne k2 o2 V0 HS2.out HK2.out hn2).mono ?_
  rintro e V1 ⟨p,hp,z,he,hz,hb⟩
  unfold RV.agg at he
  subst he
  obtain rfl:p=o2.map RSp.sp:=normal_one hp HSo.out.1
  have HBV:=Lib.hid (HB9.out.trans (hb.mono HB9.out.size))
  have HYV:=Lib.hid (HY9.out.kept hb HY9.out.1)
  have HW1:Hid (Range.Weak V1 (LtB V1.heap.size) (plainR (o2.map RSp.sp)) y):=(HLz.out.keep (KeepS.of_below hb)).weak.mono fun _ h hl=>hl
  have HW2:Hid (Range.Weak V1 (LtB V1.heap.size) (plainR (o2.map RSp.sp)) z):=hz.mono fun _ _ hl=>hl
  clear hb hz hp hHeld
  refine hK.out _ _ HYV.out (fun hHeld=>?_)
  clear hK K
  try simp only [Act.put,p1,p2,p3]
  refine cl 3 rfl fun K hK=>?_
  go_simp
  refine (Range.refSame_all (wt (plainR (o2.map RSp.sp))) _ y z V1.heap.size V1 (Nat.le_refl _) (LenOk.of_wt 400 _ hwt (by decide)) HW1.out HW2.out (Nat.le_refl _)).mono ?_
  rintro e V2 ⟨rfl,hb⟩
  have HBX:=Lib.hid (HBV.out.trans (hb.mono HBV.out.size))
  have HYX:=Lib.hid (HYV.out.kept hb HYV.out.1)
  clear hb hHeld
  refine hK.out _ _ HYX.out (fun hHeld=>?_)
  clear hK K
  try simp only [Act.put,p1,p2,p3]
  refine tk 4 rfl (.bool true) ?_
  refine wpAnyH_done (by kernel_rfl) ?_ _
  go_wp2
  go_ret
  exact ⟨rfl,HBX.out⟩
end Go.Proofs.YtgfbflnhjpbceaaGreatDoor.Nrm
