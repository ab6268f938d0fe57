/-
  What the theorem of the last text needs of these: RgSevE, RgSevO, MoPlain, MoMem, RgExpr. Conditions: as each theorem states.
-/
import Derived.Test.YtgakcdcfblgagaaDoorJoA1
import Derived.Test.YtgakcdcfblgagaaDoorJoA4
import Derived.Test.YtgakcdcfblgagaaDoorJoA7
import Derived.Test.YtgakcdcfblgagaaDoorJoA8
import Derived.Test.YtgakcdcfblgagaaDoorJoA9
set_option maxRecDepth 100000
set_option maxHeartbeats 25600000
namespace Go.Proofs.YtgakcdcfblgagaaDoor.Range
open Go.RowKit Num Ident Semver

def SevJE (w:World) (b:Nat) (A:Option Addr) (n c:Nat) (l:List UInt8) (kind deep:Int) (pf:List UInt8→Out) (fur:List UInt8→Option (List UInt8)) (tot:Out) (a':Act) (W:World):Prop :=
 ∃ (acc:List Rng) (xs:List RV) (q:Nat) (t:List UInt8) (k:Nat) (v:Value) (u11 u12 u13 u14 u15 u16 u17 u18 u19 u20 u21 u22 u23 u24 u25 u26 u27 u28 u29 u30 u31 u32 u33 u34 u35:Value),Rd W b A n c q∧Pl l q t∧Moved b w W∧RAt W w.heap.size (zeroRV 0)∧OwnRg W (w.heap.size+1) v acc xs∧acc.length+t.length≤l.length∧t.length<k∧sev pf fur kind k acc t=tot ∧
  a'={ tmps:=#[.int .i64 kind,.int .i64 deep,.func (.func 67) #[.pointer (some ⟨b,0,none⟩)] #[],.func (.func 68) #[.pointer (some ⟨b,0,none⟩)] #[],undef,undef,undef,undef,.pointer (some ⟨w.heap.size,0,none⟩),.int .i64 0,v,u11,u12,u13,u14,u15,u16,u17,u18,u19,u20,u21,u22,u23,u24,u25,u26,u27,u28,u29,u30,u31,u32,u33,u34,u35],defers:=[] }
theorem severalE (b:Nat) (A:Option Addr) (n c p:Nat) (l s:List UInt8) (kind deep:Int) (pf:List UInt8→Out) (fur:List UInt8→Option (List UInt8)) (w:World) (hR:Rd w b A n c p) (hr:Row w A n l) (hn:n≤30000000) (hs:Pl l p s) (ht:OpsTab w) (hpr:Prog pf) (hfa:Falls fur) (hpc:∀ s,Piece (pf s).2.1 s)
  (hp:∀ W q t,Rd W b A n c q→Row W A n l→OpsTab W→Pl l q t→Calls Tryd.prog 67 #[.pointer (some ⟨b,0,none⟩),.int .i64 deep] W (RgPost b A n c l W (pf t)))
  (hf:∀ W q t,Rd W b A n c q→Row W A n l→Pl l q t→Calls Tryd.prog 68 #[.pointer (some ⟨b,0,none⟩)] W (FurPost b A n c q l W (fur t))) :
  Calls Tryd.prog 66 #[.int .i64 kind,.int .i64 deep,.func (.func 67) #[.pointer (some ⟨b,0,none⟩)] #[],.func (.func 68) #[.pointer (some ⟨b,0,none⟩)] #[]] w (RgPost b A n c l w (sev pf fur kind (s.length+1) [] s)):=by
 have hbw:=hR.lt
 have HP:=Lib.hid hs
 have HL:=Lib.hid hr.1
 have HR:=Lib.hid hR
 have HRow:=Lib.hid hr
 have HT:=Lib.hid ht
 have HPR:=Lib.hid hpr
 have HFA:=Lib.hid hfa
 have HPC:=Lib.hid hpc
 have HPF:=Lib.hid hp
 have HFU:=Lib.hid hf
 have H7:Hid (RAt (w.alloc ()) w.heap.size (zeroRV 0)):=RAt.new w 51 (zeroRV 0)
 have HM:Hid (Moved b w (w.alloc ())):=(Moved.refl b w).alloc hbw _
 have hne:w.heap.size≠b:=by omega
 clear hR hr hs ht hpr hfa hpc hp hf
 obtain ⟨tot,htot⟩:∃ tot,sev pf fur kind (s.length+1) [] s=tot:=⟨_,rfl⟩
 rw [htot]
 have HTot:=Lib.hid htot
 clear htot
 go_enter Tryd.func66,Tryd.ntmps66
 go_wp2
 refine wp_scope_back 0 (SevJE w b A n c l kind deep pf fur tot) (PsM b n) rfl ?_ ?_
 ·rintro a' W ⟨acc,xs,q,t,k,v,u11,u12,u13,u14,u15,u16,u17,u18,u19,u20,u21,u22,u23,u24,u25,u26,u27,u28,u29,u30,u31,u32,u33,u34,u35,hR1,hP1,hM1,h71,hO1,hlen,hk,htot,rfl⟩
  have HK1:=Lib.hid (HR.out.keep hM1)
  have HRow1:=Lib.hid (row_keep HRow.out HK1.out)
  have HT1:=Lib.hid (HT.out.keep HK1.out)
  have HR1:=Lib.hid hR1
  have HP1:=Lib.hid hP1
  have HM1:=Lib.hid hM1
  have H71:=Lib.hid h71
  have HO1:=Lib.hid hO1
  have HTo:=Lib.hid htot
  have hz1:w.heap.size<W.heap.size:=h71.1
  obtain ⟨k,rfl⟩:∃ j,k=j+1:=⟨k - 1,by omega⟩
  have HRq:=Lib.hid HR1.out
  clear hR1 hP1 hM1 h71 hO1 htot
  go_wp2_with fail
  refine (HPF.out W q t HR1.out HRow1.out HT1.out HP1.out).mono ?_
  rintro e W1 ⟨x,q1,rfl,hx,hP2,hR2,hM2⟩
  unfold RV.agg
  obtain ⟨⟨f,s1,r⟩,hpt⟩:∃ y,pf t=y:=⟨_,rfl⟩
  have HB:=Lib.hid (sev_bad (pf:=pf) (ff:=fur) (kind:=kind) (n:=k) (acc:=acc) (s:=t))
  have HO_:=Lib.hid (fun s'=>sev_on (pf:=pf) (ff:=fur) (kind:=kind) (n:=k) (acc:=acc) (s:=t) (s':=s'))
  have HE:=Lib.hid (sev_end (pf:=pf) (ff:=fur) (kind:=kind) (n:=k) (acc:=acc) (s:=t))
  have HG:=Lib.hid (HPR.out t)
  have HPc:=Lib.hid (HPC.out t)
  rw [hpt] at hx hP2 HB HO_ HE HG HPc ⊢
  simp only at hx hP2 HB HO_ HE HG HPc ⊢
  clear hpt
  have HX1:Hid (Lies W1 (From (w.heap.size+1)) r x):=hx.from_ hz1
  have HXW:Hid (Lies W1 (From W.heap.size) r x):=hx
  have HP2:=Lib.hid hP2
  have HR2:=Lib.hid hR2
  have HM2:=Lib.hid (HM1.out.trans hM2)
  have H72:=Lib.hid (H71.out.moved hM2 hne)
  have HO2:=Lib.hid (HO1.out.moved hM2 (by omega))
  have HOwn:=Lib.hid (fun g h=>(HO1.out.own.lt g h).2)
  have hz2:w.heap.size<W1.heap.size:=H72.out.1
  have hzW:W.heap.size≤W1.heap.size:=hM2.size
  have HRow2:=Lib.hid (row_keep HRow.out (HR.out.keep HM2.out))
  clear hx hP2 hR2 hM2 HR1 HM1 H71 HO1 HRow1 HT1
  by_cases h0:f=0
  ·subst h0
   have hr3:Hid (Rd (W1.alloc x) b A n c q1):=HR2.out.alloc _
   have hm3:Hid (Moved b w (W1.alloc x)):=HM2.out.alloc hbw _
   have h73:Hid (RAt (W1.alloc x) w.heap.size (zeroRV 0)):=H72.out.kept ((Below.refl W1.heap.size W1).alloc (Nat.le_refl _) _) hz2
   have ho3:Hid (OwnRg (W1.alloc x) (w.heap.size+1) v acc xs):=HO2.out.kept ((Below.refl _ _).alloc (Nat.le_refl _) _)
   have hx3:Hid (Lies (W1.alloc x) (From W.heap.size) r x):=HXW.out.keep (KeepS.alloc _ _)
   have ha3:Hid (RAt (W1.alloc x) W1.heap.size x):=RAt.new W1 51 x
   have hw3:Hid (Row (W1.alloc x) A n l):=HRow2.out.kept ((Below.refl _ _).alloc (Nat.le_refl _) _)
   have hacc:(acc.length+1) * 104≤140737488355328:=by rw [HL.out] at hlen; omega
   clear HR2 HM2 H72 HO2 HRow2 HX1 HXW
   obtain ⟨g1,g2,d0,d1,d2,d3,d4,d5,d6⟩:=ha3.out
   go_wp2_with (first
    | (at_builtin
       have ho4:Hid (OwnRg ((W1.alloc x).alloc x) (w.heap.size+1) v acc xs):=ho3.out.kept ((Below.refl _ _).alloc (Nat.le_refl _) _)
       refine wpList_append_rg _ rfl _ _ rfl (w.heap.size+1) v acc.length xs rfl ho4.out.own ⟨W1.heap.size+1,0,none⟩ x rfl (fun j u hu=>by have:=news_new (W1.alloc x) x.vals 51 j u hu; rw [size_alloc] at this; exact this) hacc (by simp; omega) ?_
       intro v' W4 hown hgr hat
       have hR4:Hid (Rd W4 b A n c q1):=(hr3.out.alloc _).grown hgr (by simp; intro e; have:=(ho4.out.own.lt b e.symm).1; omega)
       have hM4:Hid (Moved b w W4):=(hm3.out.alloc hbw _).grown hgr hbw (fun g e=>Nat.le_of_succ_le (ho4.out.own.lt g e).1)
       have h74:Hid (RAt W4 w.heap.size (zeroRV 0)):=(h73.out.kept ((Below.refl _ _).alloc (Nat.le_refl _) _) (by simp; omega)).grown hgr (by intro e; have:=(ho4.out.own.lt _ e.symm).1; omega)
       have hA4:Hid (RAt W4 W1.heap.size x):=(ha3.out.kept ((Below.refl _ _).alloc (Nat.le_refl _) _) (by simp)).grown hgr (by intro e; have:=HOwn.out _ e.symm; omega)
       have hO4:Hid (OwnRg W4 (w.heap.size+1) v' (acc ++ [r]) (xs ++ [x])):=ho4.out.more hown hgr hat (hx3.out.keep (KeepS.alloc _ _)) hz1 HOwn.out
       have hW4:Hid (Row W4 A n l):=row_keep HRow.out (HR.out.keep hM4.out)
       have hX4:Hid (Lies W4 (From (w.heap.size+1)) r x):=by
        have h1:Lies ((W1.alloc x).alloc x) (fun g=>From (w.heap.size+1) g∧some g≠v.ownBlock) r x:=(hx3.out.keep (KeepS.alloc _ _)).mono fun g hS _=>⟨Nat.le_trans hz1 hS,fun e=>by have:=HOwn.out _ e.symm; unfold From at hS; omega⟩
        exact (h1.keep (KeepS.grown hgr fun g hS=>hS.2)).mono fun g hS _=>hS.1
       clear hown hgr hat)
    | fail)
   clear g1 g2 d0 d1 d2 d3 d4 d5 d6 hr3 hm3 h73 ho3 hx3 ha3 hw3
   refine (HFU.out W4 q1 s1 hR4.out hW4.out HP2.out).mono ?_
   rintro e W5 ⟨hM5,hfp⟩
   have HM5:=Lib.hid (hM4.out.trans hM5)
   have H75:=Lib.hid (h74.out.moved hM5 hne)
   have HA5:=Lib.hid (hA4.out.moved hM5 (by omega))
   have HO5:=Lib.hid (hO4.out.moved hM5 (by omega))
   have HX5:Hid (Lies W5 (From (w.heap.size+1)) r x):=hX4.out.keep (KeepS.moved hM5 (fun h=>by unfold From at h; omega))
   clear hM5 hR4 hM4 h74 hA4 hO4 hW4 hX4
   have hprog:=HG.out (by first | rfl | trivial)
   cases hfu:fur s1 with
   | some s2 =>
    rw [hfu] at hfp
    obtain ⟨rfl,q2,hp5,hr5⟩:=hfp
    have HTo2:Hid (sev pf fur kind k (acc ++ [r]) s2=tot):=by
     have:=HO_.out s2 (by first | rfl | trivial) hfu
     exact this.symm.trans HTo.out
    have hl2:=HFA.out s1 s2 hfu
    have HR5:=Lib.hid hr5
    have HP5:=Lib.hid hp5
    clear hr5 hp5 hfu
    go_wp2
    go_step3
    refine ⟨rfl,⟨acc ++ [r],xs ++ [x],q2,s2,k,v',_,_,_,_,_,_,_,_,_,_,_,_,_,_,_,_,_,_,_,_,_,_,_,_,_,HR5.out,HP5.out,HM5.out,H75.out,HO5.out,by rw [List.length_append,List.length_singleton]; omega,by omega,HTo2.out,rfl⟩,?_⟩
    have e1:=HP1.out.len
    have e2:=HP5.out.len
    have e3:=HP1.out.le
    have e4:=HP5.out.le
    exact psM_less HR5.out HRq.out (by rw [HL.out] at e1 e2 e3 e4; omega)
   | none =>
    rw [hfu] at hfp
    obtain ⟨rfl,hr5⟩:=hfp
    have HTo2:Hid (tot=(0,s1,whole kind acc r)):=by
     have:=HE.out (by first | rfl | trivial) hfu
     exact HTo.out.symm.trans this
    have HR5:=Lib.hid hr5
    clear hr5 hfu
    obtain ⟨L,e,rfl,he,hnil,hrow⟩:=HO5.out.row
    have HRw:=Lib.hid hrow
    clear hrow HO5
    obtain ⟨y1,y2,c0,c1,c2,c3,c4,c5,c6⟩:=H75.out
    obtain ⟨g1,g2,d0,d1,d2,d3,d4,d5,d6⟩:=HA5.out
    have hw1:W1.heap.size≠w.heap.size:=by omega
    by_cases hac:acc=[]
    ·subst hac
     have HTo3:Hid (tot=(0,s1,r)):=HTo2.out
     go_wp2
     simp only [Exit.jump]
     exact bodyPost_ret (v:=.tuple #[.agg #[x.kind,x.v.a,x.v.b,x.v.c,.slice x.A x.v.pre.length x.c,.slice x.B x.v.build.length x.d,.slice x.L x.n x.e],.int .i64 0]) (by simp [results,Tryd.results66,go_sem,c0,c1,c2,c3,c4,c5,c6]) rfl (by rw [HTo3.out]; exact rg_end (x:=x) hbw HX5.out HP2.out HR5.out HM5.out)
    ·have hl2:(acc ++ [r]).length≠1:=by
      cases acc with
      | nil=>exact absurd rfl hac
      | cons=>simp
     have HTo3:Hid (tot=(0,s1,.mk kind noVer (acc ++ [r]))):=by have:=HTo2.out; unfold whole at this; rw [if_neg hac] at this; exact this
     generalize acc ++ [r]=al at hl2 he HRw HTo3 ⊢
     have hb1:((al.length:Int) == 1)=false:=by simp; omega
     go_wp2
     simp only [Exit.jump]
     exact bodyPost_ret (v:=.tuple #[.agg #[.int .i64 kind,.int .u64 0,.int .u64 0,.int .u64 0,.slice none 0 0,.slice none 0 0,.slice L al.length e],.int .i64 0]) (by simp [results,Tryd.results66,go_sem,c0,c1,c2,c3,c4,c5,c6]) rfl (by rw [HTo3.out]; exact rg_end (x:=⟨kind,noVer,none,0,none,0,L,al.length,e⟩) hbw (Lies.many kind HRw.out he hnil) HP2.out HR5.out HM5.out)
  ·have HTo2:Hid (tot=(f,s1,noRng)):=HTo.out.symm.trans (HB.out h0)
   have hb1:((f:Int) != 0)=true:=by simp [h0]
   have hb2:((f:Int) == 0)=false:=by simp [h0]
   clear h0 HB HO_ HE
   obtain ⟨y1,y2,c0,c1,c2,c3,c4,c5,c6⟩:=H72.out
   have hw1:W1.heap.size≠w.heap.size:=by omega
   go_wp2
   simp only [Exit.jump]
   exact bodyPost_ret (v:=.tuple #[.agg #[.int .i64 0,.int .u64 0,.int .u64 0,.int .u64 0,.slice none 0 0,.slice none 0 0,.slice none 0 0],.int .i64 f]) (by simp [results,Tryd.results66,go_sem,c0,c1,c2,c3,c4,c5,c6,y1]) rfl (by rw [HTo2.out]; exact (rg_end (x:=zeroRV 0) hbw (Lies.zero _ _ 0) HP2.out HR2.out HM2.out).alloc hbw _)
 ·intro HK
  go_wp2
  go_step3
  rename_i hK
  exact hK _ _ (HK.out _ _ ⟨[],[],p,s,s.length+1,.slice none 0 0,_,_,_,_,_,_,_,_,_,_,_,_,_,_,_,_,_,_,_,_,_,_,_,_,_,HR.out.alloc _,HP.out,HM.out,H7.out,OwnRg.nil _ _,by have:=HP.out.len; have h2:=HP.out.le; simp; omega,Nat.lt_succ_self _,HTot.out,rfl⟩)
end Go.Proofs.YtgakcdcfblgagaaDoor.Range
namespace Go.Proofs.YtgakcdcfblgagaaDoor.Range
open Go.RowKit Num Ident Semver

def SevJO (w:World) (b:Nat) (A:Option Addr) (n c:Nat) (l:List UInt8) (kind deep:Int) (pf:List UInt8→Out) (fur:List UInt8→Option (List UInt8)) (tot:Out) (a':Act) (W:World):Prop :=
 ∃ (acc:List Rng) (xs:List RV) (q:Nat) (t:List UInt8) (k:Nat) (v:Value) (u11 u12 u13 u14 u15 u16 u17 u18 u19 u20 u21 u22 u23 u24 u25 u26 u27 u28 u29 u30 u31 u32 u33 u34 u35:Value),Rd W b A n c q∧Pl l q t∧Moved b w W∧RAt W w.heap.size (zeroRV 0)∧OwnRg W (w.heap.size+1) v acc xs∧acc.length+t.length≤l.length∧t.length<k∧sev pf fur kind k acc t=tot ∧
  a'={ tmps:=#[.int .i64 kind,.int .i64 deep,.func (.func 77) #[.pointer (some ⟨b,0,none⟩)] #[],.func (.func 78) #[.pointer (some ⟨b,0,none⟩)] #[],undef,undef,undef,undef,.pointer (some ⟨w.heap.size,0,none⟩),.int .i64 0,v,u11,u12,u13,u14,u15,u16,u17,u18,u19,u20,u21,u22,u23,u24,u25,u26,u27,u28,u29,u30,u31,u32,u33,u34,u35],defers:=[] }
theorem severalO (b:Nat) (A:Option Addr) (n c p:Nat) (l s:List UInt8) (kind deep:Int) (pf:List UInt8→Out) (fur:List UInt8→Option (List UInt8)) (w:World) (hR:Rd w b A n c p) (hr:Row w A n l) (hn:n≤30000000) (hs:Pl l p s) (ht:OpsTab w) (hpr:Prog pf) (hfa:Falls fur) (hpc:∀ s,Piece (pf s).2.1 s)
  (hp:∀ W q t,Rd W b A n c q→Row W A n l→OpsTab W→Pl l q t→Calls Tryd.prog 77 #[.pointer (some ⟨b,0,none⟩),.int .i64 deep] W (RgPost b A n c l W (pf t)))
  (hf:∀ W q t,Rd W b A n c q→Row W A n l→Pl l q t→Calls Tryd.prog 78 #[.pointer (some ⟨b,0,none⟩)] W (FurPost b A n c q l W (fur t))) :
  Calls Tryd.prog 66 #[.int .i64 kind,.int .i64 deep,.func (.func 77) #[.pointer (some ⟨b,0,none⟩)] #[],.func (.func 78) #[.pointer (some ⟨b,0,none⟩)] #[]] w (RgPost b A n c l w (sev pf fur kind (s.length+1) [] s)):=by
 have hbw:=hR.lt
 have HP:=Lib.hid hs
 have HL:=Lib.hid hr.1
 have HR:=Lib.hid hR
 have HRow:=Lib.hid hr
 have HT:=Lib.hid ht
 have HPR:=Lib.hid hpr
 have HFA:=Lib.hid hfa
 have HPC:=Lib.hid hpc
 have HPF:=Lib.hid hp
 have HFU:=Lib.hid hf
 have H7:Hid (RAt (w.alloc ()) w.heap.size (zeroRV 0)):=RAt.new w 51 (zeroRV 0)
 have HM:Hid (Moved b w (w.alloc ())):=(Moved.refl b w).alloc hbw _
 have hne:w.heap.size≠b:=by omega
 clear hR hr hs ht hpr hfa hpc hp hf
 obtain ⟨tot,htot⟩:∃ tot,sev pf fur kind (s.length+1) [] s=tot:=⟨_,rfl⟩
 rw [htot]
 have HTot:=Lib.hid htot
 clear htot
 go_enter Tryd.func66,Tryd.ntmps66
 go_wp2
 refine wp_scope_back 0 (SevJO w b A n c l kind deep pf fur tot) (PsM b n) rfl ?_ ?_
 ·rintro a' W ⟨acc,xs,q,t,k,v,u11,u12,u13,u14,u15,u16,u17,u18,u19,u20,u21,u22,u23,u24,u25,u26,u27,u28,u29,u30,u31,u32,u33,u34,u35,hR1,hP1,hM1,h71,hO1,hlen,hk,htot,rfl⟩
  have HK1:=Lib.hid (HR.out.keep hM1)
  have HRow1:=Lib.hid (row_keep HRow.out HK1.out)
  have HT1:=Lib.hid (HT.out.keep HK1.out)
  have HR1:=Lib.hid hR1
  have HP1:=Lib.hid hP1
  have HM1:=Lib.hid hM1
  have H71:=Lib.hid h71
  have HO1:=Lib.hid hO1
  have HTo:=Lib.hid htot
  have hz1:w.heap.size<W.heap.size:=h71.1
  obtain ⟨k,rfl⟩:∃ j,k=j+1:=⟨k - 1,by omega⟩
  have HRq:=Lib.hid HR1.out
  clear hR1 hP1 hM1 h71 hO1 htot
  go_wp2_with fail
  refine (HPF.out W q t HR1.out HRow1.out HT1.out HP1.out).mono ?_
  rintro e W1 ⟨x,q1,rfl,hx,hP2,hR2,hM2⟩
  unfold RV.agg
  obtain ⟨⟨f,s1,r⟩,hpt⟩:∃ y,pf t=y:=⟨_,rfl⟩
  have HB:=Lib.hid (sev_bad (pf:=pf) (ff:=fur) (kind:=kind) (n:=k) (acc:=acc) (s:=t))
  have HO_:=Lib.hid (fun s'=>sev_on (pf:=pf) (ff:=fur) (kind:=kind) (n:=k) (acc:=acc) (s:=t) (s':=s'))
  have HE:=Lib.hid (sev_end (pf:=pf) (ff:=fur) (kind:=kind) (n:=k) (acc:=acc) (s:=t))
  have HG:=Lib.hid (HPR.out t)
  have HPc:=Lib.hid (HPC.out t)
  rw [hpt] at hx hP2 HB HO_ HE HG HPc ⊢
  simp only at hx hP2 HB HO_ HE HG HPc ⊢
  clear hpt
  have HX1:Hid (Lies W1 (From (w.heap.size+1)) r x):=hx.from_ hz1
  have HXW:Hid (Lies W1 (From W.heap.size) r x):=hx
  have HP2:=Lib.hid hP2
  have HR2:=Lib.hid hR2
  have HM2:=Lib.hid (HM1.out.trans hM2)
  have H72:=Lib.hid (H71.out.moved hM2 hne)
  have HO2:=Lib.hid (HO1.out.moved hM2 (by omega))
  have HOwn:=Lib.hid (fun g h=>(HO1.out.own.lt g h).2)
  have hz2:w.heap.size<W1.heap.size:=H72.out.1
  have hzW:W.heap.size≤W1.heap.size:=hM2.size
  have HRow2:=Lib.hid (row_keep HRow.out (HR.out.keep HM2.out))
  clear hx hP2 hR2 hM2 HR1 HM1 H71 HO1 HRow1 HT1
  by_cases h0:f=0
  ·subst h0
   have hr3:Hid (Rd (W1.alloc x) b A n c q1):=HR2.out.alloc _
   have hm3:Hid (Moved b w (W1.alloc x)):=HM2.out.alloc hbw _
   have h73:Hid (RAt (W1.alloc x) w.heap.size (zeroRV 0)):=H72.out.kept ((Below.refl W1.heap.size W1).alloc (Nat.le_refl _) _) hz2
   have ho3:Hid (OwnRg (W1.alloc x) (w.heap.size+1) v acc xs):=HO2.out.kept ((Below.refl _ _).alloc (Nat.le_refl _) _)
   have hx3:Hid (Lies (W1.alloc x) (From W.heap.size) r x):=HXW.out.keep (KeepS.alloc _ _)
   have ha3:Hid (RAt (W1.alloc x) W1.heap.size x):=RAt.new W1 51 x
   have hw3:Hid (Row (W1.alloc x) A n l):=HRow2.out.kept ((Below.refl _ _).alloc (Nat.le_refl _) _)
   have hacc:(acc.length+1) * 104≤140737488355328:=by rw [HL.out] at hlen; omega
   clear HR2 HM2 H72 HO2 HRow2 HX1 HXW
   obtain ⟨g1,g2,d0,d1,d2,d3,d4,d5,d6⟩:=ha3.out
   go_wp2_with (first
    | (at_builtin
       have ho4:Hid (OwnRg ((W1.alloc x).alloc x) (w.heap.size+1) v acc xs):=ho3.out.kept ((Below.refl _ _).alloc (Nat.le_refl _) _)
       refine wpList_append_rg _ rfl _ _ rfl (w.heap.size+1) v acc.length xs rfl ho4.out.own ⟨W1.heap.size+1,0,none⟩ x rfl (fun j u hu=>by have:=news_new (W1.alloc x) x.vals 51 j u hu; rw [size_alloc] at this; exact this) hacc (by simp; omega) ?_
       intro v' W4 hown hgr hat
       have hR4:Hid (Rd W4 b A n c q1):=(hr3.out.alloc _).grown hgr (by simp; intro e; have:=(ho4.out.own.lt b e.symm).1; omega)
       have hM4:Hid (Moved b w W4):=(hm3.out.alloc hbw _).grown hgr hbw (fun g e=>Nat.le_of_succ_le (ho4.out.own.lt g e).1)
       have h74:Hid (RAt W4 w.heap.size (zeroRV 0)):=(h73.out.kept ((Below.refl _ _).alloc (Nat.le_refl _) _) (by simp; omega)).grown hgr (by intro e; have:=(ho4.out.own.lt _ e.symm).1; omega)
       have hA4:Hid (RAt W4 W1.heap.size x):=(ha3.out.kept ((Below.refl _ _).alloc (Nat.le_refl _) _) (by simp)).grown hgr (by intro e; have:=HOwn.out _ e.symm; omega)
       have hO4:Hid (OwnRg W4 (w.heap.size+1) v' (acc ++ [r]) (xs ++ [x])):=ho4.out.more hown hgr hat (hx3.out.keep (KeepS.alloc _ _)) hz1 HOwn.out
       have hW4:Hid (Row W4 A n l):=row_keep HRow.out (HR.out.keep hM4.out)
       have hX4:Hid (Lies W4 (From (w.heap.size+1)) r x):=by
        have h1:Lies ((W1.alloc x).alloc x) (fun g=>From (w.heap.size+1) g∧some g≠v.ownBlock) r x:=(hx3.out.keep (KeepS.alloc _ _)).mono fun g hS _=>⟨Nat.le_trans hz1 hS,fun e=>by have:=HOwn.out _ e.symm; unfold From at hS; omega⟩
        exact (h1.keep (KeepS.grown hgr fun g hS=>hS.2)).mono fun g hS _=>hS.1
       clear hown hgr hat)
    | fail)
   clear g1 g2 d0 d1 d2 d3 d4 d5 d6 hr3 hm3 h73 ho3 hx3 ha3 hw3
   refine (HFU.out W4 q1 s1 hR4.out hW4.out HP2.out).mono ?_
   rintro e W5 ⟨hM5,hfp⟩
   have HM5:=Lib.hid (hM4.out.trans hM5)
   have H75:=Lib.hid (h74.out.moved hM5 hne)
   have HA5:=Lib.hid (hA4.out.moved hM5 (by omega))
   have HO5:=Lib.hid (hO4.out.moved hM5 (by omega))
   have HX5:Hid (Lies W5 (From (w.heap.size+1)) r x):=hX4.out.keep (KeepS.moved hM5 (fun h=>by unfold From at h; omega))
   clear hM5 hR4 hM4 h74 hA4 hO4 hW4 hX4
   have hprog:=HG.out (by first | rfl | trivial)
   cases hfu:fur s1 with
   | some s2 =>
    rw [hfu] at hfp
    obtain ⟨rfl,q2,hp5,hr5⟩:=hfp
    have HTo2:Hid (sev pf fur kind k (acc ++ [r]) s2=tot):=by
     have:=HO_.out s2 (by first | rfl | trivial) hfu
     exact this.symm.trans HTo.out
    have hl2:=HFA.out s1 s2 hfu
    have HR5:=Lib.hid hr5
    have HP5:=Lib.hid hp5
    clear hr5 hp5 hfu
    go_wp2
    go_step3
    refine ⟨rfl,⟨acc ++ [r],xs ++ [x],q2,s2,k,v',_,_,_,_,_,_,_,_,_,_,_,_,_,_,_,_,_,_,_,_,_,_,_,_,_,HR5.out,HP5.out,HM5.out,H75.out,HO5.out,by rw [List.length_append,List.length_singleton]; omega,by omega,HTo2.out,rfl⟩,?_⟩
    have e1:=HP1.out.len
    have e2:=HP5.out.len
    have e3:=HP1.out.le
    have e4:=HP5.out.le
    exact psM_less HR5.out HRq.out (by rw [HL.out] at e1 e2 e3 e4; omega)
   | none =>
    rw [hfu] at hfp
    obtain ⟨rfl,hr5⟩:=hfp
    have HTo2:Hid (tot=(0,s1,whole kind acc r)):=by
     have:=HE.out (by first | rfl | trivial) hfu
     exact HTo.out.symm.trans this
    have HR5:=Lib.hid hr5
    clear hr5 hfu
    obtain ⟨L,e,rfl,he,hnil,hrow⟩:=HO5.out.row
    have HRw:=Lib.hid hrow
    clear hrow HO5
    obtain ⟨y1,y2,c0,c1,c2,c3,c4,c5,c6⟩:=H75.out
    obtain ⟨g1,g2,d0,d1,d2,d3,d4,d5,d6⟩:=HA5.out
    have hw1:W1.heap.size≠w.heap.size:=by omega
    by_cases hac:acc=[]
    ·subst hac
     have HTo3:Hid (tot=(0,s1,r)):=HTo2.out
     go_wp2
     simp only [Exit.jump]
     exact bodyPost_ret (v:=.tuple #[.agg #[x.kind,x.v.a,x.v.b,x.v.c,.slice x.A x.v.pre.length x.c,.slice x.B x.v.build.length x.d,.slice x.L x.n x.e],.int .i64 0]) (by simp [results,Tryd.results66,go_sem,c0,c1,c2,c3,c4,c5,c6]) rfl (by rw [HTo3.out]; exact rg_end (x:=x) hbw HX5.out HP2.out HR5.out HM5.out)
    ·have hl2:(acc ++ [r]).length≠1:=by
      cases acc with
      | nil=>exact absurd rfl hac
      | cons=>simp
     have HTo3:Hid (tot=(0,s1,.mk kind noVer (acc ++ [r]))):=by have:=HTo2.out; unfold whole at this; rw [if_neg hac] at this; exact this
     generalize acc ++ [r]=al at hl2 he HRw HTo3 ⊢
     have hb1:((al.length:Int) == 1)=false:=by simp; omega
     go_wp2
     simp only [Exit.jump]
     exact bodyPost_ret (v:=.tuple #[.agg #[.int .i64 kind,.int .u64 0,.int .u64 0,.int .u64 0,.slice none 0 0,.slice none 0 0,.slice L al.length e],.int .i64 0]) (by simp [results,Tryd.results66,go_sem,c0,c1,c2,c3,c4,c5,c6]) rfl (by rw [HTo3.out]; exact rg_end (x:=⟨kind,noVer,none,0,none,0,L,al.length,e⟩) hbw (Lies.many kind HRw.out he hnil) HP2.out HR5.out HM5.out)
  ·have HTo2:Hid (tot=(f,s1,noRng)):=HTo.out.symm.trans (HB.out h0)
   have hb1:((f:Int) != 0)=true:=by simp [h0]
   have hb2:((f:Int) == 0)=false:=by simp [h0]
   clear h0 HB HO_ HE
   obtain ⟨y1,y2,c0,c1,c2,c3,c4,c5,c6⟩:=H72.out
   have hw1:W1.heap.size≠w.heap.size:=by omega
   go_wp2
   simp only [Exit.jump]
   exact bodyPost_ret (v:=.tuple #[.agg #[.int .i64 0,.int .u64 0,.int .u64 0,.int .u64 0,.slice none 0 0,.slice none 0 0,.slice none 0 0],.int .i64 f]) (by simp [results,Tryd.results66,go_sem,c0,c1,c2,c3,c4,c5,c6,y1]) rfl (by rw [HTo2.out]; exact (rg_end (x:=zeroRV 0) hbw (Lies.zero _ _ 0) HP2.out HR2.out HM2.out).alloc hbw _)
 ·intro HK
  go_wp2
  go_step3
  rename_i hK
  exact hK _ _ (HK.out _ _ ⟨[],[],p,s,s.length+1,.slice none 0 0,_,_,_,_,_,_,_,_,_,_,_,_,_,_,_,_,_,_,_,_,_,_,_,_,_,HR.out.alloc _,HP.out,HM.out,H7.out,OwnRg.nil _ _,by have:=HP.out.len; have h2:=HP.out.le; simp; omega,Nat.lt_succ_self _,HTot.out,rfl⟩)
end Go.Proofs.YtgakcdcfblgagaaDoor.Range
namespace Go.Proofs.YtgakcdcfblgagaaDoor.Model
open Go.RowKit Num Ident Semver
open Range (Rng noRng goodR)

open Name (isName)


structure SortOf {α:Type} (le:α→α→Prop) (l l':List α):Prop where
 perm:l'.Perm l
 up:l'.Pairwise le
 same:l.Pairwise le→l'=l
end Go.Proofs.YtgakcdcfblgagaaDoor.Model
namespace Go.Proofs.YtgakcdcfblgagaaDoor.Model
open Go.RowKit Num Ident Semver
open Range (Rng noRng RV KeepS LtB InS LenOk FitV srow_keepS)
open KR (KRow)

structure MDep where
 name:List UInt8
 r:Rng
 x:RV
instance:Inhabited MDep:=⟨⟨[],noRng,default⟩⟩
def MDep.vals (d:MDep):List Value:=.string (Ident.mk d.name) :: d.x.vals
def MDep.p (d:MDep):PDep:=⟨d.name,d.r⟩
def MDep.agg (d:MDep):Value:=.agg #[.string (Ident.mk d.name),d.x.kind,d.x.v.a,d.x.v.b,d.x.v.c,.slice d.x.A d.x.v.pre.length d.x.c,.slice d.x.B d.x.v.build.length d.x.d,.slice d.x.L d.x.n d.x.e]
theorem dep_one (d:MDep):∀ u ∈ d.vals,u.oneCell'=true:=by
 intro u hu
 rcases List.mem_cons.1 hu with rfl | hu
 ·rfl
 ·exact Range.rv_one d.x u hu
theorem depInfo:(Tryd.prog.info? 53).map (fun i=>(i.zero,i.size,i.bytes))=some (some (.agg #[.string ⟨#[]⟩,.int .i64 0,.int .u64 0,.int .u64 0,.int .u64 0,.slice none 0 0,.slice none 0 0,.slice none 0 0]),8,120):=by kernel_rfl
theorem dep_len (d:MDep):d.vals.length=8:=rfl
structure DepOk (w:World) (S:Nat→Prop) (d:MDep):Prop where
 short:d.name.length≤maxLen
 lies:Range.Lies w S d.r d.x
 len:LenOk d.r
 slim:Nrm.Slim d.r
theorem DepOk.keep {w w':World} {S:Nat→Prop} {d:MDep} (h:DepOk w S d) (k:KeepS S w w'):DepOk w' S d:=⟨h.short,h.lies.keep k,h.len,h.slim⟩
theorem DepOk.mono {w:World} {S S':Nat→Prop} {d:MDep} (h:DepOk w S d) (hS:∀ b,S b→b<w.heap.size→S' b):DepOk w S' d:=⟨h.short,h.lies.mono hS,h.len,h.slim⟩
structure DRow (w:World) (S:Nat→Prop) (A:Option Addr) (n:Nat) (l:List MDep):Prop where
 row:KRow MDep.vals 8 w S A n l
 ok:∀ d ∈ l,DepOk w S d
theorem DRow.keep {w w':World} {S:Nat→Prop} {A:Option Addr} {n:Nat} {l:List MDep} (h:DRow w S A n l) (k:KeepS S w w'):DRow w' S A n l:=⟨h.row.keep k,fun d hd=>(h.ok d hd).keep k⟩
theorem DRow.mono {w:World} {S S':Nat→Prop} {A:Option Addr} {n:Nat} {l:List MDep} (h:DRow w S A n l) (hS:∀ b,S b→b<w.heap.size→S' b):DRow w S' A n l:=⟨h.row.mono hS,fun d hd=>(h.ok d hd).mono hS⟩
structure MVer where
 v:Ver
 A:Option Addr
 c:Nat
 B:Option Addr
 d:Nat
instance:Inhabited MVer:=⟨⟨noVer,none,0,none,0⟩⟩
def MVer.vals (x:MVer):List Value:=[.int .u64 x.v.a,.int .u64 x.v.b,.int .u64 x.v.c,.slice x.A x.v.pre.length x.c,.slice x.B x.v.build.length x.d]
def MVer.agg (x:MVer):Value:=.agg #[x.v.a,x.v.b,x.v.c,.slice x.A x.v.pre.length x.c,.slice x.B x.v.build.length x.d]
structure VerOk (w:World) (S:Nat→Prop) (x:MVer):Prop where
 pre:SRow w x.A x.v.pre.length x.v.pre
 build:SRow w x.B x.v.build.length x.v.build
 ip:InS S x.A x.v.pre.length
 ib:InS S x.B x.v.build.length
 cp:x.v.pre.length≤x.c
 cb:x.v.build.length≤x.d
 fit:FitV x.v
theorem VerOk.keep {w w':World} {S:Nat→Prop} {x:MVer} (h:VerOk w S x) (k:KeepS S w w'):VerOk w' S x:=⟨srow_keepS h.pre k h.ip,srow_keepS h.build k h.ib,h.ip,h.ib,h.cp,h.cb,h.fit⟩
theorem VerOk.mono {w:World} {S S':Nat→Prop} {x:MVer} (h:VerOk w S x) (hS:∀ b,S b→b<w.heap.size→S' b):VerOk w S' x:=⟨h.pre,h.build,h.ip.mono h.pre hS,h.ib.mono h.build hS,h.cp,h.cb,h.fit⟩
structure MRel where
 ver:MVer
 yanked:Bool
 N:Option Addr
 nc:Nat
 needs:List MDep
 B:Option Addr
 bc:Nat
 bans:List MDep
instance:Inhabited MRel:=⟨⟨default,false,none,0,[],none,0,[]⟩⟩
def MRel.vals (r:MRel):List Value:=r.ver.vals ++ [.bool r.yanked,.slice r.N r.needs.length r.nc,.slice r.B r.bans.length r.bc]
def MRel.agg (r:MRel):Value:=.agg #[r.ver.v.a,r.ver.v.b,r.ver.v.c,.slice r.ver.A r.ver.v.pre.length r.ver.c,.slice r.ver.B r.ver.v.build.length r.ver.d,.bool r.yanked,.slice r.N r.needs.length r.nc,.slice r.B r.bans.length r.bc]
def MRel.p (r:MRel):PRel:=⟨r.ver.v,r.yanked,r.needs.map MDep.p,r.bans.map MDep.p⟩
theorem rel_len (r:MRel):r.vals.length=8:=rfl
structure RelOk (w:World) (S:Nat→Prop) (r:MRel):Prop where
 ver:VerOk w S r.ver
 needs:DRow w S r.N r.needs.length r.needs
 bans:DRow w S r.B r.bans.length r.bans
 nc:r.needs.length≤r.nc∧r.nc≤maxLen
 bc:r.bans.length≤r.bc∧r.bc≤maxLen
 nn:r.N=none→r.nc=0
 bn:r.B=none→r.bc=0
theorem RelOk.keep {w w':World} {S:Nat→Prop} {r:MRel} (h:RelOk w S r) (k:KeepS S w w'):RelOk w' S r:=⟨h.ver.keep k,h.needs.keep k,h.bans.keep k,h.nc,h.bc,h.nn,h.bn⟩
theorem RelOk.mono {w:World} {S S':Nat→Prop} {r:MRel} (h:RelOk w S r) (hS:∀ b,S b→b<w.heap.size→S' b):RelOk w S' r:=⟨h.ver.mono hS,h.needs.mono hS,h.bans.mono hS,h.nc,h.bc,h.nn,h.bn⟩
structure RRow (w:World) (S:Nat→Prop) (A:Option Addr) (n:Nat) (l:List MRel):Prop where
 row:KRow MRel.vals 8 w S A n l
 ok:∀ r ∈ l,RelOk w S r
theorem RRow.keep {w w':World} {S:Nat→Prop} {A:Option Addr} {n:Nat} {l:List MRel} (h:RRow w S A n l) (k:KeepS S w w'):RRow w' S A n l:=⟨h.row.keep k,fun d hd=>(h.ok d hd).keep k⟩
theorem RRow.mono {w:World} {S S':Nat→Prop} {A:Option Addr} {n:Nat} {l:List MRel} (h:RRow w S A n l) (hS:∀ b,S b→b<w.heap.size→S' b):RRow w S' A n l:=⟨h.row.mono hS,fun d hd=>(h.ok d hd).mono hS⟩
structure MPack where
 name:List UInt8
 R:Option Addr
 rc:Nat
 rels:List MRel
instance:Inhabited MPack:=⟨⟨[],none,0,[]⟩⟩
def MPack.vals (p:MPack):List Value:=[.string (Ident.mk p.name),.slice p.R p.rels.length p.rc]
def MPack.agg (p:MPack):Value:=.agg #[.string (Ident.mk p.name),.slice p.R p.rels.length p.rc]
def MPack.p (p:MPack):PPack:=⟨p.name,p.rels.map MRel.p⟩
theorem pack_len (p:MPack):p.vals.length=2:=rfl
structure PackOk (w:World) (S:Nat→Prop) (p:MPack):Prop where
 short:p.name.length≤maxLen
 rels:RRow w S p.R p.rels.length p.rels
 rc:p.rels.length≤p.rc∧p.rc≤maxLen
 rn:p.R=none→p.rc=0
theorem PackOk.keep {w w':World} {S:Nat→Prop} {p:MPack} (h:PackOk w S p) (k:KeepS S w w'):PackOk w' S p:=⟨h.short,h.rels.keep k,h.rc,h.rn⟩
theorem PackOk.mono {w:World} {S S':Nat→Prop} {p:MPack} (h:PackOk w S p) (hS:∀ b,S b→b<w.heap.size→S' b):PackOk w S' p:=⟨h.short,h.rels.mono hS,h.rc,h.rn⟩
structure PRow (w:World) (S:Nat→Prop) (A:Option Addr) (n:Nat) (l:List MPack):Prop where
 row:KRow MPack.vals 2 w S A n l
 ok:∀ p ∈ l,PackOk w S p
structure MPin where
 name:List UInt8
 ver:MVer
instance:Inhabited MPin:=⟨⟨[],default⟩⟩
def MPin.vals (p:MPin):List Value:=.string (Ident.mk p.name) :: p.ver.vals
def MPin.agg (p:MPin):Value:=.agg #[.string (Ident.mk p.name),p.ver.v.a,p.ver.v.b,p.ver.v.c,.slice p.ver.A p.ver.v.pre.length p.ver.c,.slice p.ver.B p.ver.v.build.length p.ver.d]
def MPin.p (p:MPin):PPin:=⟨p.name,p.ver.v⟩
structure PinOk (w:World) (S:Nat→Prop) (p:MPin):Prop where
 short:p.name.length≤maxLen
 ver:VerOk w S p.ver
theorem PinOk.keep {w w':World} {S:Nat→Prop} {p:MPin} (h:PinOk w S p) (k:KeepS S w w'):PinOk w' S p:=⟨h.short,h.ver.keep k⟩
structure SPRow (w:World) (S:Nat→Prop) (A:Option Addr) (n:Nat) (l:List MPin):Prop where
 row:KRow MPin.vals 6 w S A n l
 ok:∀ p ∈ l,PinOk w S p
theorem SPRow.keep {w w':World} {S:Nat→Prop} {A:Option Addr} {n:Nat} {l:List MPin} (h:SPRow w S A n l) (k:KeepS S w w'):SPRow w' S A n l:=⟨h.row.keep k,fun d hd=>(h.ok d hd).keep k⟩
end Go.Proofs.YtgakcdcfblgagaaDoor.Model
namespace Go.Proofs.YtgakcdcfblgagaaDoor.Range
open Go.RowKit Num Ident Semver

def PartOK (f:FuncId) (b:Nat) (A:Option Addr) (n c:Nat) (l:List UInt8) (deep:Int) (pf:List UInt8→Out):Prop :=
 ∀ (W:World) (q:Nat) (t:List UInt8),Rd W b A n c q→Row W A n l→OpsTab W→Pl l q t→Calls Tryd.prog f #[.pointer (some ⟨b,0,none⟩),.int .i64 deep] W (RgPost b A n c l W (pf t))
theorem every_ok (b:Nat) (A:Option Addr) (n c:Nat) (l:List UInt8) (deep:Int) (pf:List UInt8→Out) (hn:n≤30000000) (hc:n≤c) (hpr:Prog pf) (hpc:Pieces pf) (ho:PartOK 77 b A n c l deep pf):PartOK 67 b A n c l deep (fun s=>sev pf furO 9 (s.length+1) [] s):=by
 intro w p s hR hr ht hs
 have HS:Hid (∀ W,Rd W b A n c p→Row W A n l→OpsTab W→Calls Tryd.prog 66 #[.int .i64 9,.int .i64 deep,.func (.func 77) #[.pointer (some ⟨b,0,none⟩)] #[],.func (.func 78) #[.pointer (some ⟨b,0,none⟩)] #[]] W (RgPost b A n c l W (sev pf furO 9 (s.length+1) [] s))):=fun W h1 h2 h3 =>
  severalO b A n c p l s 9 deep pf furO W h1 h2 hn hs h3 hpr furO_piece.falls hpc ho (fun W q t h1 h2 h3=>furO_any b A n c q l t W h1 h2 hc h3)
 clear ho
 obtain ⟨t,htt⟩:∃ t,sev pf furO 9 (s.length+1) [] s=t:=⟨_,rfl⟩
 rw [htt] at HS
 show Calls _ _ _ _ (RgPost b A n c l w (sev pf furO 9 (s.length+1) [] s))
 rw [htt]
 clear htt
 have hbw:=hR.lt
 have HP:=Lib.hid hs
 have HL:=Lib.hid hr.1
 have HR:=Lib.hid hR
 have HRow:=Lib.hid hr
 have HT:=Lib.hid ht
 have H7:Hid (RAt (w.alloc ()) w.heap.size (zeroRV 0)):=RAt.new w 51 (zeroRV 0)
 have HM:Hid (Moved b w (w.alloc ())):=(Moved.refl b w).alloc hbw _
 have HR0:Hid (Rd (w.alloc ()) b A n c p):=hR.alloc _
 have HRow0:Hid (Row (w.alloc ()) A n l):=hr.kept ((Below.refl _ _).alloc (Nat.le_refl _) _)
 have HT0:Hid (OpsTab (w.alloc ())):=ht.keep (Keep.of_below ((Below.refl _ _).alloc (Nat.le_refl _) _))
 have hne:w.heap.size≠b:=by omega
 have hmf:∀ (fn:Fn) (first cap:Array Value) (w:World),(Instr.makeFunc fn first cap).run Tryd.prog w=.ok (.func fn first cap) w:=fun _ _ _ _=>rfl
 clear hR hr hs ht
 go_enter Tryd.func67,Tryd.ntmps67
 go_wp2_with fail
 refine (HS.out _ HR0.out HRow0.out HT0.out).mono ?_
 rintro e W1 ⟨x,q1,rfl,hx,hP1,hR1,hM1⟩
 unfold RV.agg
 have HX:=Lib.hid hx
 rw [size_alloc] at HX
 have HP1:=Lib.hid hP1
 have HR1:=Lib.hid hR1
 have HM1:=Lib.hid (HM.out.trans hM1)
 have H71:=Lib.hid (H7.out.moved hM1 hne)
 clear hx hP1 hR1 hM1
 obtain ⟨y1,y2,c0,c1,c2,c3,c4,c5,c6⟩:=H71.out
 go_wp2
 exact bodyPost_ret (v:=.tuple #[.agg #[x.kind,x.v.a,x.v.b,x.v.c,.slice x.A x.v.pre.length x.c,.slice x.B x.v.build.length x.d,.slice x.L x.n x.e],.int .i64 t.1]) (by simp [results,Tryd.results67,go_sem,c0,c1,c2,c3,c4,c5,c6]) rfl (rg_end (x:=x) (f:=t.1) (s:=t.2.1) (r:=t.2.2) hbw HX.out HP1.out HR1.out HM1.out)
theorem expr_ok (b:Nat) (A:Option Addr) (n c:Nat) (l:List UInt8) (deep:Int) (pf:List UInt8→Out) (hn:n≤30000000) (hc:n≤c) (hpr:Prog pf) (hpc:Pieces pf) (ho:PartOK 67 b A n c l deep pf):PartOK 60 b A n c l deep (fun s=>sev pf furE 10 (s.length+1) [] s):=by
 intro w p s hR hr ht hs
 have HS:Hid (∀ W,Rd W b A n c p→Row W A n l→OpsTab W→Calls Tryd.prog 66 #[.int .i64 10,.int .i64 deep,.func (.func 67) #[.pointer (some ⟨b,0,none⟩)] #[],.func (.func 68) #[.pointer (some ⟨b,0,none⟩)] #[]] W (RgPost b A n c l W (sev pf furE 10 (s.length+1) [] s))):=fun W h1 h2 h3 =>
  severalE b A n c p l s 10 deep pf furE W h1 h2 hn hs h3 hpr furE_piece.falls hpc ho (fun W q t h1 h2 h3=>furE_any b A n c q l t W h1 h2 hc h3)
 clear ho
 obtain ⟨t,htt⟩:∃ t,sev pf furE 10 (s.length+1) [] s=t:=⟨_,rfl⟩
 rw [htt] at HS
 show Calls _ _ _ _ (RgPost b A n c l w (sev pf furE 10 (s.length+1) [] s))
 rw [htt]
 clear htt
 have hbw:=hR.lt
 have HP:=Lib.hid hs
 have HL:=Lib.hid hr.1
 have HR:=Lib.hid hR
 have HRow:=Lib.hid hr
 have HT:=Lib.hid ht
 have H7:Hid (RAt (w.alloc ()) w.heap.size (zeroRV 0)):=RAt.new w 51 (zeroRV 0)
 have HM:Hid (Moved b w (w.alloc ())):=(Moved.refl b w).alloc hbw _
 have HR0:Hid (Rd (w.alloc ()) b A n c p):=hR.alloc _
 have HRow0:Hid (Row (w.alloc ()) A n l):=hr.kept ((Below.refl _ _).alloc (Nat.le_refl _) _)
 have HT0:Hid (OpsTab (w.alloc ())):=ht.keep (Keep.of_below ((Below.refl _ _).alloc (Nat.le_refl _) _))
 have hne:w.heap.size≠b:=by omega
 have hmf:∀ (fn:Fn) (first cap:Array Value) (w:World),(Instr.makeFunc fn first cap).run Tryd.prog w=.ok (.func fn first cap) w:=fun _ _ _ _=>rfl
 clear hR hr hs ht
 go_enter Tryd.func60,Tryd.ntmps60
 go_wp2_with fail
 refine (HS.out _ HR0.out HRow0.out HT0.out).mono ?_
 rintro e W1 ⟨x,q1,rfl,hx,hP1,hR1,hM1⟩
 unfold RV.agg
 have HX:=Lib.hid hx
 rw [size_alloc] at HX
 have HP1:=Lib.hid hP1
 have HR1:=Lib.hid hR1
 have HM1:=Lib.hid (HM.out.trans hM1)
 have H71:=Lib.hid (H7.out.moved hM1 hne)
 clear hx hP1 hR1 hM1
 obtain ⟨y1,y2,c0,c1,c2,c3,c4,c5,c6⟩:=H71.out
 go_wp2
 exact bodyPost_ret (v:=.tuple #[.agg #[x.kind,x.v.a,x.v.b,x.v.c,.slice x.A x.v.pre.length x.c,.slice x.B x.v.build.length x.d,.slice x.L x.n x.e],.int .i64 t.1]) (by simp [results,Tryd.results60,go_sem,c0,c1,c2,c3,c4,c5,c6]) rfl (rg_end (x:=x) (f:=t.1) (s:=t.2.1) (r:=t.2.2) hbw HX.out HP1.out HR1.out HM1.out)
end Go.Proofs.YtgakcdcfblgagaaDoor.Range
