/-
  What the theorem of the last text needs of these: RgOne, MoRefPins, ShRight, RgRead, ShSameD. Conditions: as each theorem states.
-/
import Derived.Test.YtgakcdcfblgagaaDoorJoA1
import Derived.Test.YtgakcdcfblgagaaDoorJoA8
import Derived.Test.YtgakcdcfblgagaaDoorJoA9
import Derived.Test.YtgakcdcfblgagaaDoorJoA11
set_option maxRecDepth 100000
set_option maxHeartbeats 25600000
namespace Go.Proofs.YtgakcdcfblgagaaDoor.Range
open Go.RowKit Num Ident Semver

def oneD (deep:Int) (pe po:List UInt8→Out) (s:List UInt8):Out :=
 if stands [42] s=true then (0,blanks (s.drop 1),noRng)
 else if stands [40] s=true then shutF (insideF deep 1 pe s)
 else if (opOf s).2=[]∧stands [33] s=true then notF (insideF deep 1 po s)
 else verAt (opOf s).1 (blanks (s.drop (opOf s).2.length))
theorem pone_oneD (k:Nat) (d:Int) (h:d+k=64) (s:List UInt8):pone k s=oneD d (exprF (pone (k - 1))) (pone (k - 1)) s:=by
 cases k with
 | zero =>
  have hd:d=64:=by omega
  subst hd
  rw [pone_zero]
  unfold oneF oneD insideF
  rfl
 | succ k =>
  have hd:d≠64:=by omega
  rw [pone_succ,Nat.add_sub_cancel]
  unfold oneF oneD insideF
  rw [if_neg hd,if_neg hd]
theorem op_stands (s:List UInt8):stands (opOf s).2 s=true:=by
 have hop:∀ (l:List (List UInt8)) (k:Int),stands (opFrom s l k).2 s=true:=by
  intro l
  induction l with
  | nil=>intro k; exact stands_nil s
  | cons t r ih =>
   intro k
   rw [opFrom]
   split
   ·rename_i h; exact h
   ·exact ih _
 exact hop _ _
theorem mk_empty:(mk []).toList.isEmpty=true:=(empty_iff _).2 rfl
theorem mk_some {t:List UInt8} (h:t≠[]):(mk t).toList.isEmpty=false:=(empty_no _).2 fun e=>h (List.eq_nil_of_length_eq_zero e)
theorem mk_eq0:((mk []).toList == (⟨#[]⟩:ByteArray).toList)=true:=by rw [show (⟨#[]⟩:ByteArray)=mk [] from rfl]; simp
theorem mk_ne0 {t:List UInt8} (h:t≠[]):((mk t).toList == (⟨#[]⟩:ByteArray).toList)=false:=by
 rw [Lib.toList_data,Lib.toList_data,beq_eq_false_iff_ne]; exact h
theorem one_ok (b:Nat) (A:Option Addr) (n c:Nat) (l:List UInt8) (deep:Int) (pe po:List UInt8→Out) (hc:n≤c) (hd:0≤deep∧deep≤64) (he:deep≠64→PartOK 60 b A n c l (deep+1) pe) (ho:deep≠64→PartOK 77 b A n c l (deep+1) po):PartOK 77 b A n c l deep (oneD deep pe po):=by
 intro w p s hR hr ht hs
 have hbw:=hR.lt
 have HP:=Lib.hid hs
 have HL:=Lib.hid hr.1
 have HR:=Lib.hid hR
 have HRow:=Lib.hid hr
 have HT:=Lib.hid ht
 have H7:Hid (RAt (w.alloc ()) w.heap.size (zeroRV 0)):=RAt.new w 51 (zeroRV 0)
 have HM:Hid (Moved b w (w.alloc ())):=(Moved.refl b w).alloc hbw _
 have HR0:Hid (Rd (w.alloc ()) b A n c p):=hR.alloc _
 have HRow0:Hid (Row (w.alloc ()) A n l):=hr.kept ((Below.refl _ _).alloc (Nat.le_refl _) _)
 have HT0:Hid (OpsTab (w.alloc ())):=ht.keep (Keep.of_below ((Below.refl _ _).alloc (Nat.le_refl _) _))
 have hne:w.heap.size≠b:=by omega
 have hmf:∀ (fn:Fn) (first cap:Array Value) (w:World),(Instr.makeFunc fn first cap).run Tryd.prog w=.ok (.func fn first cap) w:=fun _ _ _ _=>rfl
 clear hR hr hs ht
 have hpn:p≤n:=by have:=HP.out.le; rw [HL.out] at this; exact this
 have HLE:Hid (∀ t:List UInt8,stands t s=true→p+t.length≤n):=fun t h=>by
  have h1:=stands_len h
  rw [HP.out.len,HL.out] at h1
  omega
 have HOS:=Lib.hid (HLE.out _ (op_stands s))
 have HOL:Hid ((opOf s).2.length≤10):=by
  have:=opFrom_kind s
  rcases this with ⟨_,h⟩ | ⟨_,h⟩ | ⟨_,h⟩ | ⟨_,h⟩ | ⟨_,h⟩ | ⟨_,h⟩ | ⟨_,h⟩ | ⟨_,h⟩ | ⟨_,h⟩ <;> (unfold Hid; rw [h]; decide)
 obtain ⟨t,htt⟩:∃ t,oneD deep pe po s=t:=⟨_,rfl⟩
 rw [htt]
 have HT_:Hid ((if stands [42] s=true then (0,blanks (s.drop 1),noRng) else if stands [40] s=true then shutF (insideF deep 1 pe s) else if (opOf s).2=[]∧stands [33] s=true then notF (insideF deep 1 po s) else verAt (opOf s).1 (blanks (s.drop (opOf s).2.length)))=t):=htt
 clear htt
 have HOP:=Lib.hid (fun W h1 h2 h3=>op_any b A n c p l s W h1 h2 hc HP.out h3)
 obtain ⟨⟨kd,o⟩,hop⟩:∃ z,opOf s=z:=⟨_,rfl⟩
 rw [hop] at HOP HT_ HOS HOL
 simp only at HOP HT_ HOS HOL
 clear hop
 go_enter Tryd.func77,Tryd.ntmps77
 go_wp2_with fail
 refine (HOP.out _ HR0.out HRow0.out HT0.out).mono ?_
 rintro e W1 ⟨rfl,hR,hM⟩
 have HM1:=Lib.hid (HM.out.trans hM)
 have H71:=Lib.hid (H7.out.moved hM hne)
 have HR1:=Lib.hid hR
 have HRow1:=Lib.hid (row_keep HRow.out (HR.out.keep HM1.out))
 have HT1:=Lib.hid (HT.out.keep (HR.out.keep HM1.out))
 clear hR hM HR0 HM H7 HRow0 HT0
 go_wp2_with fail
 refine (stands_any b A n c p l s [42] _ HR1.out HRow1.out hc HP.out (by decide)).mono ?_
 rintro e W2 ⟨rfl,hR,hM⟩
 have HM2:=Lib.hid (HM1.out.trans hM)
 have H72:=Lib.hid (H71.out.moved hM hne)
 have HR2:=Lib.hid hR
 have HRow2:=Lib.hid (row_keep HRow.out (HR.out.keep HM2.out))
 have HT2:=Lib.hid (HT.out.keep (HR.out.keep HM2.out))
 clear hR hM HR1 HM1 H71 HRow1 HT1
 cases h42:stands [42] s with
 | true =>
  have HF:Hid (t=(0,blanks (s.drop 1),noRng)):=HT_.out.symm.trans (if_pos h42)
  have hpm:=HLE.out [42] h42
  clear h42
  go_wp2_with fail
  refine (pass_any b A n c p 1 l s _ HR2.out HRow2.out HP.out hpm).mono ?_
  rintro e W3 ⟨rfl,q3,hP,hR,hM⟩
  have HM3:=Lib.hid (HM2.out.trans hM)
  have H73:=Lib.hid (H72.out.moved hM hne)
  have HR3:=Lib.hid hR
  have HP3:=Lib.hid hP
  clear hR hM hP
  obtain ⟨y1,y2,c0,c1,c2,c3,c4,c5,c6⟩:=H73.out
  go_wp2
  exact bodyPost_ret (v:=.tuple #[.agg #[.int .i64 0,.int .u64 0,.int .u64 0,.int .u64 0,.slice none 0 0,.slice none 0 0,.slice none 0 0],.int .i64 0]) (by simp [results,Tryd.results77,go_sem,c0,c1,c2,c3,c4,c5,c6]) rfl (by rw [HF.out]; exact rg_end (x:=zeroRV 0) (f:=0) hbw (Lies.zero _ _ 0) HP3.out HR3.out HM3.out)
 | false =>
  have HT2_:Hid ((if stands [40] s=true then shutF (insideF deep 1 pe s) else if o=[]∧stands [33] s=true then notF (insideF deep 1 po s) else verAt kd (blanks (s.drop o.length)))=t):=(if_neg (by rw [h42]; simp)).symm.trans HT_.out
  clear h42 HT_
  go_wp2_with fail
  refine (stands_any b A n c p l s [40] _ HR2.out HRow2.out hc HP.out (by decide)).mono ?_
  rintro e W3 ⟨rfl,hR,hM⟩
  have HM3:=Lib.hid (HM2.out.trans hM)
  have H73:=Lib.hid (H72.out.moved hM hne)
  have HR3:=Lib.hid hR
  have HRow3:=Lib.hid (row_keep HRow.out (HR.out.keep HM3.out))
  have HT3:=Lib.hid (HT.out.keep (HR.out.keep HM3.out))
  clear hR hM HR2 HM2 H72 HRow2 HT2
  cases h40:stands [40] s with
  | true =>
   have HF:Hid (shutF (insideF deep 1 pe s)=t):=(if_pos h40).symm.trans HT2_.out
   have HST:=Lib.hid h40
   clear h40
   go_wp2_with fail
   refine (bracket_ok b A n c l p s deep pe _ HR3.out HRow3.out HP.out HT3.out hc hd HST.out he).mono ?_
   rw [HF.out]
   rintro e W4 ⟨x,q4,rfl,hx,hP,hR,hM⟩
   unfold RV.agg
   have hz:w.heap.size<W3.heap.size:=H73.out.1
   have HX:Hid (Lies W4 (From (w.heap.size+1)) t.2.2 x):=hx.from_ hz
   have HPx:=Lib.hid hP
   have HRx:=Lib.hid hR
   have HMx:=Lib.hid (HM3.out.trans hM)
   have H7x:=Lib.hid (H73.out.moved hM hne)
   clear hx hP hR hM
   obtain ⟨y1,y2,c0,c1,c2,c3,c4,c5,c6⟩:=H7x.out
   go_wp2
   exact bodyPost_ret (v:=.tuple #[.agg #[x.kind,x.v.a,x.v.b,x.v.c,.slice x.A x.v.pre.length x.c,.slice x.B x.v.build.length x.d,.slice x.L x.n x.e],.int .i64 t.1]) (by simp [results,Tryd.results77,go_sem,c0,c1,c2,c3,c4,c5,c6]) rfl (rg_end (x:=x) (f:=t.1) (s:=t.2.1) (r:=t.2.2) hbw HX.out HPx.out HRx.out HMx.out)
  | false =>
   have HT3_:Hid ((if o=[]∧stands [33] s=true then notF (insideF deep 1 po s) else verAt kd (blanks (s.drop o.length)))=t):=(if_neg (by rw [h40]; simp)).symm.trans HT2_.out
   clear h40 HT2_
   have HVER:Hid (∀ (W:World) (q:Nat) (s2:List UInt8),Rd W b A n c q→Row W A n l→Pl l q s2→Calls Tryd.prog 91 #[.pointer (some ⟨b,0,none⟩),.int .i64 kd] W (RgPost b A n c l W (verAt kd s2))):=fun W q s2 h1 h2 h3=>ver_any b A n c q l s2 kd W h1 h2 hc h3
   have hsz:((mk o).size:Int)=(o.length:Int):=rfl
   have hpo:=HOS.out
   by_cases ho0:o=[]
   ·subst ho0
    have he1:=mk_empty
    have he2:=mk_eq0
    go_wp2_with fail
    refine (stands_any b A n c p l s [33] _ HR3.out HRow3.out hc HP.out (by decide)).mono ?_
    rintro e W4 ⟨rfl,hR,hM⟩
    have HM4:=Lib.hid (HM3.out.trans hM)
    have H74:=Lib.hid (H73.out.moved hM hne)
    have HR4:=Lib.hid hR
    have HRow4:=Lib.hid (row_keep HRow.out (HR.out.keep HM4.out))
    have HT4:=Lib.hid (HT.out.keep (HR.out.keep HM4.out))
    clear hR hM HR3 HM3 H73 HRow3 HT3
    cases h33:stands [33] s with
    | true =>
     have HF:Hid (notF (insideF deep 1 po s)=t):=(if_pos ⟨by first | rfl | trivial,h33⟩).symm.trans HT3_.out
     have HST:=Lib.hid h33
     clear h33
     go_wp2_with fail
     refine (not_ok b A n c l p s deep po _ HR4.out HRow4.out HP.out HT4.out hd HST.out ho).mono ?_
     rw [HF.out]
     rintro e W5 ⟨x,q5,rfl,hx,hP,hR,hM⟩
     unfold RV.agg
     have hz:w.heap.size<W4.heap.size:=H74.out.1
     have HX:Hid (Lies W5 (From (w.heap.size+1)) t.2.2 x):=hx.from_ hz
     have HPx:=Lib.hid hP
     have HRx:=Lib.hid hR
     have HMx:=Lib.hid (HM4.out.trans hM)
     have H7x:=Lib.hid (H74.out.moved hM hne)
     clear hx hP hR hM
     obtain ⟨y1,y2,c0,c1,c2,c3,c4,c5,c6⟩:=H7x.out
     go_wp2
     exact bodyPost_ret (v:=.tuple #[.agg #[x.kind,x.v.a,x.v.b,x.v.c,.slice x.A x.v.pre.length x.c,.slice x.B x.v.build.length x.d,.slice x.L x.n x.e],.int .i64 t.1]) (by simp [results,Tryd.results77,go_sem,c0,c1,c2,c3,c4,c5,c6]) rfl (rg_end (x:=x) (f:=t.1) (s:=t.2.1) (r:=t.2.2) hbw HX.out HPx.out HRx.out HMx.out)
    | false =>
     have HF:Hid (verAt kd (blanks (s.drop ([]:List UInt8).length))=t):=(if_neg (by rw [h33]; simp)).symm.trans HT3_.out
     clear h33
     obtain ⟨s2,hs2⟩:∃ s2,blanks (s.drop ([]:List UInt8).length)=s2:=⟨_,rfl⟩
     rw [hs2] at HF
     go_wp2_with fail
     first
      | refine (pass_any b A n c p ([]:List UInt8).length l s _ HR4.out HRow4.out HP.out hpo).mono ?_
      | (rw [hsz]; refine (pass_any b A n c p ([]:List UInt8).length l s _ HR4.out HRow4.out HP.out hpo).mono ?_)
     rintro e W5 ⟨rfl,q5,hP,hR,hM⟩
     rw [hs2] at hP
     have HP5:=Lib.hid hP
     have HM5:=Lib.hid (HM4.out.trans hM)
     have H75:=Lib.hid (H74.out.moved hM hne)
     have HR5:=Lib.hid hR
     have HRow5:=Lib.hid (row_keep HRow.out (HR.out.keep HM5.out))
     clear hR hM hP hs2
     go_wp2_with fail
     refine (HVER.out W5 q5 s2 HR5.out HRow5.out HP5.out).mono ?_
     rw [HF.out]
     rintro e W6 ⟨x,q6,rfl,hx,hP,hR,hM⟩
     unfold RV.agg
     have hz:w.heap.size<W5.heap.size:=H75.out.1
     have HX:Hid (Lies W6 (From (w.heap.size+1)) t.2.2 x):=hx.from_ hz
     have HPx:=Lib.hid hP
     have HRx:=Lib.hid hR
     have HMx:=Lib.hid (HM5.out.trans hM)
     have H7x:=Lib.hid (H75.out.moved hM hne)
     clear hx hP hR hM
     obtain ⟨y1,y2,c0,c1,c2,c3,c4,c5,c6⟩:=H7x.out
     go_wp2
     exact bodyPost_ret (v:=.tuple #[.agg #[x.kind,x.v.a,x.v.b,x.v.c,.slice x.A x.v.pre.length x.c,.slice x.B x.v.build.length x.d,.slice x.L x.n x.e],.int .i64 t.1]) (by simp [results,Tryd.results77,go_sem,c0,c1,c2,c3,c4,c5,c6]) rfl (rg_end (x:=x) (f:=t.1) (s:=t.2.1) (r:=t.2.2) hbw HX.out HPx.out HRx.out HMx.out)
   ·have he1:=mk_some ho0
    have he2:=mk_ne0 ho0
    have HF:Hid (verAt kd (blanks (s.drop o.length))=t):=(if_neg (fun h=>ho0 h.1)).symm.trans HT3_.out
    clear ho0
    obtain ⟨s2,hs2⟩:∃ s2,blanks (s.drop o.length)=s2:=⟨_,rfl⟩
    rw [hs2] at HF
    go_wp2_with fail
    first
     | refine (pass_any b A n c p o.length l s _ HR3.out HRow3.out HP.out hpo).mono ?_
     | (rw [hsz]; refine (pass_any b A n c p o.length l s _ HR3.out HRow3.out HP.out hpo).mono ?_)
    rintro e W4 ⟨rfl,q4,hP,hR,hM⟩
    rw [hs2] at hP
    have HP4:=Lib.hid hP
    have HM4:=Lib.hid (HM3.out.trans hM)
    have H74:=Lib.hid (H73.out.moved hM hne)
    have HR4:=Lib.hid hR
    have HRow4:=Lib.hid (row_keep HRow.out (HR.out.keep HM4.out))
    clear hR hM hP hs2
    go_wp2_with fail
    refine (HVER.out W4 q4 s2 HR4.out HRow4.out HP4.out).mono ?_
    rw [HF.out]
    rintro e W5 ⟨x,q5,rfl,hx,hP,hR,hM⟩
    unfold RV.agg
    have hz:w.heap.size<W4.heap.size:=H74.out.1
    have HX:Hid (Lies W5 (From (w.heap.size+1)) t.2.2 x):=hx.from_ hz
    have HPx:=Lib.hid hP
    have HRx:=Lib.hid hR
    have HMx:=Lib.hid (HM4.out.trans hM)
    have H7x:=Lib.hid (H74.out.moved hM hne)
    clear hx hP hR hM
    obtain ⟨y1,y2,c0,c1,c2,c3,c4,c5,c6⟩:=H7x.out
    go_wp2
    exact bodyPost_ret (v:=.tuple #[.agg #[x.kind,x.v.a,x.v.b,x.v.c,.slice x.A x.v.pre.length x.c,.slice x.B x.v.build.length x.d,.slice x.L x.n x.e],.int .i64 t.1]) (by simp [results,Tryd.results77,go_sem,c0,c1,c2,c3,c4,c5,c6]) rfl (rg_end (x:=x) (f:=t.1) (s:=t.2.1) (r:=t.2.2) hbw HX.out HPx.out HRx.out HMx.out)
theorem pone_ok (b:Nat) (A:Option Addr) (n c:Nat) (l:List UInt8) (hn:n≤30000000) (hc:n≤c):∀ (k:Nat) (d:Int),0≤d→d+k=64→PartOK 77 b A n c l d (pone k):=by
 have hev:∀ (k:Nat) (d:Int),PartOK 77 b A n c l d (pone k)→PartOK 60 b A n c l d (exprF (pone k)):=fun k d h=>by
  have h1:=every_ok b A n c l d (pone k) hn hc (pone_prog k) (pone_piece k) h
  exact expr_ok b A n c l d (everyF (pone k)) hn hc (everyF_prog (pone_prog k)) (everyF_piece (pone_piece k)) h1
 intro k
 induction k with
 | zero =>
  intro d hd0 hd
  have hd64:d=64:=by omega
  subst hd64
  have h:=one_ok b A n c l 64 (exprF (pone (0 - 1))) (pone (0 - 1)) hc ⟨by omega,by omega⟩ (fun h=>absurd rfl h) (fun h=>absurd rfl h)
  intro W q t h1 h2 h3 h4
  rw [pone_oneD 0 64 (by omega)]
  exact h W q t h1 h2 h3 h4
 | succ k ih =>
  intro d hd0 hd
  have hk:=ih (d+1) (by omega) (by omega)
  have h:=one_ok b A n c l d (exprF (pone (k+1 - 1))) (pone (k+1 - 1)) hc ⟨by omega,by omega⟩ (fun _=>hev k (d+1) hk) (fun _=>hk)
  intro W q t h1 h2 h3 h4
  rw [pone_oneD (k+1) d (by omega)]
  exact h W q t h1 h2 h3 h4
theorem expr64_ok (b:Nat) (A:Option Addr) (n c:Nat) (l:List UInt8) (hn:n≤30000000) (hc:n≤c):PartOK 60 b A n c l 0 (exprF (pone 64)):=by
 have h1:=every_ok b A n c l 0 (pone 64) hn hc (pone_prog 64) (pone_piece 64) (pone_ok b A n c l hn hc 64 0 (by omega) (by omega))
 exact expr_ok b A n c l 0 (everyF (pone 64)) hn hc (everyF_prog (pone_prog 64)) (everyF_piece (pone_piece 64)) h1
end Go.Proofs.YtgakcdcfblgagaaDoor.Range
namespace Go.Proofs.YtgakcdcfblgagaaDoor.Model
open Go.RowKit Num Ident Semver
open Range (Rng noRng RV KeepS LtB LenOk goodR wt)
open KR (KRow AtV)
open Name (isName)

theorem mk_eq (a:List UInt8):((Ident.mk a).toList == (Ident.mk a).toList)=true:=by simp
theorem SPRow.cells {w:World} {S:Nat→Prop} {A:Option Addr} {n:Nat} {l:List MPin} (h:SPRow w S A n l) {k:Nat} (hk:k<n):∃ b o,A=some ⟨b,o,none⟩∧S b∧b<w.heap.size ∧
  w.cell? ⟨b,o+k * 6,none⟩=some (.string (Ident.mk (l.getD k default).name))∧w.cell? ⟨b,o+k * 6+1,none⟩=some (.int .u64 ((l.getD k default).ver.v.a))∧w.cell? ⟨b,o+k * 6+2,none⟩=some (.int .u64 ((l.getD k default).ver.v.b))∧w.cell? ⟨b,o+k * 6+3,none⟩=some (.int .u64 ((l.getD k default).ver.v.c))∧w.cell? ⟨b,o+k * 6+4,none⟩=some (.slice (l.getD k default).ver.A (l.getD k default).ver.v.pre.length (l.getD k default).ver.c)∧w.cell? ⟨b,o+k * 6+5,none⟩=some (.slice (l.getD k default).ver.B (l.getD k default).ver.v.build.length (l.getD k default).ver.d):=by
 obtain ⟨b,o,e,hb,hlt,hc⟩:=h.row.at_ hk
 exact ⟨b,o,e,hb,hlt,hc 0 _ rfl,hc 1 _ rfl,hc 2 _ rfl,hc 3 _ rfl,hc 4 _ rfl,hc 5 _ rfl⟩
end Go.Proofs.YtgakcdcfblgagaaDoor.Model
namespace Go.Proofs.YtgakcdcfblgagaaDoor.Sheet
open Go.RowKit Num Ident Semver
open Range (Rng noRng goodR goodL textR textL pread)
open Name (isName nlen okB fstB)
open Model (PDep PRel PPack PPin SortOf)

theorem take_name {s:List UInt8} (h0:nlen s≠0) (h1:nlen s≤255):isName (s.take (nlen s))=true:=by
 have hle:nlen s≤s.length:=Name.nrun_le 0 s
 have hl:(s.take (nlen s)).length=nlen s:=by rw [List.length_take]; omega
 have h2:nlen (s.take (nlen s))=nlen s:=by
  have:=Name.nlen_stop (s.take (nlen s)) 0 (nlen s) (by rw [hl]; omega) (fun j hj=>by
   rw [Nat.zero_add]
   have h3:=Name.nrun_ok s 0 j hj
   rw [Nat.zero_add] at h3
   have e:byteAt (s.take (nlen s)) j=byteAt s j:=by simp [byteAt,List.getElem?_take_of_lt hj]
   rw [e]; exact h3) (.inl (by rw [hl]; omega))
  simpa using this
 exact (Name.isName_iff _).2 ⟨by rw [h2,hl],by omega,by omega⟩
theorem nameOk_name {k:Nat} {s:List UInt8} (h:nameOk k s=true):isName (s.take (nlen s))=true:=by
 unfold nameOk at h
 simp only [Bool.not_eq_true',Bool.or_eq_false_iff,beq_eq_false_iff_ne,decide_eq_false_iff_not] at h
 exact take_name h.1.1 (by have:=h.1.2; omega)
structure LineOk (l:Line):Prop where
 kind:kindW l.w≠0
 name:kindW l.w≠2→isName l.name=true
 ver:kindW l.w=2∨kindW l.w=4→goodV l.v=true
 rng:kindW l.w=3→goodR l.r 0=true
theorem pread_good {s:List UInt8} (h:(pread s).1=0):goodR (pread s).2.2 0=true:=by
 rw [Range.pread_range h]
 exact Range.read_good (Range.pread_ok.1 h).1
theorem kind_words {w:List UInt8} (h:kindW w≠0):w=wPackage∨(w=wVersion∨w=wYanked)∨w=wNeeds∨w=wBans∨w=wRoot∨w=wPin:=by
 unfold kindW at h
 by_cases h1:w=wPackage
 ·exact .inl h1
 ·rw [if_neg h1] at h
  by_cases h2:w=wVersion∨w=wYanked
  ·exact .inr (.inl h2)
  ·rw [if_neg h2] at h
   by_cases h3:w=wNeeds∨w=wBans∨w=wRoot
   ·rcases h3 with h3 | h3 | h3
    ·exact .inr (.inr (.inl h3))
    ·exact .inr (.inr (.inr (.inl h3)))
    ·exact .inr (.inr (.inr (.inr (.inl h3))))
   ·rw [if_neg h3] at h
    by_cases h4:w=wPin
    ·exact .inr (.inr (.inr (.inr (.inr h4))))
    ·rw [if_neg h4] at h; exact absurd rfl h
end Go.Proofs.YtgakcdcfblgagaaDoor.Sheet
namespace Go.Proofs.YtgakcdcfblgagaaDoor.Range
open Go.RowKit Num Ident Semver

def ParPost (w:World) (r:POut) (e:Ending) (w':World):Prop :=
 ∃ x:RV,e=.returned (.tuple #[x.agg,.int .i64 r.2.1,.int .i64 r.1])∧Lies w' (From w.heap.size) r.2.2 x∧Below w.heap.size w w'
theorem par_end {w W:World} {f q:Nat} {r:Rng} {x:RV} (hL:Lies W (From (w.heap.size+1)) r x) (hb:Below w.heap.size w W):ParPost w (f,q,r) (.returned (.tuple #[x.agg,.int .i64 q,.int .i64 f])) (setR W w.heap.size x) :=
 ⟨x,rfl,(hL.keep (setR_keep (Nat.not_succ_le_self _) x)).from_ (Nat.le_succ _),hb.trans (setR_below _ (Nat.le_refl _) x)⟩
theorem setR_rd_lt {W:World} {g b:Nat} {A:Option Addr} {n c p:Nat} {x:RV} (h:Rd W b A n c p) (hne:b≠g):Rd (setR W g x) b A n c p:=by
 have hb:(setR W g x).heap[b]?=W.heap[b]?:=by
  unfold setR
  simp only [Below.heap_setCell _ _ _ _ (show b≠Addr.block ⟨g,_,none⟩ from hne)]
 have hz:(setR W g x).heap.size=W.heap.size:=by unfold setR; simp
 have kc:∀ o,(setR W g x).cell? ⟨b,o,none⟩=W.cell? ⟨b,o,none⟩:=fun o=>World.cell?_of_block (w:=W) (a:=⟨b,o,none⟩) hb
 exact ⟨by rw [hz]; exact h.lt,fun o=>(World.frozen?_of_block (w:=W) (a:=⟨b,o,none⟩) hb).trans (h.open_ o),(kc 0).trans h.row,(kc 1).trans h.at_,(kc 2).trans h.end_⟩
theorem KeepS.drew (S:Nat→Prop) (w:World):KeepS S w w.drew:=⟨Nat.le_refl _,fun _ _ _ _ h=>h⟩
theorem RAt.drew {W:World} {g:Nat} {x:RV} (h:RAt W g x):RAt W.drew g x:=h
theorem ParPost.drew {w W:World} {r:POut} {e:Ending} (h:ParPost w r e W):ParPost w r e W.drew:=by
 obtain ⟨x,h1,h2,h3⟩:=h
 exact ⟨x,h1,h2.keep (KeepS.drew _ _),h3.drew⟩
theorem Rd.new (w:World) (A:Option Addr) (n c p:Nat) (t:TypeId):Rd (w.alloc (.cells #[.slice A n c,.int .i64 p] t)) w.heap.size A n c p:=by
 refine ⟨by simp,fun o=>by simp [go_sem],?_,?_,?_⟩ <;> simp [go_sem]
theorem parse_out (A:Option Addr) (n c:Nat) (l:List UInt8) (p:Int) (w:World) (h:Row w A n l) (ho:p<0∨(n:Int)<p) :
  Calls Tryd.prog 46 #[.slice A n c,.int .i64 p] w (ParPost w (pparse l p)):=by
 have HE:Hid (pparse l p=(1,0,noRng)):=by unfold Hid pparse; rw [if_pos (by rw [h.1]; exact ho)]
 have HB:Hid (Below w.heap.size w (w.alloc ())):=(Below.refl _ _).alloc (Nat.le_refl _) _
 rw [HE.out]
 clear h HE
 by_cases h0:p<0
 ·go_enter Tryd.func46,Tryd.ntmps46
  go_wp2
  exact bodyPost_ret (v:=.tuple #[.agg #[.int .i64 0,.int .u64 0,.int .u64 0,.int .u64 0,.slice none 0 0,.slice none 0 0,.slice none 0 0],.int .i64 0,.int .i64 1]) (by simp [results,Tryd.results46,go_sem]) rfl (⟨zeroRV 0,rfl,Lies.zero _ _ 0,HB.out⟩)
 ·have h1:(n:Int)<p:=by omega
  clear ho
  go_enter Tryd.func46,Tryd.ntmps46
  go_wp2
  exact bodyPost_ret (v:=.tuple #[.agg #[.int .i64 0,.int .u64 0,.int .u64 0,.int .u64 0,.slice none 0 0,.slice none 0 0,.slice none 0 0],.int .i64 0,.int .i64 1]) (by simp [results,Tryd.results46,go_sem]) rfl (⟨zeroRV 0,rfl,Lies.zero _ _ 0,HB.out⟩)
theorem parse_in (A:Option Addr) (n c:Nat) (l:List UInt8) (p:Nat) (w:World) (h:Row w A n l) (hc:n≤c) (hn:n≤30000000) (hp:p≤n) (ht:OpsTab w) :
  Calls Tryd.prog 46 #[.slice A n c,.int .i64 p] w (ParPost w (pparse l p)):=by
 have HL:=Lib.hid h.1
 have hp0:¬ (p:Int)<0:=by omega
 have hp1:¬ n<p:=by omega
 obtain ⟨b,hb⟩:∃ b,w.heap.size+1=b:=⟨_,rfl⟩
 have HR0:Hid (Rd ((w.alloc ()).alloc (.cells #[.slice A n c,.int .i64 p] 125)) b A n c p):=by have:=Rd.new (w.alloc ()) A n c p 125; rw [size_alloc,hb] at this; exact this
 have HB0:Hid (Below w.heap.size w ((w.alloc ()).alloc (.cells #[.slice A n c,.int .i64 p] 125))):=((Below.refl _ _).alloc (Nat.le_refl _) _).alloc (by simp) _
 have HRow0:Hid (Row ((w.alloc ()).alloc (.cells #[.slice A n c,.int .i64 p] 125)) A n l):=h.kept HB0.out
 have HT0:Hid (OpsTab ((w.alloc ()).alloc (.cells #[.slice A n c,.int .i64 p] 125))):=ht.keep (Keep.of_below HB0.out)
 have H70:Hid (RAt ((w.alloc ()).alloc (.cells #[.slice A n c,.int .i64 p] 125)) w.heap.size (zeroRV 0)):=(RAt.new w 51 (zeroRV 0)).kept ((Below.refl _ _).alloc (Nat.le_refl _) _) (by simp)
 have HPl:Hid (Pl l p (l.drop p)):=⟨by rw [HL.out]; exact hp,rfl⟩
 have HX:Hid (PartOK 60 b A n c l 0 (exprF (pone 64))):=expr64_ok b A n c l hn hc
 have hne:w.heap.size≠b:=by omega
 have hbs:b<(((w.alloc ()).alloc (.cells #[.slice A n c,.int .i64 p] 125))).heap.size:=HR0.out.lt
 obtain ⟨⟨f,s2,r⟩,hk⟩:∃ t,exprF (pone 64) (blanks (l.drop p))=t:=⟨_,rfl⟩
 have HE:Hid (pparse l p=(f,l.length - s2.length,r)):=by
  unfold Hid pparse; rw [if_neg (by rw [HL.out]; omega),Int.toNat_natCast,hk]
 have HKx:=Lib.hid hk
 rw [HE.out]
 clear h ht hk
 go_enter Tryd.func46,Tryd.ntmps46
 go_wp2_with fail
 try rw [hb]
 refine (pass_any b A n c p 0 l (l.drop p) _ HR0.out HRow0.out HPl.out hp).mono ?_
 rw [List.drop_zero]
 rintro e W1 ⟨rfl,q1,hq1,hR1,hM1⟩
 have HK1:=Lib.hid (HR0.out.keep hM1)
 have HRow1:=Lib.hid (row_keep HRow0.out HK1.out)
 have HT1:=Lib.hid (HT0.out.keep HK1.out)
 have H71:=Lib.hid (H70.out.moved hM1 hne)
 have HB1:=Lib.hid (HB0.out.trans ((hM1.below_of (Nat.le_of_lt hbs)).mono (by omega)))
 have HR1:=Lib.hid hR1
 have HQ1:=Lib.hid hq1
 have hbs1:b<W1.heap.size:=hR1.lt
 clear hR1 hM1 hq1 HR0 HRow0 HT0 H70 HB0 HK1
 go_wp2_with fail
 refine (HX.out W1 q1 _ HR1.out HRow1.out HT1.out HQ1.out).mono ?_
 rw [HKx.out]
 rintro e W2 ⟨x,q2,rfl,hx,hP2,hR2,hM2⟩
 unfold RV.agg
 simp only at hx hP2 ⊢
 have H72:=Lib.hid (H71.out.moved hM2 hne)
 have HB2:=Lib.hid (HB1.out.trans ((hM2.below_of (Nat.le_of_lt hbs1)).mono (by omega)))
 have HR2:=Lib.hid hR2
 have HX2:Hid (Lies W2 (From (w.heap.size+1)) r x):=hx.from_ (by omega)
 have hq2:q2=l.length - s2.length:=by
  have h1:=hP2.len
  have h2:=hP2.le
  omega
 subst hq2
 clear hx hP2 hR2 hM2 H71 HB1 HR1 HRow1 HT1 HQ1 HKx HX
 obtain ⟨y1,y2,c0,c1,c2,c3,c4,c5,c6⟩:=H72.out
 have HV:Hid (RAt (((((((W2.setCell ⟨w.heap.size,0,none⟩ x.kind).setCell ⟨w.heap.size,1,none⟩ x.v.a).setCell ⟨w.heap.size,2,none⟩ x.v.b).setCell ⟨w.heap.size,3,none⟩ x.v.c).setCell ⟨w.heap.size,4,none⟩ (.slice x.A x.v.pre.length x.c)).setCell ⟨w.heap.size,5,none⟩ (.slice x.B x.v.build.length x.d)).setCell ⟨w.heap.size,6,none⟩ (.slice x.L x.n x.e)) w.heap.size x):=setR_at H72.out
 have HRV:Hid (Rd (((((((W2.setCell ⟨w.heap.size,0,none⟩ x.kind).setCell ⟨w.heap.size,1,none⟩ x.v.a).setCell ⟨w.heap.size,2,none⟩ x.v.b).setCell ⟨w.heap.size,3,none⟩ x.v.c).setCell ⟨w.heap.size,4,none⟩ (.slice x.A x.v.pre.length x.c)).setCell ⟨w.heap.size,5,none⟩ (.slice x.B x.v.build.length x.d)).setCell ⟨w.heap.size,6,none⟩ (.slice x.L x.n x.e)) b A n c (l.length - s2.length)):=setR_rd_lt HR2.out hne.symm
 have HBV:Hid (Below w.heap.size w (((((((W2.setCell ⟨w.heap.size,0,none⟩ x.kind).setCell ⟨w.heap.size,1,none⟩ x.v.a).setCell ⟨w.heap.size,2,none⟩ x.v.b).setCell ⟨w.heap.size,3,none⟩ x.v.c).setCell ⟨w.heap.size,4,none⟩ (.slice x.A x.v.pre.length x.c)).setCell ⟨w.heap.size,5,none⟩ (.slice x.B x.v.build.length x.d)).setCell ⟨w.heap.size,6,none⟩ (.slice x.L x.n x.e))):=HB2.out.trans (setR_below _ (Nat.le_refl _) x)
 have HXV:Hid (Lies (((((((W2.setCell ⟨w.heap.size,0,none⟩ x.kind).setCell ⟨w.heap.size,1,none⟩ x.v.a).setCell ⟨w.heap.size,2,none⟩ x.v.b).setCell ⟨w.heap.size,3,none⟩ x.v.c).setCell ⟨w.heap.size,4,none⟩ (.slice x.A x.v.pre.length x.c)).setCell ⟨w.heap.size,5,none⟩ (.slice x.B x.v.build.length x.d)).setCell ⟨w.heap.size,6,none⟩ (.slice x.L x.n x.e)) (From (w.heap.size+1)) r x):=HX2.out.keep (setR_keep (Nat.not_succ_le_self _) x)
 go_upto_region 6 with (fail)
 clear y1 y2 c0 c1 c2 c3 c4 c5 c6 H72 HR2 HB2 HX2
 generalize (((((((W2.setCell ⟨w.heap.size,0,none⟩ x.kind).setCell ⟨w.heap.size,1,none⟩ x.v.a).setCell ⟨w.heap.size,2,none⟩ x.v.b).setCell ⟨w.heap.size,3,none⟩ x.v.c).setCell ⟨w.heap.size,4,none⟩ (.slice x.A x.v.pre.length x.c)).setCell ⟨w.heap.size,5,none⟩ (.slice x.B x.v.build.length x.d)).setCell ⟨w.heap.size,6,none⟩ (.slice x.L x.n x.e))=V at HV HRV HBV HXV ⊢
 have HVd:Hid (RAt V.drew w.heap.size x):=HV.out.drew
 have HRd:Hid (Rd V.drew b A n c (l.length - s2.length)):=HRV.out.drew
 refine wp_region_held_drew (S:=fun w'=>RAt w' w.heap.size x∧w'.cell? ⟨b,1,none⟩=some (.int .i64 ((l.length - s2.length:Nat):Int))) (by kernel_rfl) ⟨HVd.out,HRd.out.at_⟩ (fun hHeld=>?_)
 refine tk 0 rfl x ?_ fun w' hS'=>by obtain ⟨_,_,x0,x1,x2,x3,x4,x5,x6⟩:=hS'.1; go_simp
 refine tk 1 rfl (.pointer (some ⟨b,1,none⟩)) ?_
 refine tk 2 rfl (.int .i64 ((l.length - s2.length:Nat):Int)) ?_ fun w' hS'=>by have x:=hS'.2; go_simp
 refine tk 3 rfl (.int .i64 f) ?_
 refine cl 4 rfl fun K hK=>?_
 obtain ⟨z1,z2,x0,x1,x2,x3,x4,x5,x6⟩:=HV.out
 go_simp
 have HV2:Hid (RAt (setR V w.heap.size x).drew w.heap.size x):=RAt.drew (setR_at HV.out)
 have HRV2:Hid (Rd (setR V w.heap.size x).drew b A n c (l.length - s2.length)):=(setR_rd_lt HRV.out hne.symm).drew
 have HP2:Hid (ParPost w (f,l.length - s2.length,r) (.returned (.tuple #[x.agg,.int .i64 ((l.length - s2.length:Nat):Int),.int .i64 f])) (setR V w.heap.size x).drew):=ParPost.drew (par_end HXV.out HBV.out)
 clear z1 z2 x0 x1 x2 x3 x4 x5 x6 hHeld
 refine hK.out _ _ ⟨HV2.out,HRV2.out.at_⟩ (fun hHeld=>?_)
 clear hK K
 try simp only [Act.put,p1,p2,p3]
 refine tk 5 rfl (.int .i64 ((l.length - s2.length:Nat):Int)) ?_
 refine tk 6 rfl (.int .i64 f) ?_
 refine wpAnyH_done (by kernel_rfl) ?_ _
 change Exit.then _ _ _ _ (setR V w.heap.size x).drew
 generalize (setR V w.heap.size x).drew=U at HV2 HP2 ⊢
 obtain ⟨z1,z2,x0,x1,x2,x3,x4,x5,x6⟩:=HV2.out
 go_wp2
 exact bodyPost_ret (v:=.tuple #[.agg #[x.kind,x.v.a,x.v.b,x.v.c,.slice x.A x.v.pre.length x.c,.slice x.B x.v.build.length x.d,.slice x.L x.n x.e],.int .i64 ((l.length - s2.length:Nat):Int),.int .i64 f]) (by simp [results,Tryd.results46,go_sem,x0,x1,x2,x3,x4,x5,x6]) rfl HP2.out

theorem parse_any (A:Option Addr) (n c:Nat) (l:List UInt8) (p:Int) (w:World) (h:Row w A n l) (hc:n≤c) (hn:n≤30000000) (ht:OpsTab w) :
  Calls Tryd.prog 46 #[.slice A n c,.int .i64 p] w (ParPost w (pparse l p)):=by
 by_cases ho:p<0∨(n:Int)<p
 ·exact parse_out A n c l p w h ho
 ·obtain ⟨k,rfl⟩:=Int.eq_ofNat_of_zero_le (show 0≤p by omega)
  exact parse_in A n c l k w h hc hn (by omega) ht
theorem read_any (s:ByteArray) (w:World) (hs:s.size≤30000000) (ht:OpsTab w) :
  Calls Tryd.prog 22 #[.string s] w (ParPost w (pread s.data.toList)):=by
 have HL:=Lib.hid (Lib.size_eq s)
 obtain ⟨cc,W,hcc,hcv,hr,hb⟩:=run_bytes (w.alloc ()) s (by unfold maxLen; omega)
 have H7:Hid (RAt W w.heap.size (zeroRV 0)):=(RAt.new w 51 (zeroRV 0)).kept hb (by simp)
 have HB:Hid (Below w.heap.size w W):=((Below.refl w.heap.size w).alloc (Nat.le_refl _) _).trans (hb.mono (by simp))
 have HT:Hid (OpsTab W):=ht.keep (Keep.of_below HB.out)
 have hz:w.heap.size+1≤W.heap.size:=by have:=hb.size; simpa using this
 rw [size_alloc] at hr hcv
 have HR:=Lib.hid hr
 clear hr hb ht
 generalize s.data.toList=l at HL HR
 have HP:=Lib.hid (fun A n c W hW hc hn hT=>parse_any A n c l 0 W hW hc hn hT)
 have HI:Hid (pread l=if (pparse l 0).1≠0 then ((pparse l 0).1,(pparse l 0).2.1,noRng) else if (pparse l 0).2.1≠l.length then (13,(pparse l 0).2.1,noRng) else (0,0,(pparse l 0).2.2)):=rfl
 obtain ⟨⟨f,q,r⟩,hk⟩:∃ t,pparse l 0=t:=⟨_,rfl⟩
 rw [hk] at HP HI
 simp only at HI
 clear hk
 go_enter Tryd.func22,Tryd.ntmps22
 go_wp2_with fail
 refine (HP.out _ _ _ W HR.out hcc hs HT.out).mono ?_
 rintro e W1 ⟨x,rfl,hx,hb1⟩
 unfold RV.agg
 simp only at hx ⊢
 have H71:=Lib.hid (H7.out.kept hb1 (by omega))
 have HB1:=Lib.hid (HB.out.trans (hb1.mono (by omega)))
 have HX:Hid (Lies W1 (From (w.heap.size+1)) r x):=hx.from_ (by omega)
 obtain ⟨y1,y2,c0,c1,c2,c3,c4,c5,c6⟩:=H71.out
 have HV:Hid (RAt (((((((W1.setCell ⟨w.heap.size,0,none⟩ x.kind).setCell ⟨w.heap.size,1,none⟩ x.v.a).setCell ⟨w.heap.size,2,none⟩ x.v.b).setCell ⟨w.heap.size,3,none⟩ x.v.c).setCell ⟨w.heap.size,4,none⟩ (.slice x.A x.v.pre.length x.c)).setCell ⟨w.heap.size,5,none⟩ (.slice x.B x.v.build.length x.d)).setCell ⟨w.heap.size,6,none⟩ (.slice x.L x.n x.e)) w.heap.size x):=setR_at H71.out
 have HBV:Hid (Below w.heap.size w (((((((W1.setCell ⟨w.heap.size,0,none⟩ x.kind).setCell ⟨w.heap.size,1,none⟩ x.v.a).setCell ⟨w.heap.size,2,none⟩ x.v.b).setCell ⟨w.heap.size,3,none⟩ x.v.c).setCell ⟨w.heap.size,4,none⟩ (.slice x.A x.v.pre.length x.c)).setCell ⟨w.heap.size,5,none⟩ (.slice x.B x.v.build.length x.d)).setCell ⟨w.heap.size,6,none⟩ (.slice x.L x.n x.e))):=HB1.out.trans (setR_below _ (Nat.le_refl _) x)
 have HXV:Hid (Lies (((((((W1.setCell ⟨w.heap.size,0,none⟩ x.kind).setCell ⟨w.heap.size,1,none⟩ x.v.a).setCell ⟨w.heap.size,2,none⟩ x.v.b).setCell ⟨w.heap.size,3,none⟩ x.v.c).setCell ⟨w.heap.size,4,none⟩ (.slice x.A x.v.pre.length x.c)).setCell ⟨w.heap.size,5,none⟩ (.slice x.B x.v.build.length x.d)).setCell ⟨w.heap.size,6,none⟩ (.slice x.L x.n x.e)) (From (w.heap.size+1)) r x):=HX.out.keep (setR_keep (Nat.not_succ_le_self _) x)
 clear hx hb1 H7 HB HT hcv HR
 go_upto_region 2 with (fail)
 clear y1 y2 c0 c1 c2 c3 c4 c5 c6 H71 HB1 HX
 generalize (((((((W1.setCell ⟨w.heap.size,0,none⟩ x.kind).setCell ⟨w.heap.size,1,none⟩ x.v.a).setCell ⟨w.heap.size,2,none⟩ x.v.b).setCell ⟨w.heap.size,3,none⟩ x.v.c).setCell ⟨w.heap.size,4,none⟩ (.slice x.A x.v.pre.length x.c)).setCell ⟨w.heap.size,5,none⟩ (.slice x.B x.v.build.length x.d)).setCell ⟨w.heap.size,6,none⟩ (.slice x.L x.n x.e))=V at HV HBV HXV ⊢
 obtain ⟨y1,y2,c0,c1,c2,c3,c4,c5,c6⟩:=HV.out
 by_cases h0:f=0
 ·subst h0
  by_cases h1:q=s.size
  ·have HI2:Hid (pread l=(0,0,r)):=HI.out.trans ((if_neg (by simp)).trans (if_neg (by rw [← HL.out]; simpa using h1)))
   have hb1:((q:Int) != (s.size:Int))=false:=by simp [h1]
   clear h1 HI
   go_wp2
   exact bodyPost_ret (v:=.tuple #[.agg #[x.kind,x.v.a,x.v.b,x.v.c,.slice x.A x.v.pre.length x.c,.slice x.B x.v.build.length x.d,.slice x.L x.n x.e],.int .i64 0,.int .i64 0]) (by simp [results,Tryd.results22,go_sem,c0,c1,c2,c3,c4,c5,c6]) rfl (by rw [HI2.out]; exact par_end (x:=x) (f:=0) (q:=0) HXV.out HBV.out)
  ·have HI2:Hid (pread l=(13,q,noRng)):=HI.out.trans ((if_neg (by simp)).trans (if_pos (by rw [← HL.out]; exact h1)))
   have hb1:((q:Int) != (s.size:Int))=true:=by simp; omega
   clear h1 HI
   go_wp2
   exact bodyPost_ret (v:=.tuple #[.agg #[.int .i64 0,.int .u64 0,.int .u64 0,.int .u64 0,.slice none 0 0,.slice none 0 0,.slice none 0 0],.int .i64 q,.int .i64 13]) (by simp [results,Tryd.results22,go_sem,c0,c1,c2,c3,c4,c5,c6]) rfl (by rw [HI2.out]; exact par_end (x:=zeroRV 0) (f:=13) (Lies.zero _ _ 0) HBV.out)
 ·have HI2:Hid (pread l=(f,q,noRng)):=HI.out.trans (if_pos h0)
  have hb1:((f:Int) != 0)=true:=by simp [h0]
  have hb2:((f:Int) == 0)=false:=by simp [h0]
  clear h0 HI
  go_wp2
  exact bodyPost_ret (v:=.tuple #[.agg #[.int .i64 0,.int .u64 0,.int .u64 0,.int .u64 0,.slice none 0 0,.slice none 0 0,.slice none 0 0],.int .i64 q,.int .i64 f]) (by simp [results,Tryd.results22,go_sem,c0,c1,c2,c3,c4,c5,c6]) rfl (by rw [HI2.out]; exact par_end (x:=zeroRV 0) (Lies.zero _ _ 0) HBV.out)
end Go.Proofs.YtgakcdcfblgagaaDoor.Range
namespace Go.Proofs.YtgakcdcfblgagaaDoor.Sheet
open Go.RowKit Num Ident Semver
open Range (Rng noRng RV KeepS LtB LenOk goodR wt)
open KR (KRow AtV)
open Model (PDep PRel PPack PPin MDep MVer MRel MPack MPin DepOk VerOk PinOk RelOk PackOk DRow SPRow RRow PRow map_at getD_mem mk_eq)

theorem roots_yes (A1 A2:Option Addr) (n c1 c2:Nat) (l1 l2:List MDep) (B:Nat) (w:World) (h1:DRow w (LtB B) A1 n l1) (h2:DRow w (LtB B) A2 n l2) (he:l1.map MDep.p=l2.map MDep.p) (hB:B≤w.heap.size) (hn:n≤maxLen) :
  Calls Tryd.prog 6 #[.slice A1 n c1,.slice A2 n c2] w fun e w'=>e=.returned (.bool true)∧Below w.heap.size w w':=by
 have HO1:=Lib.hid h1
 have HO2:=Lib.hid h2
 have HL1:=Lib.hid h1.row.1
 have HL2:=Lib.hid h2.row.1
 have HE:=Lib.hid he
 unfold maxLen at hn
 clear h1 h2 he
 have hq:((n:Int) != (n:Int))=false:=by simp
 go_enter Tryd.func6,Tryd.ntmps6
 go_wp2
 go_loopw [5] (fun v W=>∃ k:Nat,k≤n∧v=.int .i64 k∧Hid (Below w.heap.size w W)) (fun v _=>n - (intOf v).toNat)
 case atStart=>exact ⟨0,Nat.zero_le _,rfl,Below.refl _ _⟩
 case round =>
  rename World=>wk
  obtain ⟨k,hk,rfl,HW⟩:=hrel
  by_cases hlt:k<n
  ·have hr1:=HO1.out.keep (KeepS.of_below (S:=LtB B) HW.out)
   have hr2:=HO2.out.keep (KeepS.of_below (S:=LtB B) HW.out)
   have HD1:Hid (DepOk wk (LtB B) (l1.getD k default)):=hr1.ok _ (Model.getD_mem (by rw [HL1.out]; exact hlt))
   have HD2:Hid (DepOk wk (LtB B) (l2.getD k default)):=hr2.ok _ (Model.getD_mem (by rw [HL2.out]; exact hlt))
   have heq:(l1.getD k default).p=(l2.getD k default).p:=by rw [← map_at MDep.p l1 (by rw [HL1.out]; exact hlt),← map_at MDep.p l2 (by rw [HL2.out]; exact hlt),HE.out]
   obtain ⟨b1,o1,rfl,_,hb1,c0,c1',c2',c3,c4,c5,c6,c7⟩:=hr1.cells hlt
   obtain ⟨b2,o2,rfl,_,hb2,e0,e1,e2,e3,e4,e5,e6,e7⟩:=hr2.cells hlt
   generalize l1.getD k default=d1 at c0 c1' c2' c3 c4 c5 c6 c7 HD1 heq
   generalize l2.getD k default=d2 at e0 e1 e2 e3 e4 e5 e6 e7 HD2 heq
   obtain ⟨nm,r,x⟩:=d1
   obtain ⟨nm2,r2,y⟩:=d2
   injection heq with g1 g2
   have g1:nm=nm2:=g1
   have g2:r=r2:=g2
   subst g1
   subst g2
   have HX:Hid (Range.Weak wk (LtB B) r x):=HD1.out.lies.weak
   have HY:Hid (Range.Weak wk (LtB B) r y):=HD2.out.lies.weak
   have HLN:Hid (LenOk r):=HD1.out.len
   clear hr1 hr2 HD1 HD2
   simp only at c0 c1' c2' c3 c4 c5 c6 c7 e0 e1 e2 e3 e4 e5 e6 e7
   have hbe:((Ident.mk nm).toList == (Ident.mk nm).toList)=true:=mk_eq _
   have hkn:¬ n≤k:=by omega
   have H0:Hid (Below wk.heap.size wk wk.drew):=(Below.refl _ _).drew
   go_wp2
   refine wp_region_held_drew (S:=fun w'=>Below wk.heap.size wk w') (by kernel_rfl) H0.out (fun hHeld=>?_)
   generalize wk.drew=wd at H0 hHeld ⊢
   refine tk 0 rfl (.slice (some ⟨b1,o1,none⟩) n c1) ?_
   refine tk 1 rfl (.int .i64 k) ?_
   refine tk 2 rfl (.pointer (some ⟨b1,o1+k * 8,none⟩)) ?_
   refine tk 3 rfl (.pointer (some ⟨b1,o1+k * 8,none⟩)) ?_
   refine tk 4 rfl (.string (Ident.mk nm)) ?_ (hv:=fun w' hS'=>by (have z0:=(hS'.cell (p:=⟨b1,o1+k * 8,none⟩) hb1).trans c0); go_simp)
   refine tk 5 rfl (.slice (some ⟨b2,o2,none⟩) n c2) ?_
   refine tk 6 rfl (.int .i64 k) ?_
   refine tk 7 rfl (.pointer (some ⟨b2,o2+k * 8,none⟩)) ?_
   refine tk 8 rfl (.pointer (some ⟨b2,o2+k * 8,none⟩)) ?_
   refine tk 9 rfl (.string (Ident.mk nm)) ?_ (hv:=fun w' hS'=>by (have z0:=(hS'.cell (p:=⟨b2,o2+k * 8,none⟩) hb2).trans e0); go_simp)
   refine tk 10 rfl (.bool false) ?_
   refine tk 11 rfl (.bool false) ?_
   refine tk 12 rfl (.slice (some ⟨b1,o1,none⟩) n c1) ?_
   refine tk 13 rfl (.int .i64 k) ?_
   refine tk 14 rfl (.pointer (some ⟨b1,o1+k * 8,none⟩)) ?_
   refine tk 15 rfl (.pointer (some ⟨b1,o1+k * 8+1,none⟩)) ?_
   refine tk 16 rfl x ?_ (hv:=fun w' hS'=>by (have z0:=(hS'.cell (p:=⟨b1,o1+k * 8+1,none⟩) hb1).trans c1'); (have z1:=(hS'.cell (p:=⟨b1,o1+k * 8+2,none⟩) hb1).trans c2'); (have z2:=(hS'.cell (p:=⟨b1,o1+k * 8+3,none⟩) hb1).trans c3); (have z3:=(hS'.cell (p:=⟨b1,o1+k * 8+4,none⟩) hb1).trans c4); (have z4:=(hS'.cell (p:=⟨b1,o1+k * 8+5,none⟩) hb1).trans c5); (have z5:=(hS'.cell (p:=⟨b1,o1+k * 8+6,none⟩) hb1).trans c6); (have z6:=(hS'.cell (p:=⟨b1,o1+k * 8+7,none⟩) hb1).trans c7); go_simp)
   refine tk 17 rfl (.slice (some ⟨b2,o2,none⟩) n c2) ?_
   refine tk 18 rfl (.int .i64 k) ?_
   refine tk 19 rfl (.pointer (some ⟨b2,o2+k * 8,none⟩)) ?_
   refine tk 20 rfl (.pointer (some ⟨b2,o2+k * 8+1,none⟩)) ?_
   refine tk 21 rfl y ?_ (hv:=fun w' hS'=>by (have z0:=(hS'.cell (p:=⟨b2,o2+k * 8+1,none⟩) hb2).trans e1); (have z1:=(hS'.cell (p:=⟨b2,o2+k * 8+2,none⟩) hb2).trans e2); (have z2:=(hS'.cell (p:=⟨b2,o2+k * 8+3,none⟩) hb2).trans e3); (have z3:=(hS'.cell (p:=⟨b2,o2+k * 8+4,none⟩) hb2).trans e4); (have z4:=(hS'.cell (p:=⟨b2,o2+k * 8+5,none⟩) hb2).trans e5); (have z5:=(hS'.cell (p:=⟨b2,o2+k * 8+6,none⟩) hb2).trans e6); (have z6:=(hS'.cell (p:=⟨b2,o2+k * 8+7,none⟩) hb2).trans e7); go_simp)
   refine cl 22 rfl fun K hK=>?_
   go_simp
   refine (Range.refSame_all (wt r) r x y B _ (Nat.le_refl _) HLN.out (HX.out.keep (KeepS.of_below H0.out)) (HY.out.keep (KeepS.of_below H0.out)) (Nat.le_trans hB (Nat.le_trans HW.out.size H0.out.size))).mono ?_
   rintro e W2 ⟨rfl,hb⟩
   have H2:Hid (Below wk.heap.size wk W2):=H0.out.trans (hb.mono H0.out.size)
   refine hK.out _ _ H2.out (fun hHeld2=>?_)
   clear hK K hb
   try simp only [Act.put,p1,p2,p3]
   refine tk 23 rfl (.bool false) ?_
   refine tk 24 rfl (.bool false) ?_
   refine wpAnyH_done (by kernel_rfl) ?_ _
   have HW2:=Lib.hid (HW.out.trans (H2.out.mono HW.out.size))
   clear c0 c1' c2' c3 c4 c5 c6 c7 e0 e1 e2 e3 e4 e5 e6 e7 hHeld hHeld2
   go_wp2
   exact ⟨⟨k+1,by omega,by go_num,HW2.out⟩,by simp [intOf]; omega⟩
  ·obtain rfl:k=n:=by omega
   go_wp2
   go_ret
   exact ⟨rfl,HW.out⟩
end Go.Proofs.YtgakcdcfblgagaaDoor.Sheet
