/-
  What the theorem of the last text needs of these: ShMath, RgIn, MoRefDep, ShBack. Conditions: as each theorem states.
-/
import Derived.Test.YtgakcdcfblgagaaDoorJoA1
import Derived.Test.YtgakcdcfblgagaaDoorJoA2
import Derived.Test.YtgakcdcfblgagaaDoorJoA4
import Derived.Test.YtgakcdcfblgagaaDoorJoA5
import Derived.Test.YtgakcdcfblgagaaDoorJoA6
import Derived.Test.YtgakcdcfblgagaaDoorJoA7
import Derived.Test.YtgakcdcfblgagaaDoorJoA8
import Derived.Test.YtgakcdcfblgagaaDoorJoA10
import Derived.Deep.QuietTactic
import Derived.BigQuiet
import Derived.Deep.CutBlock
import Derived.Deep.DeepCutAuto
set_option maxRecDepth 100000
set_option maxHeartbeats 25600000
namespace Go.Proofs.YtgakcdcfblgagaaDoor.Sheet
open Go.RowKit Num Ident Semver
open Range (Rng noRng goodR goodL textR textL pread markR aheadR openR shutR ops)
open Name (isName nlen okB fstB)
open Model (PDep PRel PPack PPin SortOf)

def linesOf:List UInt8→List (List UInt8)
 | []=>[]
 | c :: s=>if c=10 then [] :: linesOf s else match linesOf s with
  | []=>[[c]]
  | l :: ls=>(c :: l) :: ls
/-! the words -/
def wPackage:List UInt8:=[112,97,99,107,97,103,101]
def wVersion:List UInt8:=[118,101,114,115,105,111,110]
def wYanked:List UInt8:=[121,97,110,107,101,100]
def wNeeds:List UInt8:=[110,101,101,100,115]
def wBans:List UInt8:=[98,97,110,115]
def wRoot:List UInt8:=[114,111,111,116]
def wPin:List UInt8:=[112,105,110]
def kindW (w:List UInt8):Nat:=if w=wPackage then 1 else if w=wVersion∨w=wYanked then 2 else if w=wNeeds∨w=wBans∨w=wRoot then 3 else if w=wPin then 4 else 0
def wordOf (t:List UInt8):List UInt8:=t.takeWhile (· != 32)
theorem wordOf_cat:∀ (w s:List UInt8),32 ∉ w→wordOf (w ++ 32 :: s)=w
 | [],s,_=>by simp [wordOf]
 | c :: w,s,h=>by
  have hc:(c != 32)=true:=by
   rw [bne_iff_ne]; exact fun e=>h (by simp [e])
  show (c :: (w ++ 32 :: s)).takeWhile (· != 32)=c :: w
  rw [List.takeWhile_cons,if_pos hc]
  exact congrArg _ (wordOf_cat w s (fun q=>h (by simp [q])))
structure Line where
 w:List UInt8
 name:List UInt8
 v:Ver
 r:Rng
 e:Nat
def bad (w:List UInt8) (e:Nat):Line:=⟨w,[],noVer,noRng,e⟩
def nameOk (k:Nat) (s:List UInt8):Bool:=!(nlen s == 0 || decide (255<nlen s) || (decide (nlen s<s.length) && (k == 1 || decide (s.getD (nlen s) 0≠32))))
def readV (w name s:List UInt8):Line:=if (vread s).1≠0 then bad w (vread s).1 else ⟨w,name,(vread s).2.2,noRng,0⟩
def readR (w name s:List UInt8):Line:=if (pread s).1≠0 then bad w (pread s).1 else ⟨w,name,noVer,(pread s).2.2,0⟩
def readL (t:List UInt8):Line :=
 let w:=wordOf t
 let k:=kindW w
 let s:=t.drop (w.length+1)
 if k=0 then bad [] 13 else if s=[] then bad w 5
 else if k=2 then readV w [] s
 else if nameOk k s=false then bad w 12
 else if k=1 then ⟨w,s.take (nlen s),noVer,noRng,0⟩
 else
  let q:=s.drop (nlen s+1)
  if q=[] then bad w 5 else if k=3 then readR w (s.take (nlen s)) q else readV w (s.take (nlen s)) q
/-! an index -/
def onLast {α:Type} [Inhabited α] (f:α→α) (l:List α):List α:=l.dropLast ++ [f (l.getLastD default)]
theorem onLast_snoc {α:Type} [Inhabited α] (f:α→α) (l:List α) (a:α):onLast f (l ++ [a])=l ++ [f a]:=by simp [onLast]
def addRel (r:PRel) (p:PPack):PPack:=⟨p.name,p.rels ++ [r]⟩
def onRel (f:PRel→PRel) (p:PPack):PPack:=⟨p.name,onLast f p.rels⟩
def addNeed (d:PDep) (r:PRel):PRel:=⟨r.v,r.yanked,r.needs ++ [d],r.bans⟩
def addBan (d:PDep) (r:PRel):PRel:=⟨r.v,r.yanked,r.needs,r.bans ++ [d]⟩
def badX (st:List PPack) (w:List UInt8):Bool :=
 w == [] || w == wRoot || w == wPin || (w != wPackage && st.isEmpty) || ((w == wNeeds || w == wBans) && (st.getLastD default).rels.isEmpty)
def addX (st:List PPack) (l:Line):List PPack :=
 if l.w=wPackage then st ++ [⟨l.name,[]⟩]
 else if l.w=wVersion∨l.w=wYanked then onLast (addRel ⟨l.v,decide (l.w=wYanked),[],[]⟩) st
 else if l.w=wNeeds then onLast (onRel (addNeed ⟨l.name,l.r⟩)) st
 else onLast (onRel (addBan ⟨l.name,l.r⟩)) st
def skipB (t:List UInt8):Bool:=t == [] || t.head? == some 35
def linesX:List PPack→List (List UInt8)→Nat × List PPack
 | st,[]=>(0,st)
 | st,t :: ts=>if skipB t=true then linesX st ts
  else if badX st (readL t).w=true then (13,[])
  else if (readL t).e≠0 then ((readL t).e,[])
  else linesX (addX st (readL t)) ts
def indexF (b:List UInt8):Nat × List PPack:=if 16777216<b.length then (4,[]) else linesX [] (linesOf b)
/-! texts -/
/-! what can be read -/
def DepR (d:PDep):Prop:=isName d.name=true∧goodR d.r 0=true
structure RelR (r:PRel):Prop where
 ver:goodV r.v=true
 needs:∀ d ∈ r.needs,DepR d
 bans:∀ d ∈ r.bans,DepR d
structure PackR (p:PPack):Prop where
 name:isName p.name=true
 rels:∀ r ∈ p.rels,RelR r
/-! no newline stands in what is told -/
theorem name_byte {s:List UInt8} (h:isName s=true):∀ b ∈ s,fstB (b.toNat:Int)=true∨b=45∨b=95∨b=46:=by
 intro b hb
 obtain ⟨j,hj,rfl⟩:=List.getElem_of_mem hb
 have h1:=(Name.isName_iff s).1 h
 have h2:=Name.nrun_ok s 0 j (by have:nlen s=s.length:=h1.1; unfold nlen at this; omega)
 rw [Nat.zero_add] at h2
 rcases (Name.okB_iff j _).1 h2 with h3 | ⟨_,h3⟩
 ·left
  have e:byteAt s j=(s[j].toNat:Int):=by simp [byteAt,hj]
  rw [e] at h3; exact h3
 ·right
  have e:byteAt s j=(s[j].toNat:Int):=by simp [byteAt,hj]
  rw [e] at h3
  rcases h3 with h3 | h3 | h3
  ·left; apply UInt8.toNat_inj.1; simp; omega
  ·right; left; apply UInt8.toNat_inj.1; simp; omega
  ·right; right; apply UInt8.toNat_inj.1; simp; omega
theorem name_no {s:List UInt8} (h:isName s=true):10 ∉ s∧32 ∉ s:=by
 constructor
 ·intro hb
  rcases name_byte h 10 hb with h1 | h1 | h1 | h1
  ·exact absurd h1 (by decide)
  all_goals exact absurd h1 (by decide)
 ·intro hb
  rcases name_byte h 32 hb with h1 | h1 | h1 | h1
  ·exact absurd h1 (by decide)
  all_goals exact absurd h1 (by decide)
end Go.Proofs.YtgakcdcfblgagaaDoor.Sheet
namespace Go.Proofs.YtgakcdcfblgagaaDoor.Range
open Go.RowKit Num Ident Semver

def insideF (deep:Int) (m:Nat) (pf:List UInt8→Out) (s:List UInt8):Out:=if deep=64 then (8,s,noRng) else pf (blanks (s.drop m))
theorem insideE (b:Nat) (A:Option Addr) (n c:Nat) (l:List UInt8) (p:Nat) (s mark:List UInt8) (deep:Int) (pf:List UInt8→Out) (w:World) (hR:Rd w b A n c p) (hr:Row w A n l) (hs:Pl l p s) (ht:OpsTab w) (hd:0≤deep∧deep≤64) (hst:stands mark s=true) (hp:deep≠64→PartOK 60 b A n c l (deep+1) pf) :
  Calls Tryd.prog 98 #[.pointer (some ⟨b,0,none⟩),.string (mk mark),.int .i64 deep,.func (.func 60) #[.pointer (some ⟨b,0,none⟩)] #[]] w (RgPost b A n c l w (insideF deep mark.length pf s)):=by
 have hpm:p+mark.length≤n:=by
  have h1:=stands_len hst
  rw [hs.len,hr.1] at h1
  have h2:=hs.le
  rw [hr.1] at h2
  omega
 have hbw:=hR.lt
 have HP:=Lib.hid hs
 have HL:=Lib.hid hr.1
 have HR:=Lib.hid hR
 have HRow:=Lib.hid hr
 have HT:=Lib.hid ht
 have H7:Hid (RAt (w.alloc ()) w.heap.size (zeroRV 0)):=RAt.new w 51 (zeroRV 0)
 have HM:Hid (Moved b w (w.alloc ())):=(Moved.refl b w).alloc hbw _
 have HR0:Hid (Rd (w.alloc ()) b A n c p):=hR.alloc _
 have HRow0:Hid (Row (w.alloc ()) A n l):=hr.kept ((Below.refl _ _).alloc (Nat.le_refl _) _)
 have HT0:Hid (OpsTab (w.alloc ())):=ht.keep (Keep.of_below ((Below.refl _ _).alloc (Nat.le_refl _) _))
 have hne:w.heap.size≠b:=by omega
 have hmf:∀ (fn:Fn) (first cap:Array Value) (w:World),(Instr.makeFunc fn first cap).run Tryd.prog w=.ok (.func fn first cap) w:=fun _ _ _ _=>rfl
 clear hR hr hs ht
 by_cases h64:deep=64
 ·have HF:Hid (insideF deep mark.length pf s=(8,s,noRng)):=if_pos h64
  subst h64
  clear hp hst
  obtain ⟨y1,y2,c0,c1,c2,c3,c4,c5,c6⟩:=H7.out
  rw [HF.out]
  go_enter Tryd.func98,Tryd.ntmps98
  go_wp2
  exact bodyPost_ret (v:=.tuple #[.agg #[.int .i64 0,.int .u64 0,.int .u64 0,.int .u64 0,.slice none 0 0,.slice none 0 0,.slice none 0 0],.int .i64 8]) (by simp [results,Tryd.results98,go_sem]) rfl (⟨zeroRV 0,p,rfl,Lies.zero _ _ 0,HP.out,HR0.out,HM.out⟩)
 ·have HF:Hid (insideF deep mark.length pf s=pf (blanks (s.drop mark.length))):=if_neg h64
  have HPP:=Lib.hid (hp h64)
  have hb1:(deep == 64)=false:=by simp [h64]
  have hd1:=hd.1
  have hd2:=hd.2
  obtain ⟨s2,hs2⟩:∃ s2,blanks (s.drop mark.length)=s2:=⟨_,rfl⟩
  obtain ⟨t,ht⟩:∃ t,pf s2=t:=⟨_,rfl⟩
  rw [HF.out,hs2,ht]
  have HS2:=Lib.hid hs2
  have HTT:=Lib.hid ht
  clear hp hst h64 hd hs2 ht
  go_enter Tryd.func98,Tryd.ntmps98
  go_wp2_with fail
  have hsz:((mk mark).size:Int)=(mark.length:Int):=rfl
  first
   | refine (pass_any b A n c p mark.length l s _ HR0.out HRow0.out HP.out hpm).mono ?_
   | (rw [hsz]; refine (pass_any b A n c p mark.length l s _ HR0.out HRow0.out HP.out hpm).mono ?_)
  rintro e W2 ⟨rfl,q2,hq2,hR2,hM2⟩
  rw [HS2.out] at hq2
  have HR2:=Lib.hid hR2
  have HP2:=Lib.hid hq2
  have H72:=Lib.hid (H7.out.moved hM2 hne)
  have HK2:=Lib.hid (HR0.out.keep hM2)
  have HRow2:=Lib.hid (row_keep HRow0.out HK2.out)
  have HT2:=Lib.hid (HT0.out.keep HK2.out)
  have HM2:=Lib.hid (HM.out.trans hM2)
  have hz2:w.heap.size<W2.heap.size:=H72.out.1
  clear hR2 hq2 hM2 HK2 HR0 HM H7 HRow0 HT0 HF
  go_wp2_with fail
  refine (HPP.out W2 q2 s2 HR2.out HRow2.out HT2.out HP2.out).mono ?_
  rw [HTT.out]
  rintro e W3 ⟨x,q3,rfl,hx,hP3,hR3,hM3⟩
  unfold RV.agg
  have HX:Hid (Lies W3 (From (w.heap.size+1)) t.2.2 x):=hx.from_ hz2
  have HP3:=Lib.hid hP3
  have HR3:=Lib.hid hR3
  have HM3:=Lib.hid (HM2.out.trans hM3)
  have H73:=Lib.hid (H72.out.moved hM3 hne)
  clear hx hP3 hR3 hM3
  obtain ⟨y1,y2,c0,c1,c2,c3,c4,c5,c6⟩:=H73.out
  go_wp2
  exact bodyPost_ret (v:=.tuple #[.agg #[x.kind,x.v.a,x.v.b,x.v.c,.slice x.A x.v.pre.length x.c,.slice x.B x.v.build.length x.d,.slice x.L x.n x.e],.int .i64 t.1]) (by simp [results,Tryd.results98,go_sem,c0,c1,c2,c3,c4,c5,c6]) rfl (rg_end (x:=x) (f:=t.1) (s:=t.2.1) (r:=t.2.2) hbw HX.out HP3.out HR3.out HM3.out)
theorem insideO (b:Nat) (A:Option Addr) (n c:Nat) (l:List UInt8) (p:Nat) (s mark:List UInt8) (deep:Int) (pf:List UInt8→Out) (w:World) (hR:Rd w b A n c p) (hr:Row w A n l) (hs:Pl l p s) (ht:OpsTab w) (hd:0≤deep∧deep≤64) (hst:stands mark s=true) (hp:deep≠64→PartOK 77 b A n c l (deep+1) pf) :
  Calls Tryd.prog 98 #[.pointer (some ⟨b,0,none⟩),.string (mk mark),.int .i64 deep,.func (.func 77) #[.pointer (some ⟨b,0,none⟩)] #[]] w (RgPost b A n c l w (insideF deep mark.length pf s)):=by
 have hpm:p+mark.length≤n:=by
  have h1:=stands_len hst
  rw [hs.len,hr.1] at h1
  have h2:=hs.le
  rw [hr.1] at h2
  omega
 have hbw:=hR.lt
 have HP:=Lib.hid hs
 have HL:=Lib.hid hr.1
 have HR:=Lib.hid hR
 have HRow:=Lib.hid hr
 have HT:=Lib.hid ht
 have H7:Hid (RAt (w.alloc ()) w.heap.size (zeroRV 0)):=RAt.new w 51 (zeroRV 0)
 have HM:Hid (Moved b w (w.alloc ())):=(Moved.refl b w).alloc hbw _
 have HR0:Hid (Rd (w.alloc ()) b A n c p):=hR.alloc _
 have HRow0:Hid (Row (w.alloc ()) A n l):=hr.kept ((Below.refl _ _).alloc (Nat.le_refl _) _)
 have HT0:Hid (OpsTab (w.alloc ())):=ht.keep (Keep.of_below ((Below.refl _ _).alloc (Nat.le_refl _) _))
 have hne:w.heap.size≠b:=by omega
 have hmf:∀ (fn:Fn) (first cap:Array Value) (w:World),(Instr.makeFunc fn first cap).run Tryd.prog w=.ok (.func fn first cap) w:=fun _ _ _ _=>rfl
 clear hR hr hs ht
 by_cases h64:deep=64
 ·have HF:Hid (insideF deep mark.length pf s=(8,s,noRng)):=if_pos h64
  subst h64
  clear hp hst
  obtain ⟨y1,y2,c0,c1,c2,c3,c4,c5,c6⟩:=H7.out
  rw [HF.out]
  go_enter Tryd.func98,Tryd.ntmps98
  go_wp2
  exact bodyPost_ret (v:=.tuple #[.agg #[.int .i64 0,.int .u64 0,.int .u64 0,.int .u64 0,.slice none 0 0,.slice none 0 0,.slice none 0 0],.int .i64 8]) (by simp [results,Tryd.results98,go_sem]) rfl (⟨zeroRV 0,p,rfl,Lies.zero _ _ 0,HP.out,HR0.out,HM.out⟩)
 ·have HF:Hid (insideF deep mark.length pf s=pf (blanks (s.drop mark.length))):=if_neg h64
  have HPP:=Lib.hid (hp h64)
  have hb1:(deep == 64)=false:=by simp [h64]
  have hd1:=hd.1
  have hd2:=hd.2
  obtain ⟨s2,hs2⟩:∃ s2,blanks (s.drop mark.length)=s2:=⟨_,rfl⟩
  obtain ⟨t,ht⟩:∃ t,pf s2=t:=⟨_,rfl⟩
  rw [HF.out,hs2,ht]
  have HS2:=Lib.hid hs2
  have HTT:=Lib.hid ht
  clear hp hst h64 hd hs2 ht
  go_enter Tryd.func98,Tryd.ntmps98
  go_wp2_with fail
  have hsz:((mk mark).size:Int)=(mark.length:Int):=rfl
  first
   | refine (pass_any b A n c p mark.length l s _ HR0.out HRow0.out HP.out hpm).mono ?_
   | (rw [hsz]; refine (pass_any b A n c p mark.length l s _ HR0.out HRow0.out HP.out hpm).mono ?_)
  rintro e W2 ⟨rfl,q2,hq2,hR2,hM2⟩
  rw [HS2.out] at hq2
  have HR2:=Lib.hid hR2
  have HP2:=Lib.hid hq2
  have H72:=Lib.hid (H7.out.moved hM2 hne)
  have HK2:=Lib.hid (HR0.out.keep hM2)
  have HRow2:=Lib.hid (row_keep HRow0.out HK2.out)
  have HT2:=Lib.hid (HT0.out.keep HK2.out)
  have HM2:=Lib.hid (HM.out.trans hM2)
  have hz2:w.heap.size<W2.heap.size:=H72.out.1
  clear hR2 hq2 hM2 HK2 HR0 HM H7 HRow0 HT0 HF
  go_wp2_with fail
  refine (HPP.out W2 q2 s2 HR2.out HRow2.out HT2.out HP2.out).mono ?_
  rw [HTT.out]
  rintro e W3 ⟨x,q3,rfl,hx,hP3,hR3,hM3⟩
  unfold RV.agg
  have HX:Hid (Lies W3 (From (w.heap.size+1)) t.2.2 x):=hx.from_ hz2
  have HP3:=Lib.hid hP3
  have HR3:=Lib.hid hR3
  have HM3:=Lib.hid (HM2.out.trans hM3)
  have H73:=Lib.hid (H72.out.moved hM3 hne)
  clear hx hP3 hR3 hM3
  obtain ⟨y1,y2,c0,c1,c2,c3,c4,c5,c6⟩:=H73.out
  go_wp2
  exact bodyPost_ret (v:=.tuple #[.agg #[x.kind,x.v.a,x.v.b,x.v.c,.slice x.A x.v.pre.length x.c,.slice x.B x.v.build.length x.d,.slice x.L x.n x.e],.int .i64 t.1]) (by simp [results,Tryd.results98,go_sem,c0,c1,c2,c3,c4,c5,c6]) rfl (rg_end (x:=x) (f:=t.1) (s:=t.2.1) (r:=t.2.2) hbw HX.out HP3.out HR3.out HM3.out)
theorem bracket_ok (b:Nat) (A:Option Addr) (n c:Nat) (l:List UInt8) (p:Nat) (s:List UInt8) (deep:Int) (pf:List UInt8→Out) (w:World) (hR:Rd w b A n c p) (hr:Row w A n l) (hs:Pl l p s) (ht:OpsTab w) (hc:n≤c) (hd:0≤deep∧deep≤64) (hst:stands [40] s=true) (hp:deep≠64→PartOK 60 b A n c l (deep+1) pf) :
  Calls Tryd.prog 89 #[.pointer (some ⟨b,0,none⟩),.int .i64 deep] w (RgPost b A n c l w (shutF (insideF deep 1 pf s))):=by
 have hbw:=hR.lt
 have HP:=Lib.hid hs
 have HL:=Lib.hid hr.1
 have HR:=Lib.hid hR
 have HRow:=Lib.hid hr
 have HT:=Lib.hid ht
 have H7:Hid (RAt (w.alloc ()) w.heap.size (zeroRV 0)):=RAt.new w 51 (zeroRV 0)
 have HM:Hid (Moved b w (w.alloc ())):=(Moved.refl b w).alloc hbw _
 have HR0:Hid (Rd (w.alloc ()) b A n c p):=hR.alloc _
 have HRow0:Hid (Row (w.alloc ()) A n l):=hr.kept ((Below.refl _ _).alloc (Nat.le_refl _) _)
 have HT0:Hid (OpsTab (w.alloc ())):=ht.keep (Keep.of_below ((Below.refl _ _).alloc (Nat.le_refl _) _))
 have hne:w.heap.size≠b:=by omega
 have hmf:∀ (fn:Fn) (first cap:Array Value) (w:World),(Instr.makeFunc fn first cap).run Tryd.prog w=.ok (.func fn first cap) w:=fun _ _ _ _=>rfl
 clear hR hr hs ht
 obtain ⟨⟨f,s1,r⟩,hk⟩:∃ t,insideF deep 1 pf s=t:=⟨_,rfl⟩
 rw [hk]
 have HKI:=Lib.hid hk
 clear hk
 go_enter Tryd.func89,Tryd.ntmps89
 go_wp2_with fail
 refine (insideE b A n c l p s [40] deep pf _ HR0.out HRow0.out HP.out HT0.out hd hst hp).mono ?_
 have e1:insideF deep ([40]:List UInt8).length pf s=(f,s1,r):=HKI.out
 rw [e1]
 rintro e W1 ⟨x,q1,rfl,hx,hP1,hR1,hM1⟩
 unfold RV.agg
 simp only at hx hP1 ⊢
 have HX:=Lib.hid hx
 rw [size_alloc] at HX
 have HP1:=Lib.hid hP1
 have HR1:=Lib.hid hR1
 have HM1:=Lib.hid (HM.out.trans hM1)
 have H71:=Lib.hid (H7.out.moved hM1 hne)
 have hz1:w.heap.size<W1.heap.size:=H71.out.1
 have HK1:=Lib.hid (HR.out.keep HM1.out)
 have HRow1:=Lib.hid (row_keep HRow.out HK1.out)
 clear hx hP1 hR1 hM1 HR0 HM H7 HRow0 HT0 hp hst
 by_cases h0:f=0
 ·subst h0
  have HF:Hid (shutF (0,s1,r)=if stands [41] s1=true then (0,blanks (s1.drop 1),r) else (lackN s1,s1,noRng)):=if_neg (by simp)
  have hR2:Hid (Rd (W1.alloc x) b A n c q1):=HR1.out.alloc _
  have hM2:Hid (Moved b w (W1.alloc x)):=HM1.out.alloc hbw _
  have h72:Hid (RAt (W1.alloc x) w.heap.size (zeroRV 0)):=H71.out.kept ((Below.refl W1.heap.size W1).alloc (Nat.le_refl _) _) hz1
  have ha2:Hid (RAt (W1.alloc x) W1.heap.size x):=RAt.new W1 51 x
  have hX2:Hid (Lies (W1.alloc x) (From (w.heap.size+1)) r x):=HX.out.keep (KeepS.alloc _ _)
  have hRow2:Hid (Row (W1.alloc x) A n l):=HRow1.out.kept ((Below.refl _ _).alloc (Nat.le_refl _) _)
  clear HR1 HM1 H71 HX HRow1 HK1
  go_wp2_with fail
  refine (stands_any b A n c q1 l s1 [41] _ hR2.out hRow2.out hc HP1.out (by decide)).mono ?_
  rintro e W3 ⟨rfl,hr3,hm3⟩
  have HR3:=Lib.hid hr3
  have HM3:=Lib.hid (hM2.out.trans hm3)
  have H73:=Lib.hid (h72.out.moved hm3 hne)
  have HA3:=Lib.hid (ha2.out.moved hm3 (by omega))
  have HX3:Hid (Lies W3 (From (w.heap.size+1)) r x):=hX2.out.keep (KeepS.moved hm3 (fun h=>by unfold From at h; omega))
  have HRow3:=Lib.hid (row_keep HRow.out (HR.out.keep HM3.out))
  clear hr3 hm3 hR2 hM2 h72 ha2 hX2 hRow2
  cases hst1:stands [41] s1 with
  | true =>
   have HF2:Hid (shutF (0,s1,r)=(0,blanks (s1.drop 1),r)):=HF.out.trans (if_pos hst1)
   have hpm:q1+1≤n:=by
    have h1:=stands_len hst1
    rw [HP1.out.len,HL.out] at h1
    have h2:=HP1.out.le
    rw [HL.out] at h2
    simp only [List.length_singleton] at h1
    omega
   clear hst1
   go_wp2_with fail
   refine (pass_any b A n c q1 1 l s1 _ HR3.out HRow3.out HP1.out hpm).mono ?_
   rintro e W4 ⟨rfl,q4,hq4,hr4,hm4⟩
   have HR4:=Lib.hid hr4
   have HP4:=Lib.hid hq4
   have HM4:=Lib.hid (HM3.out.trans hm4)
   have H74:=Lib.hid (H73.out.moved hm4 hne)
   have HA4:=Lib.hid (HA3.out.moved hm4 (by omega))
   have HX4:Hid (Lies W4 (From (w.heap.size+1)) r x):=HX3.out.keep (KeepS.moved hm4 (fun h=>by unfold From at h; omega))
   clear hr4 hq4 hm4 HR3 HM3 H73 HA3 HX3 HRow3
   obtain ⟨y1,y2,c0,c1,c2,c3,c4,c5,c6⟩:=H74.out
   obtain ⟨_,_,d0,d1,d2,d3,d4,d5,d6⟩:=HA4.out
   go_wp2
   exact bodyPost_ret (v:=.tuple #[.agg #[x.kind,x.v.a,x.v.b,x.v.c,.slice x.A x.v.pre.length x.c,.slice x.B x.v.build.length x.d,.slice x.L x.n x.e],.int .i64 0]) (by simp [results,Tryd.results89,go_sem,c0,c1,c2,c3,c4,c5,c6]) rfl (by rw [HF2.out]; exact rg_end (x:=x) (f:=0) hbw HX4.out HP4.out HR4.out HM4.out)
  | false =>
   have HF2:Hid (shutF (0,s1,r)=(lackN s1,s1,noRng)):=HF.out.trans (if_neg (by rw [hst1]; simp))
   clear hst1
   go_wp2_with fail
   refine (lack_any b A n c q1 l s1 _ HR3.out HRow3.out HP1.out).mono ?_
   rintro e W4 ⟨rfl,hr4,hm4⟩
   have HR4:=Lib.hid hr4
   have HM4:=Lib.hid (HM3.out.trans hm4)
   have H74:=Lib.hid (H73.out.moved hm4 hne)
   clear hr4 hm4 HR3 HM3 H73 HA3 HX3 HRow3
   obtain ⟨y1,y2,c0,c1,c2,c3,c4,c5,c6⟩:=H74.out
   go_wp2
   exact bodyPost_ret (v:=.tuple #[.agg #[.int .i64 0,.int .u64 0,.int .u64 0,.int .u64 0,.slice none 0 0,.slice none 0 0,.slice none 0 0],.int .i64 (lackN s1)]) (by simp [results,Tryd.results89,go_sem,c0,c1,c2,c3,c4,c5,c6]) rfl (by rw [HF2.out]; exact rg_end (x:=zeroRV 0) hbw (Lies.zero _ _ 0) HP1.out HR4.out HM4.out)
 ·have HF:Hid (shutF (f,s1,r)=(f,s1,noRng)):=if_pos h0
  have hb1:((f:Int) != 0)=true:=by simp [h0]
  have hb2:((f:Int) == 0)=false:=by simp [h0]
  clear h0
  obtain ⟨y1,y2,c0,c1,c2,c3,c4,c5,c6⟩:=H71.out
  have hw1:W1.heap.size≠w.heap.size:=by omega
  go_wp2
  exact bodyPost_ret (v:=.tuple #[.agg #[.int .i64 0,.int .u64 0,.int .u64 0,.int .u64 0,.slice none 0 0,.slice none 0 0,.slice none 0 0],.int .i64 f]) (by simp [results,Tryd.results89,go_sem,c0,c1,c2,c3,c4,c5,c6,y1]) rfl (by rw [HF.out]; exact (rg_end (x:=zeroRV 0) hbw (Lies.zero _ _ 0) HP1.out HR1.out HM1.out).alloc hbw _)
theorem not_ok (b:Nat) (A:Option Addr) (n c:Nat) (l:List UInt8) (p:Nat) (s:List UInt8) (deep:Int) (pf:List UInt8→Out) (w:World) (hR:Rd w b A n c p) (hr:Row w A n l) (hs:Pl l p s) (ht:OpsTab w) (hd:0≤deep∧deep≤64) (hst:stands [33] s=true) (hp:deep≠64→PartOK 77 b A n c l (deep+1) pf) :
  Calls Tryd.prog 90 #[.pointer (some ⟨b,0,none⟩),.int .i64 deep] w (RgPost b A n c l w (notF (insideF deep 1 pf s))):=by
 have hbw:=hR.lt
 have HP:=Lib.hid hs
 have HL:=Lib.hid hr.1
 have HR:=Lib.hid hR
 have HRow:=Lib.hid hr
 have HT:=Lib.hid ht
 have H7:Hid (RAt (w.alloc ()) w.heap.size (zeroRV 0)):=RAt.new w 51 (zeroRV 0)
 have HM:Hid (Moved b w (w.alloc ())):=(Moved.refl b w).alloc hbw _
 have HR0:Hid (Rd (w.alloc ()) b A n c p):=hR.alloc _
 have HRow0:Hid (Row (w.alloc ()) A n l):=hr.kept ((Below.refl _ _).alloc (Nat.le_refl _) _)
 have HT0:Hid (OpsTab (w.alloc ())):=ht.keep (Keep.of_below ((Below.refl _ _).alloc (Nat.le_refl _) _))
 have hne:w.heap.size≠b:=by omega
 have hmf:∀ (fn:Fn) (first cap:Array Value) (w:World),(Instr.makeFunc fn first cap).run Tryd.prog w=.ok (.func fn first cap) w:=fun _ _ _ _=>rfl
 clear hR hr hs ht
 obtain ⟨⟨f,s1,r⟩,hk⟩:∃ t,insideF deep 1 pf s=t:=⟨_,rfl⟩
 rw [hk]
 have HKI:=Lib.hid hk
 clear hk
 go_enter Tryd.func90,Tryd.ntmps90
 go_wp2_with fail
 refine (insideO b A n c l p s [33] deep pf _ HR0.out HRow0.out HP.out HT0.out hd hst hp).mono ?_
 have e1:insideF deep ([33]:List UInt8).length pf s=(f,s1,r):=HKI.out
 rw [e1]
 rintro e W1 ⟨x,q1,rfl,hx,hP1,hR1,hM1⟩
 unfold RV.agg
 simp only at hx hP1 ⊢
 have HX:=Lib.hid hx
 rw [size_alloc] at HX
 have HP1:=Lib.hid hP1
 have HR1:=Lib.hid hR1
 have HM1:=Lib.hid (HM.out.trans hM1)
 have H71:=Lib.hid (H7.out.moved hM1 hne)
 have hz1:w.heap.size<W1.heap.size:=H71.out.1
 have HK1:=Lib.hid (HR.out.keep HM1.out)
 have HRow1:=Lib.hid (row_keep HRow.out HK1.out)
 clear hx hP1 hR1 hM1 HR0 HM H7 HRow0 HT0 hp hst
 by_cases h0:f=0
 ·subst h0
  have HF:Hid (notF (0,s1,r)=(0,s1,.mk 11 noVer [r])):=if_neg (by simp)
  obtain ⟨V,hV⟩:∃ V,setR W1 w.heap.size ⟨11,noVer,none,0,none,0,some ⟨W1.heap.size+1,0,none⟩,1,1⟩=V:=⟨_,rfl⟩
  have hVs:V.heap.size=W1.heap.size:=by rw [← hV]; unfold setR; simp
  have hXV:Hid (Lies V (From (w.heap.size+1)) r x):=by rw [← hV]; exact HX.out.keep (setR_keep (Nat.not_succ_le_self _) _)
  have hX2:Hid (Lies ((V.alloc x).alloc x) (From (w.heap.size+1)) r x):=(hXV.out.keep (KeepS.alloc _ _)).keep (KeepS.alloc _ _)
  have hrow:Hid (RgRow ((V.alloc x).alloc x) (From (w.heap.size+1)) (some ⟨W1.heap.size+1,0,none⟩) 1 [r]):=by
   refine ⟨fun _=>x,rfl,fun _=>⟨W1.heap.size+1,0,rfl,by unfold From; omega,fun k hk i u hu=>?_⟩,fun k hk=>?_⟩
   ·obtain rfl:k=0:=by omega
    have:=news_new (V.alloc x) x.vals 51 i u hu
    rw [size_alloc,add_none,hVs] at this
    rw [Nat.zero_mul,Nat.add_zero]; exact this
   ·obtain rfl:k=0:=by omega
    exact hX2.out
  have hR2:Hid (Rd ((V.alloc x).alloc x) b A n c q1):=by rw [← hV]; exact ((setR_rd HR1.out hbw _).alloc _).alloc _
  have hM2:Hid (Moved b w ((V.alloc x).alloc x)):=by rw [← hV]; exact ((setR_moved HM1.out hbw (Nat.le_refl _) _).alloc hbw _).alloc hbw _
  have hfin:Hid (RgPost b A n c l w (0,s1,.mk 11 noVer [r]) (.returned (.tuple #[(RV.agg ⟨11,noVer,none,0,none,0,some ⟨W1.heap.size+1,0,none⟩,1,1⟩),.int .i64 0])) ((V.alloc x).alloc x)) :=
   ⟨⟨11,noVer,none,0,none,0,some ⟨W1.heap.size+1,0,none⟩,1,1⟩,q1,rfl,(Lies.many 11 hrow.out (Nat.le_refl _) (fun h=>by cases h)).from_ (Nat.le_succ _),HP1.out,hR2.out,hM2.out⟩
  rw [← hV] at hfin
  clear hV hVs hXV hX2 hrow hR2 hM2
  obtain ⟨y1,y2,c0,c1,c2,c3,c4,c5,c6⟩:=H71.out
  have hw1:W1.heap.size≠w.heap.size:=by omega
  have hw2:W1.heap.size+1≠w.heap.size:=by omega
  have y3:w.heap.size<W1.heap.size+1:=by omega
  go_wp2
  exact bodyPost_ret (v:=.tuple #[.agg #[.int .i64 11,.int .u64 0,.int .u64 0,.int .u64 0,.slice none 0 0,.slice none 0 0,.slice (some ⟨W1.heap.size+1,0,none⟩) 1 1],.int .i64 0]) (by simp [results,Tryd.results90,go_sem,c0,c1,c2,c3,c4,c5,c6,y1,y3]) rfl (by rw [HF.out]; exact hfin.out)
 ·have HF:Hid (notF (f,s1,r)=(f,s1,noRng)):=if_pos h0
  have hb1:((f:Int) != 0)=true:=by simp [h0]
  have hb2:((f:Int) == 0)=false:=by simp [h0]
  clear h0
  obtain ⟨y1,y2,c0,c1,c2,c3,c4,c5,c6⟩:=H71.out
  have hw1:W1.heap.size≠w.heap.size:=by omega
  go_wp2
  exact bodyPost_ret (v:=.tuple #[.agg #[.int .i64 0,.int .u64 0,.int .u64 0,.int .u64 0,.slice none 0 0,.slice none 0 0,.slice none 0 0],.int .i64 f]) (by simp [results,Tryd.results90,go_sem,c0,c1,c2,c3,c4,c5,c6,y1]) rfl (by rw [HF.out]; exact (rg_end (x:=zeroRV 0) hbw (Lies.zero _ _ 0) HP1.out HR1.out HM1.out).alloc hbw _)
end Go.Proofs.YtgakcdcfblgagaaDoor.Range
namespace Go.Proofs.YtgakcdcfblgagaaDoor.Model
open Go.RowKit Num Ident Semver
open Range (Rng noRng RV KeepS LtB LenOk goodR wt)
open KR (KRow AtV)
open Name (isName)

theorem map_at {α β:Type} [Inhabited α] [Inhabited β] (f:α→β) (l:List α) {k:Nat} (h:k<l.length):(l.map f).getD k default=f (l.getD k default):=by
 rw [List.getD_eq_getElem?_getD,List.getD_eq_getElem?_getD,List.getElem?_map,List.getElem?_eq_getElem h]; rfl
theorem getD_mem {α:Type} [Inhabited α] {l:List α} {k:Nat} (h:k<l.length):l.getD k default ∈ l:=by
 rw [List.getD_eq_getElem?_getD,List.getElem?_eq_getElem h]; exact List.getElem_mem _
theorem DRow.cells {w:World} {S:Nat→Prop} {A:Option Addr} {n:Nat} {l:List MDep} (h:DRow w S A n l) {k:Nat} (hk:k<n):∃ b o,A=some ⟨b,o,none⟩∧S b∧b<w.heap.size ∧
  w.cell? ⟨b,o+k * 8,none⟩=some (.string (Ident.mk (l.getD k default).name))∧w.cell? ⟨b,o+k * 8+1,none⟩=some (.int .i64 (l.getD k default).x.kind)∧w.cell? ⟨b,o+k * 8+2,none⟩=some (.int .u64 ((l.getD k default).x.v.a))∧w.cell? ⟨b,o+k * 8+3,none⟩=some (.int .u64 ((l.getD k default).x.v.b))∧w.cell? ⟨b,o+k * 8+4,none⟩=some (.int .u64 ((l.getD k default).x.v.c))∧w.cell? ⟨b,o+k * 8+5,none⟩=some (.slice (l.getD k default).x.A (l.getD k default).x.v.pre.length (l.getD k default).x.c)∧w.cell? ⟨b,o+k * 8+6,none⟩=some (.slice (l.getD k default).x.B (l.getD k default).x.v.build.length (l.getD k default).x.d)∧w.cell? ⟨b,o+k * 8+7,none⟩=some (.slice (l.getD k default).x.L (l.getD k default).x.n (l.getD k default).x.e):=by
 obtain ⟨b,o,e,hb,hlt,hc⟩:=h.row.at_ hk
 exact ⟨b,o,e,hb,hlt,hc 0 _ rfl,hc 1 _ rfl,hc 2 _ rfl,hc 3 _ rfl,hc 4 _ rfl,hc 5 _ rfl,hc 6 _ rfl,hc 7 _ rfl⟩
end Go.Proofs.YtgakcdcfblgagaaDoor.Model
namespace Go.Proofs.YtgakcdcfblgagaaDoor.Sheet
open Go.RowKit Num Ident Semver
open Range (Rng noRng goodR goodL textR textL pread markR aheadR openR shutR ops fits most)
open Name (isName nlen okB fstB)
open Model (PDep PRel PPack PPin SortOf)

/-! a line that is told is read as it was -/
theorem nlen_cat {s:List UInt8} (h:isName s=true) (t:List UInt8) (ht:t=[]∨∃ q,t=32 :: q):nlen (s ++ t)=s.length:=by
 have h1:=(Name.isName_iff s).1 h
 have h2:=Name.nlen_stop (s ++ t) 0 s.length (by simp) (fun j hj=>by
  rw [Nat.zero_add]
  have h3:=Name.nrun_ok s 0 j (by have:nlen s=s.length:=h1.1; unfold nlen at this; omega)
  rw [Nat.zero_add] at h3
  have e:byteAt (s ++ t) j=byteAt s j:=by simp [byteAt,List.getElem?_append_left hj]
  rw [e]; exact h3) (by
  rcases ht with rfl | ⟨q,rfl⟩
  ·left; simp
  ·right
   rw [Nat.zero_add]
   have e:byteAt (s ++ 32 :: q) s.length=32:=by simp [byteAt]
   rw [e]
   exact Name.okB_no (by decide) (.inr (by decide)))
 simpa using h2
theorem name_ok {k:Nat} {s t:List UInt8} (h:isName s=true) (ht:t=[]∨(∃ q,t=32 :: q)∧k≠1):nameOk k (s ++ t)=true:=by
 have h1:=(Name.isName_iff s).1 h
 have h2:=nlen_cat h t (ht.imp_right (·.1))
 unfold nameOk
 rw [h2]
 have a1:(s.length == 0)=false:=by rw [beq_eq_false_iff_ne]; omega
 have a2:decide (255<s.length)=false:=decide_eq_false (by omega)
 rw [a1,a2]
 rcases ht with rfl | ⟨⟨q,rfl⟩,hk⟩
 ·simp
 ·have e:(s ++ 32 :: q).getD s.length 0=32:=by simp
  rw [e]
  simp [hk]
end Go.Proofs.YtgakcdcfblgagaaDoor.Sheet
