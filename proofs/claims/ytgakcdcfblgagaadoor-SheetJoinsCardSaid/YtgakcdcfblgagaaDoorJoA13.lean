/-
  What the theorem of the last text needs of these: ShSameP, ShJoin, ShRun, ShSmall. Conditions: as each theorem states.
-/
import Derived.Test.YtgakcdcfblgagaaDoorJoA1
import Derived.Test.YtgakcdcfblgagaaDoorJoA5
import Derived.Test.YtgakcdcfblgagaaDoorJoA12
set_option maxRecDepth 100000
set_option maxHeartbeats 25600000
namespace Go.Proofs.YtgakcdcfblgagaaDoor.Sheet
open Go.RowKit Num Ident Semver
open Range (Rng noRng RV KeepS LtB LenOk goodR wt)
open KR (KRow AtV)
open Model (PDep PRel PPack PPin MDep MVer MRel MPack MPin DepOk VerOk PinOk RelOk PackOk DRow SPRow RRow PRow map_at getD_mem mk_eq)

theorem pins_yes (A1 A2:Option Addr) (n c1 c2:Nat) (l1 l2:List MPin) (B:Nat) (w:World) (h1:SPRow w (LtB B) A1 n l1) (h2:SPRow w (LtB B) A2 n l2) (he:l1.map MPin.p=l2.map MPin.p) (_hB:B≤w.heap.size) (hn:n≤maxLen) :
  Calls Tryd.prog 8 #[.slice A1 n c1,.slice A2 n c2] w fun e w'=>e=.returned (.bool true)∧Below w.heap.size w w':=by
 have HO1:=Lib.hid h1
 have HO2:=Lib.hid h2
 have HL1:=Lib.hid h1.row.1
 have HL2:=Lib.hid h2.row.1
 have HE:=Lib.hid he
 unfold maxLen at hn
 clear h1 h2 he
 have hq:((n:Int) != (n:Int))=false:=by simp
 go_enter Tryd.func8,Tryd.ntmps8
 go_wp2
 go_loopw [5] (fun v W=>∃ k:Nat,k≤n∧v=.int .i64 k∧Hid (Below w.heap.size w W)) (fun v _=>n - (intOf v).toNat)
 case atStart=>exact ⟨0,Nat.zero_le _,rfl,Below.refl _ _⟩
 case round =>
  rename World=>wk
  obtain ⟨k,hk,rfl,HW⟩:=hrel
  by_cases hlt:k<n
  ·have hr1:=HO1.out.keep (KeepS.of_below (S:=LtB B) HW.out)
   have hr2:=HO2.out.keep (KeepS.of_below (S:=LtB B) HW.out)
   have HD1:Hid (PinOk wk (LtB B) (l1.getD k default)):=hr1.ok _ (Model.getD_mem (by rw [HL1.out]; exact hlt))
   have HD2:Hid (PinOk wk (LtB B) (l2.getD k default)):=hr2.ok _ (Model.getD_mem (by rw [HL2.out]; exact hlt))
   have heq:(l1.getD k default).p=(l2.getD k default).p:=by rw [← map_at MPin.p l1 (by rw [HL1.out]; exact hlt),← map_at MPin.p l2 (by rw [HL2.out]; exact hlt),HE.out]
   obtain ⟨b1,o1,rfl,_,hb1,c0,c1',c2',c3,c4,c5⟩:=hr1.cells hlt
   obtain ⟨b2,o2,rfl,_,hb2,e0,e1,e2,e3,e4,e5⟩:=hr2.cells hlt
   generalize l1.getD k default=d1 at c0 c1' c2' c3 c4 c5 HD1 heq
   generalize l2.getD k default=d2 at e0 e1 e2 e3 e4 e5 HD2 heq
   obtain ⟨nm,v,PA,pc,PB,pd⟩:=d1
   obtain ⟨nm2,v2,QA,qc,QB,qd⟩:=d2
   injection heq with g1 g2
   have g1:nm=nm2:=g1
   have g2:v=v2:=g2
   subst g1
   subst g2
   have HX:Hid (VerOk wk (LtB B) ⟨v,PA,pc,PB,pd⟩):=HD1.out.ver
   have HY:Hid (VerOk wk (LtB B) ⟨v,QA,qc,QB,qd⟩):=HD2.out.ver
   clear hr1 hr2 HD1 HD2
   simp only at c0 c1' c2' c3 c4 c5 e0 e1 e2 e3 e4 e5
   have hbe:((Ident.mk nm).toList == (Ident.mk nm).toList)=true:=mk_eq _
   have hkn:¬ n≤k:=by omega
   have H0:Hid (Below wk.heap.size wk wk.drew):=(Below.refl _ _).drew
   go_wp2
   refine wp_region_held_drew (S:=fun w'=>Below wk.heap.size wk w') (by kernel_rfl) H0.out (fun hHeld=>?_)
   generalize wk.drew=wd at H0 hHeld ⊢
   refine tk 0 rfl (.slice (some ⟨b1,o1,none⟩) n c1) ?_
   refine tk 1 rfl (.int .i64 k) ?_
   refine tk 2 rfl (.pointer (some ⟨b1,o1+k * 6,none⟩)) ?_
   refine tk 3 rfl (.pointer (some ⟨b1,o1+k * 6,none⟩)) ?_
   refine tk 4 rfl (.string (Ident.mk nm)) ?_ (hv:=fun w' hS'=>by (have z0:=(hS'.cell (p:=⟨b1,o1+k * 6,none⟩) hb1).trans c0); go_simp)
   refine tk 5 rfl (.slice (some ⟨b2,o2,none⟩) n c2) ?_
   refine tk 6 rfl (.int .i64 k) ?_
   refine tk 7 rfl (.pointer (some ⟨b2,o2+k * 6,none⟩)) ?_
   refine tk 8 rfl (.pointer (some ⟨b2,o2+k * 6,none⟩)) ?_
   refine tk 9 rfl (.string (Ident.mk nm)) ?_ (hv:=fun w' hS'=>by (have z0:=(hS'.cell (p:=⟨b2,o2+k * 6,none⟩) hb2).trans e0); go_simp)
   refine tk 10 rfl (.bool false) ?_
   refine tk 11 rfl (.bool false) ?_
   refine tk 12 rfl (.slice (some ⟨b1,o1,none⟩) n c1) ?_
   refine tk 13 rfl (.int .i64 k) ?_
   refine tk 14 rfl (.pointer (some ⟨b1,o1+k * 6,none⟩)) ?_
   refine tk 15 rfl (.pointer (some ⟨b1,o1+k * 6+1,none⟩)) ?_
   refine tk 16 rfl (.agg #[v.a,v.b,v.c,.slice PA v.pre.length pc,.slice PB v.build.length pd]) ?_ (hv:=fun w' hS'=>by (have z0:=(hS'.cell (p:=⟨b1,o1+k * 6+1,none⟩) hb1).trans c1'); (have z1:=(hS'.cell (p:=⟨b1,o1+k * 6+2,none⟩) hb1).trans c2'); (have z2:=(hS'.cell (p:=⟨b1,o1+k * 6+3,none⟩) hb1).trans c3); (have z3:=(hS'.cell (p:=⟨b1,o1+k * 6+4,none⟩) hb1).trans c4); (have z4:=(hS'.cell (p:=⟨b1,o1+k * 6+5,none⟩) hb1).trans c5); go_simp)
   refine tk 17 rfl (.slice (some ⟨b2,o2,none⟩) n c2) ?_
   refine tk 18 rfl (.int .i64 k) ?_
   refine tk 19 rfl (.pointer (some ⟨b2,o2+k * 6,none⟩)) ?_
   refine tk 20 rfl (.pointer (some ⟨b2,o2+k * 6+1,none⟩)) ?_
   refine tk 21 rfl (.agg #[v.a,v.b,v.c,.slice QA v.pre.length qc,.slice QB v.build.length qd]) ?_ (hv:=fun w' hS'=>by (have z0:=(hS'.cell (p:=⟨b2,o2+k * 6+1,none⟩) hb2).trans e1); (have z1:=(hS'.cell (p:=⟨b2,o2+k * 6+2,none⟩) hb2).trans e2); (have z2:=(hS'.cell (p:=⟨b2,o2+k * 6+3,none⟩) hb2).trans e3); (have z3:=(hS'.cell (p:=⟨b2,o2+k * 6+4,none⟩) hb2).trans e4); (have z4:=(hS'.cell (p:=⟨b2,o2+k * 6+5,none⟩) hb2).trans e5); go_simp)
   refine cl 22 rfl fun K hK=>?_
   go_simp
   refine (Semver.refSame_any v v PA PB QA QB pc pd qc qd _ (HX.out.keep (KeepS.of_below H0.out)).pre (HX.out.keep (KeepS.of_below H0.out)).build (HY.out.keep (KeepS.of_below H0.out)).pre (HY.out.keep (KeepS.of_below H0.out)).build HX.out.fit.pre HX.out.fit.build HX.out.fit.pre HX.out.fit.build).mono ?_
   rintro e W2 ⟨rfl,hb⟩
   rw [sameV_self]
   have H2:Hid (Below wk.heap.size wk W2):=H0.out.trans (hb.mono H0.out.size)
   refine hK.out _ _ H2.out (fun hHeld2=>?_)
   clear hK K hb
   try simp only [Act.put,p1,p2,p3]
   refine tk 23 rfl (.bool false) ?_
   refine tk 24 rfl (.bool false) ?_
   refine wpAnyH_done (by kernel_rfl) ?_ _
   have HW2:=Lib.hid (HW.out.trans (H2.out.mono HW.out.size))
   clear c0 c1' c2' c3 c4 c5 e0 e1 e2 e3 e4 e5 hHeld hHeld2
   go_wp2
   exact ⟨⟨k+1,by omega,by go_num,HW2.out⟩,by simp [intOf]; omega⟩
  ·obtain rfl:k=n:=by omega
   go_wp2
   go_ret
   exact ⟨rfl,HW.out⟩
end Go.Proofs.YtgakcdcfblgagaaDoor.Sheet
namespace Go.Proofs.YtgakcdcfblgagaaDoor.Sheet
open Go.RowKit Num Ident Semver
open Range (Rng noRng goodR textR)
open Model (PDep PPin)

def linesG {α:Type} (w:List UInt8) (mk:Line→α):List α→List (List UInt8)→Nat × List α
 | st,[]=>(0,st)
 | st,t :: ts=>if skipB t=true then linesG w mk st ts
  else if (readL t).w≠w then (13,[])
  else if (readL t).e≠0 then ((readL t).e,[])
  else linesG w mk (st ++ [mk (readL t)]) ts
def depOf (l:Line):PDep:=⟨l.name,l.r⟩
def pinOf (l:Line):PPin:=⟨l.name,l.v⟩
def rootsB (b:List UInt8):Nat × List PDep:=if 16777216<b.length then (4,[]) else linesG wRoot depOf [] (linesOf b)
def pinsB (b:List UInt8):Nat × List PPin:=if 16777216<b.length then (4,[]) else linesG wPin pinOf [] (linesOf b)
theorem lines_two:∀ (a b:List UInt8),linesOf (a ++ 10 :: b)=linesOf a ++ linesOf b∨linesOf (a ++ 10 :: b)=linesOf a ++ [] :: linesOf b
 | [],b=>.inr (by simp [linesOf])
 | c :: a,b=>by
  rw [List.cons_append,linesOf,linesOf]
  by_cases h:c=10
  ·rw [if_pos h,if_pos h]
   rcases lines_two a b with e | e
   ·left; rw [e]; rfl
   ·right; rw [e]; rfl
  ·rw [if_neg h,if_neg h]
   cases ha:linesOf a with
   | nil =>
    cases a with
    | nil=>left; simp [linesOf]
    | cons d a =>
     rw [linesOf] at ha
     split at ha
     ·cases ha
     ·split at ha <;> cases ha
   | cons l ls =>
    rcases lines_two a b with e | e
    ·left; rw [e,ha]; rfl
    ·right; rw [e,ha]; rfl
section
variable {α:Type} (w:List UInt8) (mk:Line→α)
theorem linesG_st:∀ (ls:List (List UInt8)) (st:List α),linesG w mk st ls=((linesG w mk [] ls).1,if (linesG w mk [] ls).1=0 then st ++ (linesG w mk [] ls).2 else [])
 | [],st=>by simp [linesG]
 | t :: ts,st=>by
  rw [linesG,linesG]
  by_cases h1:skipB t=true
  ·rw [if_pos h1,if_pos h1]; exact linesG_st ts st
  ·rw [if_neg h1,if_neg h1]
   by_cases h2:(readL t).w≠w
   ·rw [if_pos h2,if_pos h2]; rfl
   ·rw [if_neg h2,if_neg h2]
    by_cases h3:(readL t).e≠0
    ·rw [if_pos h3,if_pos h3]
     show ((readL t).e,[])=((readL t).e,if (readL t).e=0 then _ else [])
     rw [if_neg h3]
    ·rw [if_neg h3,if_neg h3,linesG_st ts (st ++ [mk (readL t)]),linesG_st ts ([] ++ [mk (readL t)])]
     by_cases h4:(linesG w mk [] ts).1=0
     ·simp [h4]
     ·simp [h4]
theorem linesG_append:∀ (xs ys:List (List UInt8)) (st:List α),linesG w mk st (xs ++ ys)=if (linesG w mk st xs).1=0 then linesG w mk (linesG w mk st xs).2 ys else linesG w mk st xs
 | [],ys,st=>by simp [linesG]
 | t :: ts,ys,st=>by
  rw [List.cons_append,linesG,linesG]
  by_cases h1:skipB t=true
  ·rw [if_pos h1,if_pos h1]; exact linesG_append ts ys st
  ·rw [if_neg h1,if_neg h1]
   by_cases h2:(readL t).w≠w
   ·rw [if_pos h2,if_pos h2]; rfl
   ·rw [if_neg h2,if_neg h2]
    by_cases h3:(readL t).e≠0
    ·rw [if_pos h3,if_pos h3]
     show ((readL t).e,[])=if (readL t).e=0 then _ else _
     rw [if_neg h3]
    ·rw [if_neg h3,if_neg h3]; exact linesG_append ts ys _
theorem linesG_skip (ys:List (List UInt8)) (st:List α):linesG w mk st ([] :: ys)=linesG w mk st ys:=by rw [linesG,if_pos (show skipB []=true from rfl)]
theorem linesG_two (a b:List UInt8):linesG w mk [] (linesOf (a ++ 10 :: b))=if (linesG w mk [] (linesOf a)).1=0 then linesG w mk (linesG w mk [] (linesOf a)).2 (linesOf b) else linesG w mk [] (linesOf a):=by
 rcases lines_two a b with e | e
 ·rw [e,linesG_append]
 ·rw [e,linesG_append,linesG_skip]
theorem linesG_both (a b:List UInt8):((linesG w mk [] (linesOf (a ++ 10 :: b))).1=0↔(linesG w mk [] (linesOf a)).1=0∧(linesG w mk [] (linesOf b)).1=0)∧((linesG w mk [] (linesOf (a ++ 10 :: b))).1=0→(linesG w mk [] (linesOf (a ++ 10 :: b))).2=(linesG w mk [] (linesOf a)).2 ++ (linesG w mk [] (linesOf b)).2):=by
 rw [linesG_two]
 by_cases h:(linesG w mk [] (linesOf a)).1=0
 ·rw [if_pos h,linesG_st w mk (linesOf b) (linesG w mk [] (linesOf a)).2]
  refine ⟨⟨fun q=>⟨h,q⟩,fun q=>q.2⟩,fun q=>?_⟩
  have q:(linesG w mk [] (linesOf b)).1=0:=q
  show (if (linesG w mk [] (linesOf b)).1=0 then _ else _)=_
  rw [if_pos q]
 ·rw [if_neg h]
  exact ⟨⟨fun q=>absurd q h,fun q=>absurd q.1 h⟩,fun q=>absurd q h⟩
end
end Go.Proofs.YtgakcdcfblgagaaDoor.Sheet
namespace Go.Proofs.YtgakcdcfblgagaaDoor.Sheet
open Go.RowKit Num Ident Semver
open Range (Rng noRng)
open Model (PDep PRel PPack PPin)

def lineOf (s:List UInt8):List UInt8:=s.takeWhile (· != 10)
theorem lineOf_le (s:List UInt8):(lineOf s).length≤s.length:=(List.takeWhile_prefix _).length_le
theorem lines_step:∀ (s:List UInt8),s≠[]→linesOf s=lineOf s :: linesOf (s.drop ((lineOf s).length+1))
 | [],h=>absurd rfl h
 | c :: s,_=>by
  rw [linesOf]
  by_cases hc:c=10
  ·subst hc
   rw [if_pos rfl]
   have e:lineOf (10 :: s)=[]:=by simp [lineOf]
   rw [e]; rfl
  ·rw [if_neg hc]
   have hl:lineOf (c :: s)=c :: lineOf s:=by
    show (c :: s).takeWhile _=_
    rw [List.takeWhile_cons,if_pos (by rw [bne_iff_ne]; exact hc)]; rfl
   rw [hl]
   cases s with
   | nil=>simp [linesOf,lineOf]
   | cons d s =>
    rw [lines_step (d :: s) (by simp)]
    rfl
section
variable {σ:Type} (step:σ→List UInt8→Nat × σ)
def runL:σ→List (List UInt8)→Nat × σ
 | st,[]=>(0,st)
 | st,t :: ts=>if skipB t=true then runL st ts else if (step st t).1≠0 then ((step st t).1,st) else runL (step st t).2 ts
def runT (st:σ) (s:List UInt8):Nat × σ:=runL step st (linesOf s)
theorem runT_nil (st:σ):runT step st []=(0,st):=rfl
theorem runT_step (st:σ) {s:List UInt8} (h:s≠[]):runT step st s=if skipB (lineOf s)=true then runT step st (s.drop ((lineOf s).length+1)) else if (step st (lineOf s)).1≠0 then ((step st (lineOf s)).1,st) else runT step (step st (lineOf s)).2 (s.drop ((lineOf s).length+1)):=by
 unfold runT
 rw [lines_step s h,runL]
end
def stepX (st:List PPack) (t:List UInt8):Nat × List PPack:=(if badX st (readL t).w=true then 13 else (readL t).e,addX st (readL t))
theorem linesX_run:∀ (ls:List (List UInt8)) (st:List PPack),linesX st ls=((runL stepX st ls).1,if (runL stepX st ls).1=0 then (runL stepX st ls).2 else [])
 | [],st=>by simp [linesX,runL]
 | t :: ts,st=>by
  rw [linesX,runL]
  by_cases h1:skipB t=true
  ·rw [if_pos h1,if_pos h1]; exact linesX_run ts st
  ·rw [if_neg h1,if_neg h1]
   by_cases h2:badX st (readL t).w=true
   ·have e:(stepX st t).1=13:=if_pos h2
    rw [if_pos h2,e]; simp
   ·have e:(stepX st t).1=(readL t).e:=if_neg h2
    rw [if_neg h2,e]
    by_cases h3:(readL t).e≠0
    ·rw [if_pos h3,if_pos h3]
     show _=(_,if (readL t).e=0 then _ else _)
     rw [if_neg h3]
    ·rw [if_neg h3,if_neg h3]; exact linesX_run ts _
def stepG {α:Type} (w:List UInt8) (mk:Line→α) (st:List α) (t:List UInt8):Nat × List α:=(if (readL t).w≠w then 13 else (readL t).e,st ++ [mk (readL t)])
theorem linesG_run {α:Type} (w:List UInt8) (mk:Line→α):∀ (ls:List (List UInt8)) (st:List α),(linesG w mk st ls).1=(runL (stepG w mk) st ls).1∧((runL (stepG w mk) st ls).1=0→(linesG w mk st ls).2=(runL (stepG w mk) st ls).2)
 | [],st=>⟨rfl,fun _=>rfl⟩
 | t :: ts,st=>by
  rw [linesG,runL]
  by_cases h1:skipB t=true
  ·rw [if_pos h1,if_pos h1]; exact linesG_run w mk ts st
  ·rw [if_neg h1,if_neg h1]
   by_cases h2:(readL t).w≠w
   ·have e:(stepG w mk st t).1=13:=if_pos h2
    rw [if_pos h2,e,if_pos (by decide)]
    exact ⟨rfl,fun h=>absurd (show (13:Nat)=0 from h) (by decide)⟩
   ·have e:(stepG w mk st t).1=(readL t).e:=if_neg h2
    rw [if_neg h2,e]
    by_cases h3:(readL t).e≠0
    ·rw [if_pos h3,if_pos h3]
     exact ⟨rfl,fun h=>absurd h h3⟩
    ·rw [if_neg h3,if_neg h3]; exact linesG_run w mk ts _
theorem linesG_none {α:Type} (w:List UInt8) (mk:Line→α):∀ (ls:List (List UInt8)) (st:List α),(linesG w mk st ls).1≠0→(linesG w mk st ls).2=[]
 | [],st,h=>absurd rfl h
 | t :: ts,st,h=>by
  rw [linesG] at h ⊢
  by_cases h1:skipB t=true
  ·rw [if_pos h1] at h ⊢; exact linesG_none w mk ts st h
  ·rw [if_neg h1] at h ⊢
   by_cases h2:(readL t).w≠w
   ·rw [if_pos h2]
   ·rw [if_neg h2] at h ⊢
    by_cases h3:(readL t).e≠0
    ·rw [if_pos h3]
    ·rw [if_neg h3] at h ⊢; exact linesG_none w mk ts _ h
theorem index_run {b:List UInt8} (h:b.length≤16777216):indexF b=((runT stepX [] b).1,if (runT stepX [] b).1=0 then (runT stepX [] b).2 else []):=by
 unfold indexF
 rw [if_neg (by omega)]
 exact linesX_run _ _
end Go.Proofs.YtgakcdcfblgagaaDoor.Sheet
namespace Go.Proofs.YtgakcdcfblgagaaDoor.Sheet
open Go.RowKit Num Ident Semver
open Model (PDep PRel PPack PPin)

structure SmallX (k:Nat) (st:List PPack):Prop where
 len:st.length≤k
 rels:∀ p ∈ st,p.rels.length≤k
 needs:∀ p ∈ st,∀ r ∈ p.rels,r.needs.length≤k
 bans:∀ p ∈ st,∀ r ∈ p.rels,r.bans.length≤k
theorem SmallX.none_ (k:Nat):SmallX k []:=⟨Nat.zero_le _,(fun p h=>by cases h),(fun p h=>by cases h),fun p h=>by cases h⟩
theorem SmallX.more {k k':Nat} {st:List PPack} (h:SmallX k st) (hk:k≤k'):SmallX k' st :=
 ⟨Nat.le_trans h.len hk,fun p hp=>Nat.le_trans (h.rels p hp) hk,fun p hp r hr=>Nat.le_trans (h.needs p hp r hr) hk,fun p hp r hr=>Nat.le_trans (h.bans p hp r hr) hk⟩
theorem onLast_len {α:Type} [Inhabited α] (f:α→α) (l:List α):(onLast f l).length≤l.length+1:=by
 unfold onLast
 rw [List.length_append,List.length_dropLast]
 simp only [List.length_cons,List.length_nil]
 omega
theorem mem_onLast {α:Type} [Inhabited α] {f:α→α} {l:List α} {a:α} (h:a ∈ onLast f l):a ∈ l∨a=f (l.getLastD default):=by
 unfold onLast at h
 rcases List.mem_append.1 h with h | h
 ·exact .inl ((List.dropLast_sublist l).subset h)
 ·exact .inr (List.mem_singleton.1 h)
theorem lastD_mem {α:Type} [Inhabited α] (l:List α):l.getLastD default ∈ l∨l.getLastD default=default:=by
 cases l with
 | nil=>exact .inr rfl
 | cons x l =>
  left
  rw [List.getLastD_eq_getLast?,List.getLast?_eq_some_getLast (by simp)]
  exact List.getLast_mem _
theorem SmallX.last {k:Nat} {st:List PPack} (h:SmallX k st) (f:PPack→PPack) (hf:∀ p,p.rels.length≤k→(∀ r ∈ p.rels,r.needs.length≤k∧r.bans.length≤k)→(f p).rels.length≤k+1∧∀ r ∈ (f p).rels,r.needs.length≤k+1∧r.bans.length≤k+1):SmallX (k+1) (onLast f st):=by
 have hlast:=hf (st.getLastD default) (by
  rcases lastD_mem st with q | q
  ·exact h.rels _ q
  ·rw [q]; exact Nat.zero_le _) (fun r hr=>by
  rcases lastD_mem st with q | q
  ·exact ⟨h.needs _ q r hr,h.bans _ q r hr⟩
  ·rw [q] at hr; cases hr)
 have all:∀ p ∈ onLast f st,p.rels.length≤k+1∧∀ r ∈ p.rels,r.needs.length≤k+1∧r.bans.length≤k+1:=fun p hp=>by
  rcases mem_onLast hp with hp | rfl
  ·exact ⟨Nat.le_succ_of_le (h.rels p hp),fun r hr=>⟨Nat.le_succ_of_le (h.needs p hp r hr),Nat.le_succ_of_le (h.bans p hp r hr)⟩⟩
  ·exact hlast
 exact ⟨Nat.le_trans (onLast_len f st) (Nat.succ_le_succ h.len),fun p hp=>(all p hp).1,fun p hp r hr=>((all p hp).2 r hr).1,fun p hp r hr=>((all p hp).2 r hr).2⟩
theorem small_rel {k:Nat} (f:PRel→PRel) (hf:∀ r,r.needs.length≤k→r.bans.length≤k→(f r).needs.length≤k+1∧(f r).bans.length≤k+1) (p:PPack) (hp:p.rels.length≤k) (hr:∀ r ∈ p.rels,r.needs.length≤k∧r.bans.length≤k):(onRel f p).rels.length≤k+1∧∀ r ∈ (onRel f p).rels,r.needs.length≤k+1∧r.bans.length≤k+1:=by
 refine ⟨Nat.le_trans (onLast_len f p.rels) (Nat.succ_le_succ hp),fun r h=>?_⟩
 rcases mem_onLast (show r ∈ onLast f p.rels from h) with h | rfl
 ·exact ⟨Nat.le_succ_of_le (hr r h).1,Nat.le_succ_of_le (hr r h).2⟩
 ·rcases lastD_mem p.rels with q | q
  ·exact hf _ (hr _ q).1 (hr _ q).2
  ·rw [q]; exact hf _ (Nat.zero_le _) (Nat.zero_le _)
theorem small_add {k:Nat} {st:List PPack} (h:SmallX k st) (l:Line):SmallX (k+1) (addX st l):=by
 unfold addX
 split
 ·have h':=h.more (Nat.le_succ k)
  refine ⟨by rw [List.length_append]; exact Nat.succ_le_succ h.len,fun p hp=>?_,fun p hp r hr=>?_,fun p hp r hr=>?_⟩
  all_goals
   rcases List.mem_append.1 hp with hp | hp
  ·exact h'.rels p hp
  ·rw [List.mem_singleton.1 hp]; exact Nat.zero_le _
  ·exact h'.needs p hp r hr
  ·rw [List.mem_singleton.1 hp] at hr; cases hr
  ·exact h'.bans p hp r hr
  ·rw [List.mem_singleton.1 hp] at hr; cases hr
 ·split
  ·refine h.last _ fun p hp hr=>⟨by show (p.rels ++ [_]).length≤k+1; rw [List.length_append]; exact Nat.succ_le_succ hp,fun r h=>?_⟩
   rcases List.mem_append.1 (show r ∈ p.rels ++ [_] from h) with h | h
   ·exact ⟨Nat.le_succ_of_le (hr r h).1,Nat.le_succ_of_le (hr r h).2⟩
   ·rw [List.mem_singleton.1 h]; exact ⟨Nat.zero_le _,Nat.zero_le _⟩
  ·split
   ·exact h.last _ fun p hp hr=>small_rel (addNeed ⟨l.name,l.r⟩) (fun r h1 h2=>⟨by show (r.needs ++ [_]).length≤_; rw [List.length_append]; exact Nat.succ_le_succ h1,Nat.le_succ_of_le h2⟩) p hp hr
   ·exact h.last _ fun p hp hr=>small_rel (addBan ⟨l.name,l.r⟩) (fun r h1 h2=>⟨Nat.le_succ_of_le h1,by show (r.bans ++ [_]).length≤_; rw [List.length_append]; exact Nat.succ_le_succ h2⟩) p hp hr
theorem last_snoc {α:Type} [Inhabited α] (l:List α) (a:α):(l ++ [a]).getLastD default=a:=by simp
theorem badX_pack {st:List PPack}:badX st wPackage=false:=by
 unfold badX
 simp only [show (wPackage == [])=false from by decide,show (wPackage == wRoot)=false from by decide,show (wPackage == wPin)=false from by decide,show (wPackage == wNeeds)=false from by decide,show (wPackage == wBans)=false from by decide,show (wPackage != wPackage)=false from by decide,Bool.false_and,Bool.or_false]
theorem badX_none {w:List UInt8} (hw:w≠wPackage):badX [] w=true:=by
 unfold badX
 simp [hw]
theorem badX_ver {ps:List PPack} {p:PPack} {w:List UInt8} (hw:w=wVersion∨w=wYanked):badX (ps ++ [p]) w=false:=by
 have he:(ps ++ [p]).isEmpty=false:=by simp
 unfold badX
 rcases hw with rfl | rfl
 ·simp only [he,show (wVersion == [])=false from by decide,show (wVersion == wRoot)=false from by decide,show (wVersion == wPin)=false from by decide,show (wVersion == wNeeds)=false from by decide,show (wVersion == wBans)=false from by decide,Bool.false_and,Bool.and_false,Bool.or_false]
 ·simp only [he,show (wYanked == [])=false from by decide,show (wYanked == wRoot)=false from by decide,show (wYanked == wPin)=false from by decide,show (wYanked == wNeeds)=false from by decide,show (wYanked == wBans)=false from by decide,Bool.false_and,Bool.and_false,Bool.or_false]
theorem badX_dep {ps:List PPack} {p:PPack} {w:List UInt8} (hw:w=wNeeds∨w=wBans):badX (ps ++ [p]) w=p.rels.isEmpty:=by
 have he:(ps ++ [p]).isEmpty=false:=by simp
 unfold badX
 rw [last_snoc]
 rcases hw with rfl | rfl
 ·simp only [he,show (wNeeds == [])=false from by decide,show (wNeeds == wRoot)=false from by decide,show (wNeeds == wPin)=false from by decide,show (wNeeds == wNeeds)=true from by decide,Bool.and_false,Bool.or_false,Bool.true_or,Bool.true_and,Bool.false_or]
 ·simp only [he,show (wBans == [])=false from by decide,show (wBans == wRoot)=false from by decide,show (wBans == wPin)=false from by decide,show (wBans == wNeeds)=false from by decide,show (wBans == wBans)=true from by decide,Bool.and_false,Bool.or_false,Bool.or_true,Bool.true_and,Bool.false_or]
end Go.Proofs.YtgakcdcfblgagaaDoor.Sheet
