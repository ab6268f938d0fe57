/-
  What the theorem of the last text needs of these: NmGath, SpRefBuild. Conditions: as each theorem states.
-/
import Derived.Test.YtgfbflnhjpbceaaGreatDoorSetB1
import Derived.Test.YtgfbflnhjpbceaaGreatDoorSetB29
import Derived.Test.YtgfbflnhjpbceaaGreatDoorSetB30
set_option maxRecDepth 100000
set_option maxHeartbeats 25600000
namespace Go.Proofs.YtgfbflnhjpbceaaGreatDoor.Nrm
open Go.RowKit Num Ident Semver Prec Span
open Range (Rng noRng goodR goodL fits RV RAt RgRow LtB wt wtL wtL_len wt_mem KeepS)
structure GaAt (w:World) (l:List Rng) (Q:Rng→Cut→Prop) (k:Nat) (v:Value) (m:Nat) (out:List RSp) (W:World):Prop where
 own:W.ownsRow w.heap.size 43 12 v m (out.flatMap RSp.vals)
 len:out.length=m
 lies:∀ s ∈ out,OwnsS W w.heap.size s
 few:m≤3 * wtL (l.take k)
 has:∀ c,inR (out.map RSp.sp) c↔∃ x ∈ l.take k,Q x c
 bel:Below w.heap.size w W
theorem wtL_take:∀ (l:List Rng) (k:Nat),wtL (l.take k)≤wtL l
 | [],k=>by simp
 | x :: l,0=>by simp [wtL]
 | x :: l,k+1=>by rw [List.take_succ_cons,Range.wtL_cons,Range.wtL_cons]; have:=wtL_take l k; omega
theorem take_next {α:Type} [Inhabited α] (l:List α) (d:α) (k:Nat) (h:k<l.length):l.take (k+1)=l.take k ++ [l.getD k d]:=by
 rw [List.take_add_one,List.getD_eq_getElem?_getD,List.getElem?_eq_getElem h]; rfl
theorem GaAt.start (w:World) (l:List Rng) (Q:Rng→Cut→Prop):GaAt w l Q 0 (.slice none 0 0) 0 [] w :=
 ⟨World.ownsRow_nil _ _ _ _,rfl,(fun s hs=>by cases hs),Nat.zero_le _,fun c=>⟨fun h=>absurd h (inR_nil c),fun ⟨x,hx,_⟩=>by simp at hx⟩,Below.refl _ _⟩
theorem GaAt.kept {w:World} {l:List Rng} {Q:Rng→Cut→Prop} {k:Nat} {v:Value} {m:Nat} {out:List RSp} {W W':World} (h:GaAt w l Q k v m out W) (hb:Below W.heap.size W W'):GaAt w l Q k v m out W' :=
 ⟨own_below h.own hb,h.len,fun s hs=>(h.lies s hs).kept hb,h.few,h.has,h.bel.trans (hb.mono h.bel.size)⟩
theorem GaAt.more {w:World} {l:List Rng} {Q:Rng→Cut→Prop} {k:Nat} {v:Value} {m:Nat} {out:List RSp} {W:World} (h:GaAt w l Q k v m out W) (hk:k<l.length) {A2:Option Addr} {m2:Nat} {o2:List RSp} (h2:SpRow W A2 m2 o2) (h2o:∀ s ∈ o2,OwnsS W w.heap.size s)
  (hN:Span.Norm (o2.map RSp.sp)) (hQ:∀ c,inS (o2.map RSp.sp) c↔Q (l.getD k noRng) c) (hm2:m2≤3 * wt (l.getD k noRng)) {v3:Value} {W3:World} (ho:W3.ownsRow w.heap.size 43 12 v3 (m+m2) ((out ++ o2).flatMap RSp.vals)) (hg:W.grownBy W3 v.ownBlock):GaAt w l Q (k+1) v3 (m+m2) (out ++ o2) W3:=by
 refine ⟨ho,by rw [List.length_append,h.len,h2.1],fun s hs=>?_,?_,fun c=>?_,h.bel.trans ((Below.refl _ _).grown hg h.bel.size fun k hk=>(h.own.lt k hk).1)⟩
 ·rcases List.mem_append.1 hs with hs | hs
  ·exact (h.lies s hs).grown h.own hg
  ·exact (h2o s hs).grown h.own hg
 ·rw [take_next l noRng k hk,wtL_append,Range.wtL_cons]
  have:=h.few
  show m+m2≤3 * (wtL (l.take k)+(wt (l.getD k noRng)+0))
  omega
 ·rw [List.map_append,inR_append,h.has c,hN.inR,hQ,take_next l noRng k hk]
  constructor
  ·rintro (⟨x,hx,hq⟩ | hq)
   ·exact ⟨x,List.mem_append_left _ hx,hq⟩
   ·exact ⟨_,List.mem_append_right _ (List.mem_singleton.2 rfl),hq⟩
  ·rintro ⟨x,hx,hq⟩
   rcases List.mem_append.1 hx with hx | hx
   ·exact .inl ⟨x,hx,hq⟩
   ·rw [List.mem_singleton] at hx; subst hx; exact .inr hq
theorem SpRow.news {w:World} {ad:Addr} {m:Nat} {r:List RSp} (h:SpRow w (some ad) m r):∀ j u,(r.flatMap RSp.vals)[j]?=some u→w.cell? (ad.add j)=some u:=by
 intro j u hu
 have hj:j<r.length * 12:=by rw [← flat_len RSp.vals 12 svals_len]; exact (List.getElem?_eq_some_iff.1 hu).1
 have hr:=h.1
 obtain ⟨b,o,e,_,hc⟩:=h.2.2 (by omega)
 injection e with e
 subst e
 rw [add_none]
 have h1:j=j / 12 * 12+j % 12:=by omega
 rw [h1,flat_get RSp.vals 12 svals_len r (j / 12) (j % 12) (by omega) (by omega)] at hu
 have:=hc (j / 12) (by omega) (j % 12) u hu
 rw [Nat.add_assoc,← h1] at this
 exact this
theorem wpList_append_set (w:World) {ops:Array Oper} {rest:List Oper} {o:Oper} {a:Act} {Q:Exit→Act→World→Prop} (hgd:o.guard=none) (s x:Operand)
  (ho:o.op=.call { callee:=.builtin .append,args:=#[s,x],argTypes:=#[31,31] })
  (base:Nat) (v:Value) (n:Nat) (l:List RSp) (hs:a.eval s=v) (hown:w.ownsRow base 43 12 v n (l.flatMap RSp.vals))
  (A:Option Addr) (m c:Nat) (r:List RSp) (hx:a.eval x=.slice A m c) (hr:SpRow w A m r) (hnil:A=none→c=0) (hb:(n+m) * 160≤140737488355328) (hbase:base≤w.heap.size)
  (h:∀ v' w',w'.ownsRow base 43 12 v' (n+m) ((l ++ r).flatMap RSp.vals)→w.grownBy w' v.ownBlock→wpList Tryz.prog ops Q rest (a.put o.dst v') w'):wpList Tryz.prog ops Q (o :: rest) a w:=by
 cases A with
 | some ad =>
  obtain ⟨i,hi,hz,hsz,hby⟩:=info_parts spInfo
  refine wpList_append_own w hgd s x 31 ho base 43 i _ 12 160 Tryz.underlying31 hi hz hsz hby rfl (by omega) v n _ hs hown ad m c _ hx (by rw [flat_len _ 12 svals_len,hr.1]) (SpRow.news hr) (flat_one _ svals_one r) (by unfold maxLen; omega) hb hbase (fun v' w' h2 h3 _=>?_)
  exact h v' w' (by rw [List.flatMap_append]; exact h2) h3
 | none =>
  obtain rfl:=hnil rfl
  obtain rfl:m=0:=by
   rcases Nat.eq_zero_or_pos m with h0 | h0
   ·exact h0
   ·obtain ⟨_,_,e,_⟩:=hr.2.2 h0; cases e
  obtain rfl:r=[]:=List.eq_nil_of_length_eq_zero hr.1
  obtain ⟨i,hi,_⟩:=info_parts spInfo
  have hrun:=run_append_owned_none (P:=Tryz.prog) (w:=w) base 31 o.type 43 i 12 Tryz.underlying31 hi v n _ hown
  refine wpList_plain hgd fun K hK=>?_
  unfold Oper.wp execOp
  simp only [ho,resolve,invoke,builtin,Sem.run_bind,Sem.run_pure,Result.andThen_ok,List.map_toArray,List.map_cons,List.map_nil,hs,hx,hrun]
  exact hK _ _ (h v w (by simpa using hown) (World.grownBy.refl w _))
def GathPost (w:World) (l:List Rng) (Q:Rng→Cut→Prop) (e:Ending) (w':World):Prop :=
 ∃ (A:Option Addr) (n c:Nat) (out:List RSp),e=.returned (.slice A n c)∧SpRow w' A n out∧n≤3 * wtL l∧(∀ c,inR (out.map RSp.sp) c↔∃ x ∈ l,Q x c)∧Below w.heap.size w w'
theorem GaAt.post {w:World} {l:List Rng} {Q:Rng→Cut→Prop} {k:Nat} {v:Value} {m:Nat} {out:List RSp} {W:World} (h:GaAt w l Q k v m out W) (hk:l.length≤k):∃ A c,v=.slice A m c∧GathPost w l Q (.returned (.slice A m c)) W:=by
 obtain ⟨A,c,e,_,_,hcell⟩:=own_cells svals_len h.own h.len
 have h1:=h.few
 have h2:=h.has
 rw [List.take_of_length_le hk] at h1 h2
 refine ⟨A,c,e,A,m,c,out,rfl,⟨h.len,fun s hs=>(h.lies s hs).lies,fun h0=>?_⟩,h1,h2,h.bel⟩
 obtain ⟨g,e1,_,e2,_,e3⟩:=hcell h0
 exact ⟨g,0,e1,e2,e3⟩

def GaJS (w:World) (A:Option Addr) (n c:Nat) (l:List Rng) (a':Act) (W:World):Prop :=
 ∃ (k m:Nat) (v:Value) (out:List RSp) (u7 u8 u9 u10 u11 u12 u13 u14 u15 u16 u17 u18 u19 u20 u21:Value),k≤n∧GaAt w l (fun x c=>inC x c) k v m out W ∧
  a'={ tmps:=#[.slice A n c,.func (.func 28) #[] #[],undef,undef,.slice none 0 0,v,.int .i64 k,u7,u8,u9,u10,u11,u12,u13,u14,u15,u16,u17,u18,u19,u20,u21],defers:=[] }
def GaMS (n:Nat) (a':Act) (_:World):Nat:=n - (intOf (a'.tmps.getD 6 undef)).toNat
theorem gatheredS (A:Option Addr) (n c B:Nat) (l:List Rng) (w:World) (hl:RgRow w (LtB B) A n l) (hB:B≤w.heap.size) (hw:wtL l≤1500)
  (hF:∀ r,r ∈ l→∀ (x:RV) (W:World),Range.Lies W (LtB B) r x→B≤W.heap.size→Calls Tryz.prog 28 #[x.agg] W (SetIn W (3 * wt r) (SetOf r))) :
  Calls Tryz.prog 59 #[.slice A n c,.func (.func 28) #[] #[]] w (GathPost w l (fun x c=>inC x c)):=by
 have HL:=Lib.hid hl
 have HF:=Lib.hid hF
 have hln:l.length=n:=by obtain ⟨f,h1,_⟩:=hl; exact h1
 have hnw:n≤1500:=by have:=wtL_len l; omega
 clear hl hF
 go_enter Tryz.func59,Tryz.ntmps59
 go_wp2
 refine wp_scope_back 0 (GaJS w A n c l) (GaMS n) rfl ?_ ?_
 ·rintro a' W ⟨k,m,v,out,u7,u8,u9,u10,u11,u12,u13,u14,u15,u16,u17,u18,u19,u20,u21,hk,hat,rfl⟩
  have HA:=Lib.hid hat
  clear hat
  by_cases hlt:k<n
  ·obtain ⟨b,o,x,hLe,hSb,hcl,hx⟩:=(HL.out.keep (KeepS.of_below (S:=LtB B) (HA.out.bel.mono (Nat.le_refl _)))).one hlt
   have hne:¬ k=n:=by omega
   have hll:k<l.length:=by omega
   have hmem:l.getD k noRng ∈ l:=by
    rw [List.getD_eq_getElem?_getD,List.getElem?_eq_getElem hll]; exact List.getElem_mem _
   have HX:=Lib.hid (HF.out _ hmem x W hx (Nat.le_trans hB HA.out.bel.size))
   have hwx:wt (l.getD k noRng)≤1500:=by have:=wt_mem hmem; omega
   obtain ⟨e0,e1,e2,e3,e4,e5,e6⟩:=hcl.cells
   rw [hLe]
   clear hcl hx
   go_wp2_with fail
   refine HX.out.mono ?_
   rintro e W2 ⟨A2,m2,c2,o2,rfl,q1,q2,q3,q4,q5,q6,hb⟩
   have HA2:=Lib.hid (HA.out.kept hb)
   have HQ:=Lib.hid q3
   have HS:=Lib.hid q1
   have HN:=Lib.hid q6
   have HO:Hid (∀ s ∈ o2,OwnsS W2 w.heap.size s):=fun s hs=>(q4 s hs).mono HA.out.bel.size
   have hq2:=q2
   have hm3:m≤4500:=by have h1:=HA.out.few; have h2:=wtL_take l k; omega
   have hm2:m2≤4500:=Nat.le_trans q2 (by omega)
   clear q1 q2 q3 q4 q5 q6 hb e0 e1 e2 e3 e4 e5 e6 HX HA
   have HM:=Lib.hid (fun v3 W3 ho hb3=>GaAt.more (v3:=v3) (W3:=W3) HA2.out hll HS.out HO.out HQ.out.1 HQ.out.2 hq2 ho hb3)
   go_wp2_with (first
    | (at_builtin; refine wpList_append_set _ rfl _ _ rfl w.heap.size _ m out rfl HA2.out.own A2 m2 c2 o2 rfl HS.out HN.out (by omega) HA2.out.bel.size ?_; intro v3 W3 ho hb3; have HG3:=Lib.hid (HM.out v3 W3 ho hb3); clear ho hb3)
    | fail)
   go_step3
   rw [show ((k:Int)+1)=((k+1:Nat):Int) from rfl]
   exact ⟨rfl,⟨k+1,m+m2,v3,out ++ o2,_,_,_,_,_,_,_,_,_,_,_,_,_,_,_,by omega,HG3.out,rfl⟩,by simp [GaMS,intOf]; omega⟩
  ·obtain rfl:k=n:=by omega
   obtain ⟨A9,c9,rfl,hp⟩:=HA.out.post (Nat.le_of_eq hln)
   have HP:=Lib.hid hp
   clear hp
   go_wp2
   simp only [Exit.jump]
   go_ret
   exact HP.out
 ·intro HP
  go_wp2
  go_step3
  rename_i hK
  exact hK _ _ (HP.out _ _ ⟨0,0,.slice none 0 0,[],_,_,_,_,_,_,_,_,_,_,_,_,_,_,_,by omega,GaAt.start _ _ _,rfl⟩)

def GaJO (w:World) (A:Option Addr) (n c:Nat) (l:List Rng) (a':Act) (W:World):Prop :=
 ∃ (k m:Nat) (v:Value) (out:List RSp) (u7 u8 u9 u10 u11 u12 u13 u14 u15 u16 u17 u18 u19 u20 u21:Value),k≤n∧GaAt w l (fun x c=>inOne ⟨low,high⟩ c∧¬ inC x c) k v m out W ∧
  a'={ tmps:=#[.slice A n c,.func (.func 60) #[] #[],undef,undef,.slice none 0 0,v,.int .i64 k,u7,u8,u9,u10,u11,u12,u13,u14,u15,u16,u17,u18,u19,u20,u21],defers:=[] }
def GaMO (n:Nat) (a':Act) (_:World):Nat:=n - (intOf (a'.tmps.getD 6 undef)).toNat
theorem gatheredO (A:Option Addr) (n c B:Nat) (l:List Rng) (w:World) (hl:RgRow w (LtB B) A n l) (hB:B≤w.heap.size) (hw:wtL l≤1500)
  (hF:∀ r,r ∈ l→∀ (x:RV) (W:World),Range.Lies W (LtB B) r x→B≤W.heap.size→Calls Tryz.prog 60 #[x.agg] W (SetIn W (3 * wt r) (RestOf r))) :
  Calls Tryz.prog 59 #[.slice A n c,.func (.func 60) #[] #[]] w (GathPost w l (fun x c=>inOne ⟨low,high⟩ c∧¬ inC x c)):=by
 have HL:=Lib.hid hl
 have HF:=Lib.hid hF
 have hln:l.length=n:=by obtain ⟨f,h1,_⟩:=hl; exact h1
 have hnw:n≤1500:=by have:=wtL_len l; omega
 clear hl hF
 go_enter Tryz.func59,Tryz.ntmps59
 go_wp2
 refine wp_scope_back 0 (GaJO w A n c l) (GaMO n) rfl ?_ ?_
 ·rintro a' W ⟨k,m,v,out,u7,u8,u9,u10,u11,u12,u13,u14,u15,u16,u17,u18,u19,u20,u21,hk,hat,rfl⟩
  have HA:=Lib.hid hat
  clear hat
  by_cases hlt:k<n
  ·obtain ⟨b,o,x,hLe,hSb,hcl,hx⟩:=(HL.out.keep (KeepS.of_below (S:=LtB B) (HA.out.bel.mono (Nat.le_refl _)))).one hlt
   have hne:¬ k=n:=by omega
   have hll:k<l.length:=by omega
   have hmem:l.getD k noRng ∈ l:=by
    rw [List.getD_eq_getElem?_getD,List.getElem?_eq_getElem hll]; exact List.getElem_mem _
   have HX:=Lib.hid (HF.out _ hmem x W hx (Nat.le_trans hB HA.out.bel.size))
   have hwx:wt (l.getD k noRng)≤1500:=by have:=wt_mem hmem; omega
   obtain ⟨e0,e1,e2,e3,e4,e5,e6⟩:=hcl.cells
   rw [hLe]
   clear hcl hx
   go_wp2_with fail
   refine HX.out.mono ?_
   rintro e W2 ⟨A2,m2,c2,o2,rfl,q1,q2,q3,q4,q5,q6,hb⟩
   have HA2:=Lib.hid (HA.out.kept hb)
   have HQ:=Lib.hid q3
   have HS:=Lib.hid q1
   have HN:=Lib.hid q6
   have HO:Hid (∀ s ∈ o2,OwnsS W2 w.heap.size s):=fun s hs=>(q4 s hs).mono HA.out.bel.size
   have hq2:=q2
   have hm3:m≤4500:=by have h1:=HA.out.few; have h2:=wtL_take l k; omega
   have hm2:m2≤4500:=Nat.le_trans q2 (by omega)
   clear q1 q2 q3 q4 q5 q6 hb e0 e1 e2 e3 e4 e5 e6 HX HA
   have HM:=Lib.hid (fun v3 W3 ho hb3=>GaAt.more (v3:=v3) (W3:=W3) HA2.out hll HS.out HO.out HQ.out.1 HQ.out.2 hq2 ho hb3)
   go_wp2_with (first
    | (at_builtin; refine wpList_append_set _ rfl _ _ rfl w.heap.size _ m out rfl HA2.out.own A2 m2 c2 o2 rfl HS.out HN.out (by omega) HA2.out.bel.size ?_; intro v3 W3 ho hb3; have HG3:=Lib.hid (HM.out v3 W3 ho hb3); clear ho hb3)
    | fail)
   go_step3
   rw [show ((k:Int)+1)=((k+1:Nat):Int) from rfl]
   exact ⟨rfl,⟨k+1,m+m2,v3,out ++ o2,_,_,_,_,_,_,_,_,_,_,_,_,_,_,_,by omega,HG3.out,rfl⟩,by simp [GaMO,intOf]; omega⟩
  ·obtain rfl:k=n:=by omega
   obtain ⟨A9,c9,rfl,hp⟩:=HA.out.post (Nat.le_of_eq hln)
   have HP:=Lib.hid hp
   clear hp
   go_wp2
   simp only [Exit.jump]
   go_ret
   exact HP.out
 ·intro HP
  go_wp2
  go_step3
  rename_i hK
  exact hK _ _ (HP.out _ _ ⟨0,0,.slice none 0 0,[],_,_,_,_,_,_,_,_,_,_,_,_,_,_,_,by omega,GaAt.start _ _ _,rfl⟩)
end Go.Proofs.YtgfbflnhjpbceaaGreatDoor.Nrm
namespace Go.Proofs.YtgfbflnhjpbceaaGreatDoor.Span
open Go.RowKit Num Ident Semver Prec

def BuildJ (w wc:World) (l r:List RSp) (how:Int) (L:List RCut) (v op i:Value) (W:World):Prop :=
 ∃ (k:Nat) (out:List RSp) (ob:Bool),k+1≤L.length∧i=.int .i64 k∧op=.bool ob∧W.ownsRow wc.heap.size 43 12 v out.length (out.flatMap RSp.vals)∧(∀ s ∈ out,LiesS w s)∧BInv (L.map RCut.cut) (pieceB (l.map RSp.sp) (r.map RSp.sp) how (L.map RCut.cut)) k ob (out.map RSp.sp)∧Below wc.heap.size wc W
def BuildFull (w:World) (l r:List RSp) (how:Int) (e:Ending) (w':World):Prop :=
 ∃ (P:Option Addr) (m c:Nat) (out:List RSp),e=.returned (.slice P m c)∧SpRow w' P m out∧m≤100000∧BuiltOf (l.map RSp.sp) (r.map RSp.sp) how (out.map RSp.sp)∧m≤c∧(P=none→c=0)∧(∀ s ∈ out,LiesS w s)∧Below w.heap.size w w'
theorem build_full (A:Option Addr) (n c0:Nat) (l:List RSp) (Bb:Option Addr) (p d0:Nat) (r:List RSp) (how:Int) (w:World) (ha:SpSrc w A n c0 l) (hb:SpSrc w Bb p d0 r) (hn:n≤1000) (hp:p≤1000) (hhow:how=0∨how=1∨how=2) :
  Calls Tryz.prog 33 #[.slice A n c0,.slice Bb p d0,.int .i64 how] w (BuildFull w l r how):=by
 have HRA:=Lib.hid ha.row
 have HRB:=Lib.hid hb.row
 have HS1:=Lib.hid ha
 have HS2:=Lib.hid hb
 have hla:l.length=n:=ha.row.1
 have hlb:r.length=p:=hb.row.1
 clear ha hb
 go_enter Tryz.func33,Tryz.ntmps33
 go_wp2_with fail
 refine (cuts_any A n c0 l Bb p d0 r _ HS1.out HS2.out hn hp).mono ?_
 rintro e wc ⟨g,o,cp,L,rfl,hsrc,hlies,hrise,hh1,hh2,hlen,hb0⟩
 have HL:=Lib.hid hrise
 have HSRC:=Lib.hid hsrc
 have HLI:=Lib.hid hlies
 have HH1:=Lib.hid hh1
 have HH2:=Lib.hid hh2
 have HB0:=Lib.hid hb0
 have hgw:g<wc.heap.size:=hsrc.1
 have hL2:1≤L.length:=by have:=List.length_pos_of_mem hrise.low; rw [List.length_map] at this; exact this
 have hL3:L.length≤5000:=by omega
 clear hsrc hlies hrise hh1 hh2 hb0 HS1 HS2 hlen
 go_wp2
 go_loopw [8,9,10] (fun v op i W=>BuildJ w wc l r how L v op i W) (fun _ _ i _=>L.length - (intOf i).toNat)
 case atStart=>exact ⟨0,[],false,by omega,rfl,rfl,World.ownsRow_nil _ _ _ _,(fun s hs=>by cases hs),BInv.start _ _,Below.refl _ _⟩
 case round =>
  obtain ⟨k,out,ob,hk,rfl,rfl,hown,hlo,hinv,hbel⟩:=hrel
  have HO:=Lib.hid hown
  have HLO:=Lib.hid hlo
  have HI:=Lib.hid hinv
  have HBel:=Lib.hid hbel
  have hol:out.length≤k:=by have:=hinv.len; rw [List.length_map] at this; exact this
  clear hown hlo hinv hbel
  by_cases hlt:k+1<L.length
  ·obtain ⟨k1,hk1n⟩:∃ k1,k+1=k1:=⟨_,rfl⟩
   have hk1:(k:Int)+1=(k1:Int):=by omega
   have hkl:k<L.length:=by omega
   have hkl1:k1<L.length:=by omega
   have HSR:=Lib.hid (HSRC.out.kept HBel.out)
   have hgl:g<wr.heap.size:=HSR.out.1
   have CX:=Lib.hid (HSR.out.at (m:=k) (by omega))
   have CY:=Lib.hid (HSR.out.at (m:=k1) (by omega))
   have LX0:Hid (Lies w (L.getD k default)):=HLI.out _ (getC_mem (by omega))
   have LY0:Hid (Lies w (L.getD k1 default)):=HLI.out _ (getC_mem (by omega))
   have EX:Hid (cutAt (L.map RCut.cut) k=(L.getD k default).cut):=cut_at_map L k
   have EY:Hid (cutAt (L.map RCut.cut) (k+1)=(L.getD k1 default).cut):=by unfold Hid; rw [hk1n]; exact cut_at_map L k1
   generalize L.getD k default=x at CX LX0 EX
   generalize L.getD k1 default=y at CY LY0 EY
   obtain ⟨x0,x1,x2,x3,x4,x5⟩:=CX.out
   obtain ⟨y0,y1,y2,y3,y4,y5⟩:=CY.out
   have BW:=Lib.hid (HB0.out.trans (HBel.out.mono HB0.out.size))
   have LX:=Lib.hid (LX0.out.kept BW.out)
   have LY:=Lib.hid (LY0.out.kept BW.out)
   have HBW:Hid (Below wr.heap.size wr wr):=Below.refl _ _
   have HX:Hid (coversB (l.map RSp.sp) (cutAt (L.map RCut.cut) k) (cutAt (L.map RCut.cut) (k+1))=coversB (l.map RSp.sp) x.cut y.cut):=by unfold Hid; rw [EX.out,EY.out]
   have HY:Hid (coversB (r.map RSp.sp) (cutAt (L.map RCut.cut) k) (cutAt (L.map RCut.cut) (k+1))=coversB (r.map RSp.sp) x.cut y.cut):=by unfold Hid; rw [EX.out,EY.out]
   go_upto_region 7 with (fail)
   replace HBW:=Lib.hid HBW.out.drew
   refine wp_region_held_drew (S:=fun w'=>Below wr.heap.size wr w') (by kernel_rfl) HBW.out (fun hHeld=>?_)
   refine tk 0 rfl (.slice A n c0) ?_
   refine tk 1 rfl (.slice (some ⟨g,o,none⟩) L.length cp) ?_
   refine tk 2 rfl (.int .i64 k) ?_
   refine tk 3 rfl (.pointer (some ⟨g,o+k * 6,none⟩)) ?_
   refine tk 4 rfl x ?_ fun w' hS'=>by have q0:=(hS'.cell (p:=⟨g,o+k * 6,none⟩) hgl).trans x0; have q1:=(hS'.cell (p:=⟨g,o+k * 6+1,none⟩) hgl).trans x1; have q2:=(hS'.cell (p:=⟨g,o+k * 6+2,none⟩) hgl).trans x2; have q3:=(hS'.cell (p:=⟨g,o+k * 6+3,none⟩) hgl).trans x3; have q4:=(hS'.cell (p:=⟨g,o+k * 6+4,none⟩) hgl).trans x4; have q5:=(hS'.cell (p:=⟨g,o+k * 6+5,none⟩) hgl).trans x5; go_simp
   refine tk 5 rfl (.slice (some ⟨g,o,none⟩) L.length cp) ?_
   refine tk 6 rfl (.int .i64 k) ?_
   refine tk 7 rfl (.int .i64 k1) ?_ fun w' hS'=>by rw [← hk1]; go_simp; first | done | (rw [IntKind.wrap_i64]; omega)
   refine tk 8 rfl (.pointer (some ⟨g,o+k1 * 6,none⟩)) ?_
   refine tk 9 rfl y ?_ fun w' hS'=>by have q0:=(hS'.cell (p:=⟨g,o+k1 * 6,none⟩) hgl).trans y0; have q1:=(hS'.cell (p:=⟨g,o+k1 * 6+1,none⟩) hgl).trans y1; have q2:=(hS'.cell (p:=⟨g,o+k1 * 6+2,none⟩) hgl).trans y2; have q3:=(hS'.cell (p:=⟨g,o+k1 * 6+3,none⟩) hgl).trans y3; have q4:=(hS'.cell (p:=⟨g,o+k1 * 6+4,none⟩) hgl).trans y4; have q5:=(hS'.cell (p:=⟨g,o+k1 * 6+5,none⟩) hgl).trans y5; go_simp
   refine cl 10 rfl fun K hK=>?_
   go_simp
   refine (covers_any _ _ _ l x y _ (HRA.out.kept (BW.out.trans (HBW.out.mono BW.out.size))) (by omega) (LX.out.kept HBW.out) (LY.out.kept HBW.out)).mono ?_
   rintro e wu1 ⟨rfl,hb⟩
   generalize coversB (l.map RSp.sp) x.cut y.cut=gx at HX ⊢
   replace HBW:=Lib.hid (HBW.out.trans (hb.mono HBW.out.size))
   clear hb hHeld
   refine hK.out _ _ HBW.out (fun hHeld=>?_)
   clear hK K
   try simp only [Act.put,p1,p2,p3]
   refine tk 11 rfl (.bool gx) ?_
   refine wpAnyH_done (by kernel_rfl) ?_ _
   go_upto_region 8 with (fail)
   replace HBW:=Lib.hid HBW.out.drew
   refine wp_region_held_drew (S:=fun w'=>Below wr.heap.size wr w') (by kernel_rfl) HBW.out (fun hHeld=>?_)
   refine tk 0 rfl (.slice Bb p d0) ?_
   refine tk 1 rfl (.slice (some ⟨g,o,none⟩) L.length cp) ?_
   refine tk 2 rfl (.int .i64 k) ?_
   refine tk 3 rfl (.pointer (some ⟨g,o+k * 6,none⟩)) ?_
   refine tk 4 rfl x ?_ fun w' hS'=>by have q0:=(hS'.cell (p:=⟨g,o+k * 6,none⟩) hgl).trans x0; have q1:=(hS'.cell (p:=⟨g,o+k * 6+1,none⟩) hgl).trans x1; have q2:=(hS'.cell (p:=⟨g,o+k * 6+2,none⟩) hgl).trans x2; have q3:=(hS'.cell (p:=⟨g,o+k * 6+3,none⟩) hgl).trans x3; have q4:=(hS'.cell (p:=⟨g,o+k * 6+4,none⟩) hgl).trans x4; have q5:=(hS'.cell (p:=⟨g,o+k * 6+5,none⟩) hgl).trans x5; go_simp
   refine tk 5 rfl (.slice (some ⟨g,o,none⟩) L.length cp) ?_
   refine tk 6 rfl (.int .i64 k) ?_
   refine tk 7 rfl (.int .i64 k1) ?_ fun w' hS'=>by rw [← hk1]; go_simp; first | done | (rw [IntKind.wrap_i64]; omega)
   refine tk 8 rfl (.pointer (some ⟨g,o+k1 * 6,none⟩)) ?_
   refine tk 9 rfl y ?_ fun w' hS'=>by have q0:=(hS'.cell (p:=⟨g,o+k1 * 6,none⟩) hgl).trans y0; have q1:=(hS'.cell (p:=⟨g,o+k1 * 6+1,none⟩) hgl).trans y1; have q2:=(hS'.cell (p:=⟨g,o+k1 * 6+2,none⟩) hgl).trans y2; have q3:=(hS'.cell (p:=⟨g,o+k1 * 6+3,none⟩) hgl).trans y3; have q4:=(hS'.cell (p:=⟨g,o+k1 * 6+4,none⟩) hgl).trans y4; have q5:=(hS'.cell (p:=⟨g,o+k1 * 6+5,none⟩) hgl).trans y5; go_simp
   refine cl 10 rfl fun K hK=>?_
   go_simp
   refine (covers_any _ _ _ r x y _ (HRB.out.kept (BW.out.trans (HBW.out.mono BW.out.size))) (by omega) (LX.out.kept HBW.out) (LY.out.kept HBW.out)).mono ?_
   rintro e wv1 ⟨rfl,hb⟩
   generalize coversB (r.map RSp.sp) x.cut y.cut=gy at HY ⊢
   replace HBW:=Lib.hid (HBW.out.trans (hb.mono HBW.out.size))
   clear hb hHeld
   refine hK.out _ _ HBW.out (fun hHeld=>?_)
   clear hK K
   try simp only [Act.put,p1,p2,p3]
   refine tk 11 rfl (.bool gy) ?_
   refine wpAnyH_done (by kernel_rfl) ?_ _
   have HO2:=Lib.hid (own_below HO.out HBW.out)
   have HBC:=Lib.hid (HBel.out.trans (HBW.out.mono HBel.out.size))
   have CX2:=Lib.hid (show _ from cells_kept CX.out hgl HBW.out)
   have CY2:=Lib.hid (show _ from cells_kept CY.out hgl HBW.out)
   clear x0 x1 x2 x3 x4 x5 y0 y1 y2 y3 y4 y5 HO CX CY LX LY
   go_upto_region 9 with (fail)
   generalize wv1=wv at HBW HO2 HBC CX2 CY2 ⊢
   rcases hhow with rfl | rfl | rfl
   ·cases gx <;> cases gy
    ·have HFk:Hid (pieceB (l.map RSp.sp) (r.map RSp.sp) 0 (L.map RCut.cut) k=false):=by unfold Hid pieceB; rw [HX.out,HY.out]; rfl
     have HI2:=Lib.hid (HI.out.no HL.out (by rw [List.length_map]; omega) HFk.out)
     clear HX HY HFk
     cases ob
     all_goals
      go_wp2
      exact ⟨⟨k+1,out,false,by omega,by go_num,rfl,HO2.out,HLO.out,HI2.out,HBC.out⟩,by simp [intOf]; omega⟩
    ·have HFk:Hid (pieceB (l.map RSp.sp) (r.map RSp.sp) 0 (L.map RCut.cut) k=true):=by unfold Hid pieceB; rw [HX.out,HY.out]; rfl
     cases ob
     ·have HI2:Hid (BInv (L.map RCut.cut) (pieceB (l.map RSp.sp) (r.map RSp.sp) 0 (L.map RCut.cut)) (k+1) true ((out ++ [(⟨x,y⟩:RSp)]).map RSp.sp)):=by
       have q:=HI.out.new HL.out (by rw [List.length_map]; omega) HFk.out
       rw [EX.out,EY.out] at q
       rw [List.map_append]; exact q
      clear HX HY HFk
      go_upto_region 15 with (fail)
      refine new15 _ g o cp k k1 wc.heap.size L x y _ out _ _ _ _ _ _ _ _ _ _ _ _ _ _ _ _ _ _ _ _ _ _ _ _ _ _ _ _ _ _ _ _ _ _ _ _ _ _ _ _ _ _ _ _ _ _ _ _ _ _ _ _ _ _ _ _ _ _ _ _ _ _ _ _ _ _ _ _ _ _ _ _ _ _ _ _ _ _ _ _ _ _ _ _ _ _ _ _ _ _ _ _ hk1 (by omega) (by omega) (by omega) hgw HBC.out.size CX2.out CY2.out HO2.out (fun _ _ _ _ _ h=>h) ?_
      intro v8 w8 t0 t1 t2 t3 t4 t5 t6 t7 t8 t9 t10 t11 t12 ho8 hb8
      have O8:=Lib.hid ho8
      have B8:=Lib.hid (HBC.out.trans hb8)
      clear ho8 hb8
      go_wp2
      refine ⟨⟨k+1,out ++ [⟨x,y⟩],true,by omega,by go_num,rfl,?_,?_,HI2.out,B8.out⟩,by simp [intOf]; omega⟩
      ·rw [List.length_append]; exact O8.out
      ·intro s hs
       rcases List.mem_append.1 hs with hs | hs
       ·exact HLO.out s hs
       ·rw [List.mem_singleton] at hs; subst hs; exact ⟨LX0.out,LY0.out⟩
     ·obtain ⟨pre,s,hps,hsh⟩:=snoc_of (HI.out.opened rfl)
      subst hps
      have HI2:Hid (BInv (L.map RCut.cut) (pieceB (l.map RSp.sp) (r.map RSp.sp) 0 (L.map RCut.cut)) (k+1) true ((pre ++ [(⟨s.lo,y⟩:RSp)]).map RSp.sp)):=by
       have h0:=HI.out
       rw [List.map_append] at h0
       have q:=h0.on hsh HL.out (by rw [List.length_map]; omega) HFk.out
       rw [EY.out] at q
       rw [List.map_append]; exact q
      obtain ⟨gs,cs,rfl,hgs,hcs,hcm,hgB⟩:=own_last HO2.out
      have hpl:(pre ++ [s]).length=pre.length+1:=by simp
      rw [hpl] at HO2 ⊢
      have OS:=Lib.hid (own_hi y HO2.out)
      have BS:=Lib.hid (below_setAt HBC.out hgB (pre.length * 12+6) y.kind y.v.a y.v.b y.v.c (.slice y.A y.v.pre.length y.c) (.slice y.B y.v.build.length y.d))
      obtain ⟨hfz,s0,s1,s2,s3,s4,s5⟩:=own_hi_cells HO2.out
      obtain ⟨y0,y1,y2,y3,y4,y5⟩:=CY2.out
      have hLO2:Hid (∀ z ∈ pre ++ [(⟨s.lo,y⟩:RSp)],LiesS w z):=fun z hz=>by
       rcases List.mem_append.1 hz with hz | hz
       ·exact HLO.out z (List.mem_append_left _ hz)
       ·rw [List.mem_singleton] at hz; subst hz; exact ⟨(HLO.out s (by simp)).lo,LY0.out⟩
      have hne:g≠gs:=by omega
      unfold maxLen at hcm
      clear HX HY HFk hsh
      go_wp2
      refine ⟨⟨k+1,pre ++ [⟨s.lo,y⟩],true,by omega,by go_num,rfl,?_,hLO2.out,HI2.out,BS.out⟩,by simp [intOf]; omega⟩
      rw [show (pre ++ [(⟨s.lo,y⟩:RSp)]).length=pre.length+1 by simp]; exact OS.out
    ·have HFk:Hid (pieceB (l.map RSp.sp) (r.map RSp.sp) 0 (L.map RCut.cut) k=true):=by unfold Hid pieceB; rw [HX.out,HY.out]; rfl
     cases ob
     ·have HI2:Hid (BInv (L.map RCut.cut) (pieceB (l.map RSp.sp) (r.map RSp.sp) 0 (L.map RCut.cut)) (k+1) true ((out ++ [(⟨x,y⟩:RSp)]).map RSp.sp)):=by
       have q:=HI.out.new HL.out (by rw [List.length_map]; omega) HFk.out
       rw [EX.out,EY.out] at q
       rw [List.map_append]; exact q
      clear HX HY HFk
      go_upto_region 15 with (fail)
      refine new15 _ g o cp k k1 wc.heap.size L x y _ out _ _ _ _ _ _ _ _ _ _ _ _ _ _ _ _ _ _ _ _ _ _ _ _ _ _ _ _ _ _ _ _ _ _ _ _ _ _ _ _ _ _ _ _ _ _ _ _ _ _ _ _ _ _ _ _ _ _ _ _ _ _ _ _ _ _ _ _ _ _ _ _ _ _ _ _ _ _ _ _ _ _ _ _ _ _ _ _ _ _ _ _ hk1 (by omega) (by omega) (by omega) hgw HBC.out.size CX2.out CY2.out HO2.out (fun _ _ _ _ _ h=>h) ?_
      intro v8 w8 t0 t1 t2 t3 t4 t5 t6 t7 t8 t9 t10 t11 t12 ho8 hb8
      have O8:=Lib.hid ho8
      have B8:=Lib.hid (HBC.out.trans hb8)
      clear ho8 hb8
      go_wp2
      refine ⟨⟨k+1,out ++ [⟨x,y⟩],true,by omega,by go_num,rfl,?_,?_,HI2.out,B8.out⟩,by simp [intOf]; omega⟩
      ·rw [List.length_append]; exact O8.out
      ·intro s hs
       rcases List.mem_append.1 hs with hs | hs
       ·exact HLO.out s hs
       ·rw [List.mem_singleton] at hs; subst hs; exact ⟨LX0.out,LY0.out⟩
     ·obtain ⟨pre,s,hps,hsh⟩:=snoc_of (HI.out.opened rfl)
      subst hps
      have HI2:Hid (BInv (L.map RCut.cut) (pieceB (l.map RSp.sp) (r.map RSp.sp) 0 (L.map RCut.cut)) (k+1) true ((pre ++ [(⟨s.lo,y⟩:RSp)]).map RSp.sp)):=by
       have h0:=HI.out
       rw [List.map_append] at h0
       have q:=h0.on hsh HL.out (by rw [List.length_map]; omega) HFk.out
       rw [EY.out] at q
       rw [List.map_append]; exact q
      obtain ⟨gs,cs,rfl,hgs,hcs,hcm,hgB⟩:=own_last HO2.out
      have hpl:(pre ++ [s]).length=pre.length+1:=by simp
      rw [hpl] at HO2 ⊢
      have OS:=Lib.hid (own_hi y HO2.out)
      have BS:=Lib.hid (below_setAt HBC.out hgB (pre.length * 12+6) y.kind y.v.a y.v.b y.v.c (.slice y.A y.v.pre.length y.c) (.slice y.B y.v.build.length y.d))
      obtain ⟨hfz,s0,s1,s2,s3,s4,s5⟩:=own_hi_cells HO2.out
      obtain ⟨y0,y1,y2,y3,y4,y5⟩:=CY2.out
      have hLO2:Hid (∀ z ∈ pre ++ [(⟨s.lo,y⟩:RSp)],LiesS w z):=fun z hz=>by
       rcases List.mem_append.1 hz with hz | hz
       ·exact HLO.out z (List.mem_append_left _ hz)
       ·rw [List.mem_singleton] at hz; subst hz; exact ⟨(HLO.out s (by simp)).lo,LY0.out⟩
      have hne:g≠gs:=by omega
      unfold maxLen at hcm
      clear HX HY HFk hsh
      go_wp2
      refine ⟨⟨k+1,pre ++ [⟨s.lo,y⟩],true,by omega,by go_num,rfl,?_,hLO2.out,HI2.out,BS.out⟩,by simp [intOf]; omega⟩
      rw [show (pre ++ [(⟨s.lo,y⟩:RSp)]).length=pre.length+1 by simp]; exact OS.out
    ·have HFk:Hid (pieceB (l.map RSp.sp) (r.map RSp.sp) 0 (L.map RCut.cut) k=true):=by unfold Hid pieceB; rw [HX.out,HY.out]; rfl
     cases ob
     ·have HI2:Hid (BInv (L.map RCut.cut) (pieceB (l.map RSp.sp) (r.map RSp.sp) 0 (L.map RCut.cut)) (k+1) true ((out ++ [(⟨x,y⟩:RSp)]).map RSp.sp)):=by
       have q:=HI.out.new HL.out (by rw [List.length_map]; omega) HFk.out
       rw [EX.out,EY.out] at q
       rw [List.map_append]; exact q
      clear HX HY HFk
      go_upto_region 15 with (fail)
      refine new15 _ g o cp k k1 wc.heap.size L x y _ out _ _ _ _ _ _ _ _ _ _ _ _ _ _ _ _ _ _ _ _ _ _ _ _ _ _ _ _ _ _ _ _ _ _ _ _ _ _ _ _ _ _ _ _ _ _ _ _ _ _ _ _ _ _ _ _ _ _ _ _ _ _ _ _ _ _ _ _ _ _ _ _ _ _ _ _ _ _ _ _ _ _ _ _ _ _ _ _ _ _ _ _ hk1 (by omega) (by omega) (by omega) hgw HBC.out.size CX2.out CY2.out HO2.out (fun _ _ _ _ _ h=>h) ?_
      intro v8 w8 t0 t1 t2 t3 t4 t5 t6 t7 t8 t9 t10 t11 t12 ho8 hb8
      have O8:=Lib.hid ho8
      have B8:=Lib.hid (HBC.out.trans hb8)
      clear ho8 hb8
      go_wp2
      refine ⟨⟨k+1,out ++ [⟨x,y⟩],true,by omega,by go_num,rfl,?_,?_,HI2.out,B8.out⟩,by simp [intOf]; omega⟩
      ·rw [List.length_append]; exact O8.out
      ·intro s hs
       rcases List.mem_append.1 hs with hs | hs
       ·exact HLO.out s hs
       ·rw [List.mem_singleton] at hs; subst hs; exact ⟨LX0.out,LY0.out⟩
     ·obtain ⟨pre,s,hps,hsh⟩:=snoc_of (HI.out.opened rfl)
      subst hps
      have HI2:Hid (BInv (L.map RCut.cut) (pieceB (l.map RSp.sp) (r.map RSp.sp) 0 (L.map RCut.cut)) (k+1) true ((pre ++ [(⟨s.lo,y⟩:RSp)]).map RSp.sp)):=by
       have h0:=HI.out
       rw [List.map_append] at h0
       have q:=h0.on hsh HL.out (by rw [List.length_map]; omega) HFk.out
       rw [EY.out] at q
       rw [List.map_append]; exact q
      obtain ⟨gs,cs,rfl,hgs,hcs,hcm,hgB⟩:=own_last HO2.out
      have hpl:(pre ++ [s]).length=pre.length+1:=by simp
      rw [hpl] at HO2 ⊢
      have OS:=Lib.hid (own_hi y HO2.out)
      have BS:=Lib.hid (below_setAt HBC.out hgB (pre.length * 12+6) y.kind y.v.a y.v.b y.v.c (.slice y.A y.v.pre.length y.c) (.slice y.B y.v.build.length y.d))
      obtain ⟨hfz,s0,s1,s2,s3,s4,s5⟩:=own_hi_cells HO2.out
      obtain ⟨y0,y1,y2,y3,y4,y5⟩:=CY2.out
      have hLO2:Hid (∀ z ∈ pre ++ [(⟨s.lo,y⟩:RSp)],LiesS w z):=fun z hz=>by
       rcases List.mem_append.1 hz with hz | hz
       ·exact HLO.out z (List.mem_append_left _ hz)
       ·rw [List.mem_singleton] at hz; subst hz; exact ⟨(HLO.out s (by simp)).lo,LY0.out⟩
      have hne:g≠gs:=by omega
      unfold maxLen at hcm
      clear HX HY HFk hsh
      go_wp2
      refine ⟨⟨k+1,pre ++ [⟨s.lo,y⟩],true,by omega,by go_num,rfl,?_,hLO2.out,HI2.out,BS.out⟩,by simp [intOf]; omega⟩
      rw [show (pre ++ [(⟨s.lo,y⟩:RSp)]).length=pre.length+1 by simp]; exact OS.out
   ·cases gx <;> cases gy
    ·have HFk:Hid (pieceB (l.map RSp.sp) (r.map RSp.sp) 1 (L.map RCut.cut) k=false):=by unfold Hid pieceB; rw [HX.out,HY.out]; rfl
     have HI2:=Lib.hid (HI.out.no HL.out (by rw [List.length_map]; omega) HFk.out)
     clear HX HY HFk
     cases ob
     all_goals
      go_wp2
      exact ⟨⟨k+1,out,false,by omega,by go_num,rfl,HO2.out,HLO.out,HI2.out,HBC.out⟩,by simp [intOf]; omega⟩
    ·have HFk:Hid (pieceB (l.map RSp.sp) (r.map RSp.sp) 1 (L.map RCut.cut) k=false):=by unfold Hid pieceB; rw [HX.out,HY.out]; rfl
     have HI2:=Lib.hid (HI.out.no HL.out (by rw [List.length_map]; omega) HFk.out)
     clear HX HY HFk
     cases ob
     all_goals
      go_wp2
      exact ⟨⟨k+1,out,false,by omega,by go_num,rfl,HO2.out,HLO.out,HI2.out,HBC.out⟩,by simp [intOf]; omega⟩
    ·have HFk:Hid (pieceB (l.map RSp.sp) (r.map RSp.sp) 1 (L.map RCut.cut) k=false):=by unfold Hid pieceB; rw [HX.out,HY.out]; rfl
     have HI2:=Lib.hid (HI.out.no HL.out (by rw [List.length_map]; omega) HFk.out)
     clear HX HY HFk
     cases ob
     all_goals
      go_wp2
      exact ⟨⟨k+1,out,false,by omega,by go_num,rfl,HO2.out,HLO.out,HI2.out,HBC.out⟩,by simp [intOf]; omega⟩
    ·have HFk:Hid (pieceB (l.map RSp.sp) (r.map RSp.sp) 1 (L.map RCut.cut) k=true):=by unfold Hid pieceB; rw [HX.out,HY.out]; rfl
     cases ob
     ·have HI2:Hid (BInv (L.map RCut.cut) (pieceB (l.map RSp.sp) (r.map RSp.sp) 1 (L.map RCut.cut)) (k+1) true ((out ++ [(⟨x,y⟩:RSp)]).map RSp.sp)):=by
       have q:=HI.out.new HL.out (by rw [List.length_map]; omega) HFk.out
       rw [EX.out,EY.out] at q
       rw [List.map_append]; exact q
      clear HX HY HFk
      go_upto_region 15 with (fail)
      refine new15 _ g o cp k k1 wc.heap.size L x y _ out _ _ _ _ _ _ _ _ _ _ _ _ _ _ _ _ _ _ _ _ _ _ _ _ _ _ _ _ _ _ _ _ _ _ _ _ _ _ _ _ _ _ _ _ _ _ _ _ _ _ _ _ _ _ _ _ _ _ _ _ _ _ _ _ _ _ _ _ _ _ _ _ _ _ _ _ _ _ _ _ _ _ _ _ _ _ _ _ _ _ _ _ hk1 (by omega) (by omega) (by omega) hgw HBC.out.size CX2.out CY2.out HO2.out (fun _ _ _ _ _ h=>h) ?_
      intro v8 w8 t0 t1 t2 t3 t4 t5 t6 t7 t8 t9 t10 t11 t12 ho8 hb8
      have O8:=Lib.hid ho8
      have B8:=Lib.hid (HBC.out.trans hb8)
      clear ho8 hb8
      go_wp2
      refine ⟨⟨k+1,out ++ [⟨x,y⟩],true,by omega,by go_num,rfl,?_,?_,HI2.out,B8.out⟩,by simp [intOf]; omega⟩
      ·rw [List.length_append]; exact O8.out
      ·intro s hs
       rcases List.mem_append.1 hs with hs | hs
       ·exact HLO.out s hs
       ·rw [List.mem_singleton] at hs; subst hs; exact ⟨LX0.out,LY0.out⟩
     ·obtain ⟨pre,s,hps,hsh⟩:=snoc_of (HI.out.opened rfl)
      subst hps
      have HI2:Hid (BInv (L.map RCut.cut) (pieceB (l.map RSp.sp) (r.map RSp.sp) 1 (L.map RCut.cut)) (k+1) true ((pre ++ [(⟨s.lo,y⟩:RSp)]).map RSp.sp)):=by
       have h0:=HI.out
       rw [List.map_append] at h0
       have q:=h0.on hsh HL.out (by rw [List.length_map]; omega) HFk.out
       rw [EY.out] at q
       rw [List.map_append]; exact q
      obtain ⟨gs,cs,rfl,hgs,hcs,hcm,hgB⟩:=own_last HO2.out
      have hpl:(pre ++ [s]).length=pre.length+1:=by simp
      rw [hpl] at HO2 ⊢
      have OS:=Lib.hid (own_hi y HO2.out)
      have BS:=Lib.hid (below_setAt HBC.out hgB (pre.length * 12+6) y.kind y.v.a y.v.b y.v.c (.slice y.A y.v.pre.length y.c) (.slice y.B y.v.build.length y.d))
      obtain ⟨hfz,s0,s1,s2,s3,s4,s5⟩:=own_hi_cells HO2.out
      obtain ⟨y0,y1,y2,y3,y4,y5⟩:=CY2.out
      have hLO2:Hid (∀ z ∈ pre ++ [(⟨s.lo,y⟩:RSp)],LiesS w z):=fun z hz=>by
       rcases List.mem_append.1 hz with hz | hz
       ·exact HLO.out z (List.mem_append_left _ hz)
       ·rw [List.mem_singleton] at hz; subst hz; exact ⟨(HLO.out s (by simp)).lo,LY0.out⟩
      have hne:g≠gs:=by omega
      unfold maxLen at hcm
      clear HX HY HFk hsh
      go_wp2
      refine ⟨⟨k+1,pre ++ [⟨s.lo,y⟩],true,by omega,by go_num,rfl,?_,hLO2.out,HI2.out,BS.out⟩,by simp [intOf]; omega⟩
      rw [show (pre ++ [(⟨s.lo,y⟩:RSp)]).length=pre.length+1 by simp]; exact OS.out
   ·cases gx <;> cases gy
    ·have HFk:Hid (pieceB (l.map RSp.sp) (r.map RSp.sp) 2 (L.map RCut.cut) k=true):=by unfold Hid pieceB; rw [HX.out,HY.out]; rfl
     cases ob
     ·have HI2:Hid (BInv (L.map RCut.cut) (pieceB (l.map RSp.sp) (r.map RSp.sp) 2 (L.map RCut.cut)) (k+1) true ((out ++ [(⟨x,y⟩:RSp)]).map RSp.sp)):=by
       have q:=HI.out.new HL.out (by rw [List.length_map]; omega) HFk.out
       rw [EX.out,EY.out] at q
       rw [List.map_append]; exact q
      clear HX HY HFk
      go_upto_region 15 with (fail)
      refine new15 _ g o cp k k1 wc.heap.size L x y _ out _ _ _ _ _ _ _ _ _ _ _ _ _ _ _ _ _ _ _ _ _ _ _ _ _ _ _ _ _ _ _ _ _ _ _ _ _ _ _ _ _ _ _ _ _ _ _ _ _ _ _ _ _ _ _ _ _ _ _ _ _ _ _ _ _ _ _ _ _ _ _ _ _ _ _ _ _ _ _ _ _ _ _ _ _ _ _ _ _ _ _ _ hk1 (by omega) (by omega) (by omega) hgw HBC.out.size CX2.out CY2.out HO2.out (fun _ _ _ _ _ h=>h) ?_
      intro v8 w8 t0 t1 t2 t3 t4 t5 t6 t7 t8 t9 t10 t11 t12 ho8 hb8
      have O8:=Lib.hid ho8
      have B8:=Lib.hid (HBC.out.trans hb8)
      clear ho8 hb8
      go_wp2
      refine ⟨⟨k+1,out ++ [⟨x,y⟩],true,by omega,by go_num,rfl,?_,?_,HI2.out,B8.out⟩,by simp [intOf]; omega⟩
      ·rw [List.length_append]; exact O8.out
      ·intro s hs
       rcases List.mem_append.1 hs with hs | hs
       ·exact HLO.out s hs
       ·rw [List.mem_singleton] at hs; subst hs; exact ⟨LX0.out,LY0.out⟩
     ·obtain ⟨pre,s,hps,hsh⟩:=snoc_of (HI.out.opened rfl)
      subst hps
      have HI2:Hid (BInv (L.map RCut.cut) (pieceB (l.map RSp.sp) (r.map RSp.sp) 2 (L.map RCut.cut)) (k+1) true ((pre ++ [(⟨s.lo,y⟩:RSp)]).map RSp.sp)):=by
       have h0:=HI.out
       rw [List.map_append] at h0
       have q:=h0.on hsh HL.out (by rw [List.length_map]; omega) HFk.out
       rw [EY.out] at q
       rw [List.map_append]; exact q
      obtain ⟨gs,cs,rfl,hgs,hcs,hcm,hgB⟩:=own_last HO2.out
      have hpl:(pre ++ [s]).length=pre.length+1:=by simp
      rw [hpl] at HO2 ⊢
      have OS:=Lib.hid (own_hi y HO2.out)
      have BS:=Lib.hid (below_setAt HBC.out hgB (pre.length * 12+6) y.kind y.v.a y.v.b y.v.c (.slice y.A y.v.pre.length y.c) (.slice y.B y.v.build.length y.d))
      obtain ⟨hfz,s0,s1,s2,s3,s4,s5⟩:=own_hi_cells HO2.out
      obtain ⟨y0,y1,y2,y3,y4,y5⟩:=CY2.out
      have hLO2:Hid (∀ z ∈ pre ++ [(⟨s.lo,y⟩:RSp)],LiesS w z):=fun z hz=>by
       rcases List.mem_append.1 hz with hz | hz
       ·exact HLO.out z (List.mem_append_left _ hz)
       ·rw [List.mem_singleton] at hz; subst hz; exact ⟨(HLO.out s (by simp)).lo,LY0.out⟩
      have hne:g≠gs:=by omega
      unfold maxLen at hcm
      clear HX HY HFk hsh
      go_wp2
      refine ⟨⟨k+1,pre ++ [⟨s.lo,y⟩],true,by omega,by go_num,rfl,?_,hLO2.out,HI2.out,BS.out⟩,by simp [intOf]; omega⟩
      rw [show (pre ++ [(⟨s.lo,y⟩:RSp)]).length=pre.length+1 by simp]; exact OS.out
    ·have HFk:Hid (pieceB (l.map RSp.sp) (r.map RSp.sp) 2 (L.map RCut.cut) k=true):=by unfold Hid pieceB; rw [HX.out,HY.out]; rfl
     cases ob
     ·have HI2:Hid (BInv (L.map RCut.cut) (pieceB (l.map RSp.sp) (r.map RSp.sp) 2 (L.map RCut.cut)) (k+1) true ((out ++ [(⟨x,y⟩:RSp)]).map RSp.sp)):=by
       have q:=HI.out.new HL.out (by rw [List.length_map]; omega) HFk.out
       rw [EX.out,EY.out] at q
       rw [List.map_append]; exact q
      clear HX HY HFk
      go_upto_region 15 with (fail)
      refine new15 _ g o cp k k1 wc.heap.size L x y _ out _ _ _ _ _ _ _ _ _ _ _ _ _ _ _ _ _ _ _ _ _ _ _ _ _ _ _ _ _ _ _ _ _ _ _ _ _ _ _ _ _ _ _ _ _ _ _ _ _ _ _ _ _ _ _ _ _ _ _ _ _ _ _ _ _ _ _ _ _ _ _ _ _ _ _ _ _ _ _ _ _ _ _ _ _ _ _ _ _ _ _ _ hk1 (by omega) (by omega) (by omega) hgw HBC.out.size CX2.out CY2.out HO2.out (fun _ _ _ _ _ h=>h) ?_
      intro v8 w8 t0 t1 t2 t3 t4 t5 t6 t7 t8 t9 t10 t11 t12 ho8 hb8
      have O8:=Lib.hid ho8
      have B8:=Lib.hid (HBC.out.trans hb8)
      clear ho8 hb8
      go_wp2
      refine ⟨⟨k+1,out ++ [⟨x,y⟩],true,by omega,by go_num,rfl,?_,?_,HI2.out,B8.out⟩,by simp [intOf]; omega⟩
      ·rw [List.length_append]; exact O8.out
      ·intro s hs
       rcases List.mem_append.1 hs with hs | hs
       ·exact HLO.out s hs
       ·rw [List.mem_singleton] at hs; subst hs; exact ⟨LX0.out,LY0.out⟩
     ·obtain ⟨pre,s,hps,hsh⟩:=snoc_of (HI.out.opened rfl)
      subst hps
      have HI2:Hid (BInv (L.map RCut.cut) (pieceB (l.map RSp.sp) (r.map RSp.sp) 2 (L.map RCut.cut)) (k+1) true ((pre ++ [(⟨s.lo,y⟩:RSp)]).map RSp.sp)):=by
       have h0:=HI.out
       rw [List.map_append] at h0
       have q:=h0.on hsh HL.out (by rw [List.length_map]; omega) HFk.out
       rw [EY.out] at q
       rw [List.map_append]; exact q
      obtain ⟨gs,cs,rfl,hgs,hcs,hcm,hgB⟩:=own_last HO2.out
      have hpl:(pre ++ [s]).length=pre.length+1:=by simp
      rw [hpl] at HO2 ⊢
      have OS:=Lib.hid (own_hi y HO2.out)
      have BS:=Lib.hid (below_setAt HBC.out hgB (pre.length * 12+6) y.kind y.v.a y.v.b y.v.c (.slice y.A y.v.pre.length y.c) (.slice y.B y.v.build.length y.d))
      obtain ⟨hfz,s0,s1,s2,s3,s4,s5⟩:=own_hi_cells HO2.out
      obtain ⟨y0,y1,y2,y3,y4,y5⟩:=CY2.out
      have hLO2:Hid (∀ z ∈ pre ++ [(⟨s.lo,y⟩:RSp)],LiesS w z):=fun z hz=>by
       rcases List.mem_append.1 hz with hz | hz
       ·exact HLO.out z (List.mem_append_left _ hz)
       ·rw [List.mem_singleton] at hz; subst hz; exact ⟨(HLO.out s (by simp)).lo,LY0.out⟩
      have hne:g≠gs:=by omega
      unfold maxLen at hcm
      clear HX HY HFk hsh
      go_wp2
      refine ⟨⟨k+1,pre ++ [⟨s.lo,y⟩],true,by omega,by go_num,rfl,?_,hLO2.out,HI2.out,BS.out⟩,by simp [intOf]; omega⟩
      rw [show (pre ++ [(⟨s.lo,y⟩:RSp)]).length=pre.length+1 by simp]; exact OS.out
    ·have HFk:Hid (pieceB (l.map RSp.sp) (r.map RSp.sp) 2 (L.map RCut.cut) k=false):=by unfold Hid pieceB; rw [HX.out,HY.out]; rfl
     have HI2:=Lib.hid (HI.out.no HL.out (by rw [List.length_map]; omega) HFk.out)
     clear HX HY HFk
     cases ob
     all_goals
      go_wp2
      exact ⟨⟨k+1,out,false,by omega,by go_num,rfl,HO2.out,HLO.out,HI2.out,HBC.out⟩,by simp [intOf]; omega⟩
    ·have HFk:Hid (pieceB (l.map RSp.sp) (r.map RSp.sp) 2 (L.map RCut.cut) k=false):=by unfold Hid pieceB; rw [HX.out,HY.out]; rfl
     have HI2:=Lib.hid (HI.out.no HL.out (by rw [List.length_map]; omega) HFk.out)
     clear HX HY HFk
     cases ob
     all_goals
      go_wp2
      exact ⟨⟨k+1,out,false,by omega,by go_num,rfl,HO2.out,HLO.out,HI2.out,HBC.out⟩,by simp [intOf]; omega⟩
  ·have HFIN:Hid (BuiltOf (l.map RSp.sp) (r.map RSp.sp) how (out.map RSp.sp)):=⟨HI.out.norm,built HL.out HI.out (by rw [List.length_map]; omega) (by rw [List.length_map]; omega) HH1.out HH2.out⟩
   obtain ⟨P,c,he,hcap,hnil,hcell⟩:=own_cells svals_len HO.out rfl
   subst he
   have HBF:=Lib.hid (HB0.out.trans (HBel.out.mono HB0.out.size))
   have HROW:Hid (SpRow wr P out.length out):=⟨rfl,fun s hs=>(HLO.out s hs).kept HBF.out,fun h0=>by obtain ⟨g,e,_,h2,_,h3⟩:=hcell h0; exact ⟨g,0,e,h2,h3⟩⟩
   clear hcell
   go_wp2
   go_ret
   exact ⟨P,out.length,c,out,rfl,HROW.out,by omega,HFIN.out,hcap,hnil,HLO.out,HBF.out⟩
end Go.Proofs.YtgfbflnhjpbceaaGreatDoor.Span
