/-
  What the theorem of the last text needs of these: NmGath, NmSet, NmHas, MoMath. Conditions: as each theorem states.
-/
import Derived.Test.YtgakcdcfblgagaaGreatDoorRoA1
import Derived.Test.YtgakcdcfblgagaaGreatDoorRoA22
set_option maxRecDepth 100000
set_option maxHeartbeats 25600000
namespace Go.Proofs.YtgakcdcfblgagaaGreatDoor.Nrm
open Go.RowKit Num Ident Semver Prec Span
open Range (Rng noRng goodR goodL fits RV RAt RgRow LtB wt wtL wtL_len wt_mem KeepS)
structure GaAt (w:World) (l:List Rng) (Q:Rng→Cut→Prop) (k:Nat) (v:Value) (m:Nat) (out:List RSp) (W:World):Prop where
 own:W.ownsRow w.heap.size 196 12 v m (out.flatMap RSp.vals)
 len:out.length=m
 lies:∀ s ∈ out,OwnsS W w.heap.size s
 few:m≤3 * wtL (l.take k)
 has:∀ c,inR (out.map RSp.sp) c↔∃ x ∈ l.take k,Q x c
 bel:Below w.heap.size w W
theorem wtL_take:∀ (l:List Rng) (k:Nat),wtL (l.take k)≤wtL l
 | [],k=>by simp
 | x :: l,0=>by simp [wtL]
 | x :: l,k+1=>by rw [List.take_succ_cons,Range.wtL_cons,Range.wtL_cons]; have:=wtL_take l k; omega
theorem take_next {α:Type} [Inhabited α] (l:List α) (d:α) (k:Nat) (h:k<l.length):l.take (k+1)=l.take k ++ [l.getD k d]:=by
 rw [List.take_add_one,List.getD_eq_getElem?_getD,List.getElem?_eq_getElem h]; rfl
theorem GaAt.start (w:World) (l:List Rng) (Q:Rng→Cut→Prop):GaAt w l Q 0 (.slice none 0 0) 0 [] w :=
 ⟨World.ownsRow_nil _ _ _ _,rfl,(fun s hs=>by cases hs),Nat.zero_le _,fun c=>⟨fun h=>absurd h (inR_nil c),fun ⟨x,hx,_⟩=>by simp at hx⟩,Below.refl _ _⟩
theorem GaAt.kept {w:World} {l:List Rng} {Q:Rng→Cut→Prop} {k:Nat} {v:Value} {m:Nat} {out:List RSp} {W W':World} (h:GaAt w l Q k v m out W) (hb:Below W.heap.size W W'):GaAt w l Q k v m out W' :=
 ⟨own_below h.own hb,h.len,fun s hs=>(h.lies s hs).kept hb,h.few,h.has,h.bel.trans (hb.mono h.bel.size)⟩
theorem GaAt.more {w:World} {l:List Rng} {Q:Rng→Cut→Prop} {k:Nat} {v:Value} {m:Nat} {out:List RSp} {W:World} (h:GaAt w l Q k v m out W) (hk:k<l.length) {A2:Option Addr} {m2:Nat} {o2:List RSp} (h2:SpRow W A2 m2 o2) (h2o:∀ s ∈ o2,OwnsS W w.heap.size s)
  (hN:Span.Norm (o2.map RSp.sp)) (hQ:∀ c,inS (o2.map RSp.sp) c↔Q (l.getD k noRng) c) (hm2:m2≤3 * wt (l.getD k noRng)) {v3:Value} {W3:World} (ho:W3.ownsRow w.heap.size 196 12 v3 (m+m2) ((out ++ o2).flatMap RSp.vals)) (hg:W.grownBy W3 v.ownBlock):GaAt w l Q (k+1) v3 (m+m2) (out ++ o2) W3:=by
 refine ⟨ho,by rw [List.length_append,h.len,h2.1],fun s hs=>?_,?_,fun c=>?_,h.bel.trans ((Below.refl _ _).grown hg h.bel.size fun k hk=>(h.own.lt k hk).1)⟩
 ·rcases List.mem_append.1 hs with hs | hs
  ·exact (h.lies s hs).grown h.own hg
  ·exact (h2o s hs).grown h.own hg
 ·rw [take_next l noRng k hk,wtL_append,Range.wtL_cons]
  have:=h.few
  show m+m2≤3 * (wtL (l.take k)+(wt (l.getD k noRng)+0))
  omega
 ·rw [List.map_append,inR_append,h.has c,hN.inR,hQ,take_next l noRng k hk]
  constructor
  ·rintro (⟨x,hx,hq⟩ | hq)
   ·exact ⟨x,List.mem_append_left _ hx,hq⟩
   ·exact ⟨_,List.mem_append_right _ (List.mem_singleton.2 rfl),hq⟩
  ·rintro ⟨x,hx,hq⟩
   rcases List.mem_append.1 hx with hx | hx
   ·exact .inl ⟨x,hx,hq⟩
   ·rw [List.mem_singleton] at hx; subst hx; exact .inr hq
theorem SpRow.news {w:World} {ad:Addr} {m:Nat} {r:List RSp} (h:SpRow w (some ad) m r):∀ j u,(r.flatMap RSp.vals)[j]?=some u→w.cell? (ad.add j)=some u:=by
 intro j u hu
 have hj:j<r.length * 12:=by rw [← flat_len RSp.vals 12 svals_len]; exact (List.getElem?_eq_some_iff.1 hu).1
 have hr:=h.1
 obtain ⟨b,o,e,_,hc⟩:=h.2.2 (by omega)
 injection e with e
 subst e
 rw [add_none]
 have h1:j=j / 12 * 12+j % 12:=by omega
 rw [h1,flat_get RSp.vals 12 svals_len r (j / 12) (j % 12) (by omega) (by omega)] at hu
 have:=hc (j / 12) (by omega) (j % 12) u hu
 rw [Nat.add_assoc,← h1] at this
 exact this
theorem wpList_append_set (w:World) {ops:Array Oper} {rest:List Oper} {o:Oper} {a:Act} {Q:Exit→Act→World→Prop} (hgd:o.guard=none) (s x:Operand)
  (ho:o.op=.call { callee:=.builtin .append,args:=#[s,x],argTypes:=#[123,123] })
  (base:Nat) (v:Value) (n:Nat) (l:List RSp) (hs:a.eval s=v) (hown:w.ownsRow base 196 12 v n (l.flatMap RSp.vals))
  (A:Option Addr) (m c:Nat) (r:List RSp) (hx:a.eval x=.slice A m c) (hr:SpRow w A m r) (hnil:A=none→c=0) (hb:(n+m) * 160≤140737488355328) (hbase:base≤w.heap.size)
  (h:∀ v' w',w'.ownsRow base 196 12 v' (n+m) ((l ++ r).flatMap RSp.vals)→w.grownBy w' v.ownBlock→wpList Tryz.prog ops Q rest (a.put o.dst v') w'):wpList Tryz.prog ops Q (o :: rest) a w:=by
 cases A with
 | some ad =>
  obtain ⟨i,hi,hz,hsz,hby⟩:=info_parts spInfo
  refine wpList_append_own w hgd s x 123 ho base 196 i _ 12 160 Tryz.underlying123 hi hz hsz hby rfl (by omega) v n _ hs hown ad m c _ hx (by rw [flat_len _ 12 svals_len,hr.1]) (SpRow.news hr) (flat_one _ svals_one r) (by unfold maxLen; omega) hb hbase (fun v' w' h2 h3 _=>?_)
  exact h v' w' (by rw [List.flatMap_append]; exact h2) h3
 | none =>
  obtain rfl:=hnil rfl
  obtain rfl:m=0:=by
   rcases Nat.eq_zero_or_pos m with h0 | h0
   ·exact h0
   ·obtain ⟨_,_,e,_⟩:=hr.2.2 h0; cases e
  obtain rfl:r=[]:=List.eq_nil_of_length_eq_zero hr.1
  obtain ⟨i,hi,_⟩:=info_parts spInfo
  have hrun:=run_append_owned_none (P:=Tryz.prog) (w:=w) base 123 o.type 196 i 12 Tryz.underlying123 hi v n _ hown
  refine wpList_plain hgd fun K hK=>?_
  unfold Oper.wp execOp
  simp only [ho,resolve,invoke,builtin,Sem.run_bind,Sem.run_pure,Result.andThen_ok,List.map_toArray,List.map_cons,List.map_nil,hs,hx,hrun]
  exact hK _ _ (h v w (by simpa using hown) (World.grownBy.refl w _))
def GathPost (w:World) (l:List Rng) (Q:Rng→Cut→Prop) (e:Ending) (w':World):Prop :=
 ∃ (A:Option Addr) (n c:Nat) (out:List RSp),e=.returned (.slice A n c)∧SpRow w' A n out∧n≤3 * wtL l∧(∀ c,inR (out.map RSp.sp) c↔∃ x ∈ l,Q x c)∧Below w.heap.size w w'
theorem GaAt.post {w:World} {l:List Rng} {Q:Rng→Cut→Prop} {k:Nat} {v:Value} {m:Nat} {out:List RSp} {W:World} (h:GaAt w l Q k v m out W) (hk:l.length≤k):∃ A c,v=.slice A m c∧GathPost w l Q (.returned (.slice A m c)) W:=by
 obtain ⟨A,c,e,_,_,hcell⟩:=own_cells svals_len h.own h.len
 have h1:=h.few
 have h2:=h.has
 rw [List.take_of_length_le hk] at h1 h2
 refine ⟨A,c,e,A,m,c,out,rfl,⟨h.len,fun s hs=>(h.lies s hs).lies,fun h0=>?_⟩,h1,h2,h.bel⟩
 obtain ⟨g,e1,_,e2,_,e3⟩:=hcell h0
 exact ⟨g,0,e1,e2,e3⟩

def GaJS (w:World) (A:Option Addr) (n c:Nat) (l:List Rng) (a':Act) (W:World):Prop :=
 ∃ (k m:Nat) (v:Value) (out:List RSp) (u7 u8 u9 u10 u11 u12 u13 u14 u15 u16 u17 u18 u19 u20 u21:Value),k≤n∧GaAt w l (fun x c=>inC x c) k v m out W ∧
  a'={ tmps:=#[.slice A n c,.func (.func 119) #[] #[],undef,undef,.slice none 0 0,v,.int .i64 k,u7,u8,u9,u10,u11,u12,u13,u14,u15,u16,u17,u18,u19,u20,u21],defers:=[] }
def GaMS (n:Nat) (a':Act) (_:World):Nat:=n - (intOf (a'.tmps.getD 6 undef)).toNat
theorem gatheredS (A:Option Addr) (n c B:Nat) (l:List Rng) (w:World) (hl:RgRow w (LtB B) A n l) (hB:B≤w.heap.size) (hw:wtL l≤1500)
  (hF:∀ r,r ∈ l→∀ (x:RV) (W:World),Range.Lies W (LtB B) r x→B≤W.heap.size→Calls Tryz.prog 119 #[x.agg] W (SetIn W (3 * wt r) (SetOf r))) :
  Calls Tryz.prog 175 #[.slice A n c,.func (.func 119) #[] #[]] w (GathPost w l (fun x c=>inC x c)):=by
 have HL:=Lib.hid hl
 have HF:=Lib.hid hF
 have hln:l.length=n:=by obtain ⟨f,h1,_⟩:=hl; exact h1
 have hnw:n≤1500:=by have:=wtL_len l; omega
 clear hl hF
 go_enter Tryz.func175,Tryz.ntmps175
 go_wp2
 refine wp_scope_back 0 (GaJS w A n c l) (GaMS n) rfl ?_ ?_
 ·rintro a' W ⟨k,m,v,out,u7,u8,u9,u10,u11,u12,u13,u14,u15,u16,u17,u18,u19,u20,u21,hk,hat,rfl⟩
  have HA:=Lib.hid hat
  clear hat
  by_cases hlt:k<n
  ·obtain ⟨b,o,x,hLe,hSb,hcl,hx⟩:=(HL.out.keep (KeepS.of_below (S:=LtB B) (HA.out.bel.mono (Nat.le_refl _)))).one hlt
   have hne:¬ k=n:=by omega
   have hll:k<l.length:=by omega
   have hmem:l.getD k noRng ∈ l:=by
    rw [List.getD_eq_getElem?_getD,List.getElem?_eq_getElem hll]; exact List.getElem_mem _
   have HX:=Lib.hid (HF.out _ hmem x W hx (Nat.le_trans hB HA.out.bel.size))
   have hwx:wt (l.getD k noRng)≤1500:=by have:=wt_mem hmem; omega
   obtain ⟨e0,e1,e2,e3,e4,e5,e6⟩:=hcl.cells
   rw [hLe]
   clear hcl hx
   go_wp2_with fail
   refine HX.out.mono ?_
   rintro e W2 ⟨A2,m2,c2,o2,rfl,q1,q2,q3,q4,q5,q6,hb⟩
   have HA2:=Lib.hid (HA.out.kept hb)
   have HQ:=Lib.hid q3
   have HS:=Lib.hid q1
   have HN:=Lib.hid q6
   have HO:Hid (∀ s ∈ o2,OwnsS W2 w.heap.size s):=fun s hs=>(q4 s hs).mono HA.out.bel.size
   have hq2:=q2
   have hm3:m≤4500:=by have h1:=HA.out.few; have h2:=wtL_take l k; omega
   have hm2:m2≤4500:=Nat.le_trans q2 (by omega)
   clear q1 q2 q3 q4 q5 q6 hb e0 e1 e2 e3 e4 e5 e6 HX HA
   have HM:=Lib.hid (fun v3 W3 ho hb3=>GaAt.more (v3:=v3) (W3:=W3) HA2.out hll HS.out HO.out HQ.out.1 HQ.out.2 hq2 ho hb3)
   go_wp2_with (first
    | (at_builtin; refine wpList_append_set _ rfl _ _ rfl w.heap.size _ m out rfl HA2.out.own A2 m2 c2 o2 rfl HS.out HN.out (by omega) HA2.out.bel.size ?_; intro v3 W3 ho hb3; have HG3:=Lib.hid (HM.out v3 W3 ho hb3); clear ho hb3)
    | fail)
   go_step3
   rw [show ((k:Int)+1)=((k+1:Nat):Int) from rfl]
   exact ⟨rfl,⟨k+1,m+m2,v3,out ++ o2,_,_,_,_,_,_,_,_,_,_,_,_,_,_,_,by omega,HG3.out,rfl⟩,by simp [GaMS,intOf]; omega⟩
  ·obtain rfl:k=n:=by omega
   obtain ⟨A9,c9,rfl,hp⟩:=HA.out.post (Nat.le_of_eq hln)
   have HP:=Lib.hid hp
   clear hp
   go_wp2
   simp only [Exit.jump]
   go_ret
   exact HP.out
 ·intro HP
  go_wp2
  go_step3
  rename_i hK
  exact hK _ _ (HP.out _ _ ⟨0,0,.slice none 0 0,[],_,_,_,_,_,_,_,_,_,_,_,_,_,_,_,by omega,GaAt.start _ _ _,rfl⟩)

def GaJO (w:World) (A:Option Addr) (n c:Nat) (l:List Rng) (a':Act) (W:World):Prop :=
 ∃ (k m:Nat) (v:Value) (out:List RSp) (u7 u8 u9 u10 u11 u12 u13 u14 u15 u16 u17 u18 u19 u20 u21:Value),k≤n∧GaAt w l (fun x c=>inOne ⟨low,high⟩ c∧¬ inC x c) k v m out W ∧
  a'={ tmps:=#[.slice A n c,.func (.func 176) #[] #[],undef,undef,.slice none 0 0,v,.int .i64 k,u7,u8,u9,u10,u11,u12,u13,u14,u15,u16,u17,u18,u19,u20,u21],defers:=[] }
def GaMO (n:Nat) (a':Act) (_:World):Nat:=n - (intOf (a'.tmps.getD 6 undef)).toNat
theorem gatheredO (A:Option Addr) (n c B:Nat) (l:List Rng) (w:World) (hl:RgRow w (LtB B) A n l) (hB:B≤w.heap.size) (hw:wtL l≤1500)
  (hF:∀ r,r ∈ l→∀ (x:RV) (W:World),Range.Lies W (LtB B) r x→B≤W.heap.size→Calls Tryz.prog 176 #[x.agg] W (SetIn W (3 * wt r) (RestOf r))) :
  Calls Tryz.prog 175 #[.slice A n c,.func (.func 176) #[] #[]] w (GathPost w l (fun x c=>inOne ⟨low,high⟩ c∧¬ inC x c)):=by
 have HL:=Lib.hid hl
 have HF:=Lib.hid hF
 have hln:l.length=n:=by obtain ⟨f,h1,_⟩:=hl; exact h1
 have hnw:n≤1500:=by have:=wtL_len l; omega
 clear hl hF
 go_enter Tryz.func175,Tryz.ntmps175
 go_wp2
 refine wp_scope_back 0 (GaJO w A n c l) (GaMO n) rfl ?_ ?_
 ·rintro a' W ⟨k,m,v,out,u7,u8,u9,u10,u11,u12,u13,u14,u15,u16,u17,u18,u19,u20,u21,hk,hat,rfl⟩
  have HA:=Lib.hid hat
  clear hat
  by_cases hlt:k<n
  ·obtain ⟨b,o,x,hLe,hSb,hcl,hx⟩:=(HL.out.keep (KeepS.of_below (S:=LtB B) (HA.out.bel.mono (Nat.le_refl _)))).one hlt
   have hne:¬ k=n:=by omega
   have hll:k<l.length:=by omega
   have hmem:l.getD k noRng ∈ l:=by
    rw [List.getD_eq_getElem?_getD,List.getElem?_eq_getElem hll]; exact List.getElem_mem _
   have HX:=Lib.hid (HF.out _ hmem x W hx (Nat.le_trans hB HA.out.bel.size))
   have hwx:wt (l.getD k noRng)≤1500:=by have:=wt_mem hmem; omega
   obtain ⟨e0,e1,e2,e3,e4,e5,e6⟩:=hcl.cells
   rw [hLe]
   clear hcl hx
   go_wp2_with fail
   refine HX.out.mono ?_
   rintro e W2 ⟨A2,m2,c2,o2,rfl,q1,q2,q3,q4,q5,q6,hb⟩
   have HA2:=Lib.hid (HA.out.kept hb)
   have HQ:=Lib.hid q3
   have HS:=Lib.hid q1
   have HN:=Lib.hid q6
   have HO:Hid (∀ s ∈ o2,OwnsS W2 w.heap.size s):=fun s hs=>(q4 s hs).mono HA.out.bel.size
   have hq2:=q2
   have hm3:m≤4500:=by have h1:=HA.out.few; have h2:=wtL_take l k; omega
   have hm2:m2≤4500:=Nat.le_trans q2 (by omega)
   clear q1 q2 q3 q4 q5 q6 hb e0 e1 e2 e3 e4 e5 e6 HX HA
   have HM:=Lib.hid (fun v3 W3 ho hb3=>GaAt.more (v3:=v3) (W3:=W3) HA2.out hll HS.out HO.out HQ.out.1 HQ.out.2 hq2 ho hb3)
   go_wp2_with (first
    | (at_builtin; refine wpList_append_set _ rfl _ _ rfl w.heap.size _ m out rfl HA2.out.own A2 m2 c2 o2 rfl HS.out HN.out (by omega) HA2.out.bel.size ?_; intro v3 W3 ho hb3; have HG3:=Lib.hid (HM.out v3 W3 ho hb3); clear ho hb3)
    | fail)
   go_step3
   rw [show ((k:Int)+1)=((k+1:Nat):Int) from rfl]
   exact ⟨rfl,⟨k+1,m+m2,v3,out ++ o2,_,_,_,_,_,_,_,_,_,_,_,_,_,_,_,by omega,HG3.out,rfl⟩,by simp [GaMO,intOf]; omega⟩
  ·obtain rfl:k=n:=by omega
   obtain ⟨A9,c9,rfl,hp⟩:=HA.out.post (Nat.le_of_eq hln)
   have HP:=Lib.hid hp
   clear hp
   go_wp2
   simp only [Exit.jump]
   go_ret
   exact HP.out
 ·intro HP
  go_wp2
  go_step3
  rename_i hK
  exact hK _ _ (HP.out _ _ ⟨0,0,.slice none 0 0,[],_,_,_,_,_,_,_,_,_,_,_,_,_,_,_,by omega,GaAt.start _ _ _,rfl⟩)
end Go.Proofs.YtgakcdcfblgagaaGreatDoor.Nrm
namespace Go.Proofs.YtgakcdcfblgagaaGreatDoor.Nrm
open Go.RowKit Num Ident Semver Prec Span
open Range (Rng noRng goodR goodL fits RV RAt RgRow LtB wt wtL wtL_len wt_mem KeepS)
theorem others_of (r:Rng) (x:RV) (B:Nat) (w:World) (hx:Range.Lies w (LtB B) r x) (hB:B≤w.heap.size) (hw:wt r≤1500)
  (hset:∀ W,Range.Lies W (LtB B) r x→B≤W.heap.size→Calls Tryz.prog 119 #[x.agg] W (SetIn W (3 * wt r - 1) (SetOf r))) :
  Calls Tryz.prog 176 #[x.agg] w (SetIn w (3 * wt r) (RestOf r)):=by
 have hw0:1≤wt r:=by rw [Range.wt_eq]; omega
 have HB:Hid (Below w.heap.size w (w.alloc x)):=(Below.refl _ _).alloc (Nat.le_refl _) _
 have HR:Hid (RAt (w.alloc x) w.heap.size x):=RAt.new w _ x
 have HS:=Lib.hid (hset _ (hx.keep (KeepS.of_below (S:=LtB B) HB.out)) (Nat.le_trans hB HB.out.size))
 clear hx hset
 unfold RV.agg at HS ⊢
 go_enter Tryz.func176,Tryz.ntmps176
 go_upto_region 1 with (fail)
 generalize w.alloc x=W at HB HR HS ⊢
 obtain ⟨y1,y2,c0,c1,c2,c3,c4,c5,c6⟩:=HR.out
 go_wp2_with fail
 refine HS.out.mono ?_
 rintro e W2 ⟨A2,m2,cc2,o2,rfl,q1,q2,q3,q4,q5,q6,hb⟩
 have HB2:=Lib.hid (HB.out.trans (hb.mono HB.out.size))
 have H1:=Lib.hid q1
 have H3:=Lib.hid q3
 clear q1 q3 q4 q5 q6 hb c0 c1 c2 c3 c4 c5 c6 y1 y2 HS
 go_wp2_with fail
 refine (not_in A2 m2 cc2 o2 _ H1.out (by omega)).mono ?_
 intro e w4 h4
 have HS:Hid (SetIn w (3 * wt r) (RestOf r) e w4):=setIn_imp (h4.mono HB2.out) (fun o ho=>rest_of H3.out ho) (by omega)
 obtain ⟨A4,n4,cc4,out4,rfl,q1,q2,q3,q4,q5,q6,q7⟩:=HS.out
 clear h4
 go_wp2
 go_ret
 exact HS.out
theorem rng_eq {r:Rng} {x:RV} {w:World} {S:Nat→Prop} (hx:Range.Lies w S r x):r=.mk x.kind x.v r.subs:=by
 have hs:=hx.says
 obtain ⟨k,v,l⟩:=r
 have e1:k=x.kind:=hs.kind
 have e2:v=x.v:=hs.ver
 rw [e1,e2]; rfl
theorem set_any:∀ (m:Nat) (r:Rng) (x:RV) (B d:Nat) (w:World),wt r≤m→m≤1500→Range.Lies w (LtB B) r x→B≤w.heap.size→goodR r d=true →
  Calls Tryz.prog 119 #[x.agg] w (SetIn w (3 * wt r - 1) (SetOf r))
 | 0,r,x,B,d,w,hm,_,hx,hB,hg=>by rw [Range.wt_eq] at hm; omega
 | m+1,r,x,B,d,w,hm,hM,hx,hB,hg=>by
  have IH:=Lib.hid (fun r x d w=>set_any m r x B d w)
  have hs:=hx.says
  obtain ⟨hd,hgl,hln,hrk,hk⟩:=Range.right_at hx hg
  have HB:Hid (Below w.heap.size w (w.alloc x)):=(Below.refl _ _).alloc (Nat.le_refl _) _
  have HR:Hid (RAt (w.alloc x) w.heap.size x):=RAt.new w _ x
  have HL:=Lib.hid (hx.keep (KeepS.of_below (S:=LtB B) HB.out))
  have HG:=Lib.hid hgl
  have HRow:=Lib.hid (hs.pre.kept HB.out)
  have HF:Hid (Fit x.v.pre):=⟨hs.fit.pre,hs.fit.pres⟩
  have HE:=Lib.hid (rng_eq hx)
  have HW:=Lib.hid (Range.wt_eq r)
  have HLN:=Lib.hid hln
  have hB1:B≤(w.alloc x).heap.size:=Nat.le_trans hB HB.out.size
  have hwl:wtL r.subs≤m:=by rw [Range.wt_eq] at hm; omega
  have HO:Hid (∀ q,q ∈ r.subs→∀ (y:RV) (W:World),Range.Lies W (LtB B) q y→B≤W.heap.size→Calls Tryz.prog 119 #[y.agg] W (SetIn W (3 * wt q - 1) (SetOf q))):=fun q hq y W hy hBW=>by
   have h1:=wt_mem hq
   exact IH.out q y (d+Range.opens r.kind q.kind) W (by omega) (by omega) hy hBW (Range.goodL_mem HG.out hq)
  clear hs hx hg hgl IH
  unfold RV.agg
  go_enter Tryz.func119,Tryz.ntmps119
  go_upto_region 1 with (fail)
  generalize w.alloc x=W at HB HR HL HRow hB1 ⊢
  obtain ⟨y1,y2,c0,c1,c2,c3,c4,c5,c6⟩:=HR.out
  have hcase:((x.kind=0∨(1≤x.kind∧x.kind≤8∧goodV x.v=true))∧x.n=0)∨(x.kind=9)∨(x.kind=10)∨(x.kind=11∧x.n=1):=by
   rcases hk with ⟨h1,h2,h3,h4⟩ | ⟨_,⟨h1,h2⟩ | ⟨h1 | h1,h2⟩ | ⟨h1,h2⟩⟩
   ·exact .inl ⟨.inr ⟨h1,h2,h3⟩,h4⟩
   ·exact .inl ⟨.inl h1,h2⟩
   ·exact .inr (.inl h1)
   ·exact .inr (.inr (.inl h1))
   ·exact .inr (.inr (.inr ⟨h1,h2⟩))
  clear hk
  rcases hcase with ⟨hk,hn⟩ | hk | hk | ⟨hk,hn⟩
  ·have hs0:r.subs=[]:=List.eq_nil_of_length_eq_zero (HLN.out.trans hn)
   have HE2:Hid (r=.mk x.kind x.v []):=by have:=HE.out; rw [hs0] at this; exact this
   have hw1:wt r=1:=by rw [HW.out,hs0]; rfl
   have HV:=Lib.hid (byVer_any x W HRow.out HF.out hk)
   have q9:(x.kind == 9)=false:=by simp; omega
   have q10:(x.kind == 10)=false:=by simp; omega
   have q11:(x.kind == 11)=false:=by simp; omega
   clear hk hn hs0
   go_wp2_with fail
   refine HV.out.mono ?_
   intro e w4 h4
   have HS:Hid (SetIn w (3 * wt r - 1) (SetOf r) e w4):=setIn_imp (h4.mono HB.out) (fun o ho=>by rw [HE2.out]; exact ho) (by omega)
   obtain ⟨A4,n4,cc4,out4,rfl,q1,q2,q3,q4,q5,q6,q7⟩:=HS.out
   clear h4
   go_wp2
   go_ret
   exact HS.out
  ·have hks:x.kind=9:=hk
   have HE2:Hid (r=.mk 9 x.v r.subs):=by have:=HE.out; rw [hks] at this; exact this
   rw [hks] at c0
   have HGa:=Lib.hid (gatheredO x.L x.n x.e B r.subs W HL.out.says.subs hB1 (by omega) (fun q hq y W' hy hBW=>others_of q y B W' hy hBW (by have:=wt_mem hq; omega) (fun W'' h1 h2=>HO.out q hq y W'' h1 h2)))
   clear hk hks
   go_wp2_with fail
   refine HGa.out.mono ?_
   rintro e W2 ⟨A2,m2,cc2,o2,rfl,q1,q2,q3,hb⟩
   have HB2:=Lib.hid (HB.out.trans (hb.mono HB.out.size))
   have H1:=Lib.hid q1
   have H3:=Lib.hid q3
   clear q1 q3 hb c0 c1 c2 c3 c4 c5 c6 y1 y2 HGa
   go_wp2_with fail
   refine (not_in A2 m2 cc2 o2 _ H1.out (by omega)).mono ?_
   intro e w4 h4
   have HS:Hid (SetIn w (3 * wt r - 1) (SetOf r) e w4):=setIn_imp (h4.mono HB2.out) (fun o ho=>by rw [HE2.out]; exact set_and H3.out ho) (by rw [HW.out]; omega)
   obtain ⟨A4,n4,cc4,out4,rfl,q1,q2,q3,q4,q5,q6,q7⟩:=HS.out
   clear h4
   go_wp2
   go_ret
   exact HS.out
  ·have hks:x.kind=10:=hk
   have HE2:Hid (r=.mk 10 x.v r.subs):=by have:=HE.out; rw [hks] at this; exact this
   rw [hks] at c0
   have HGa:=Lib.hid (gatheredS x.L x.n x.e B r.subs W HL.out.says.subs hB1 (by omega) (fun q hq y W' hy hBW=>(HO.out q hq y W' hy hBW).mono fun _ _ h=>setIn_imp h (fun _ h=>h) (by omega)))
   clear hk hks
   go_wp2_with fail
   refine HGa.out.mono ?_
   rintro e W2 ⟨A2,m2,cc2,o2,rfl,q1,q2,q3,hb⟩
   have HB2:=Lib.hid (HB.out.trans (hb.mono HB.out.size))
   have H1:=Lib.hid q1
   have H3:=Lib.hid q3
   clear q1 q3 hb c0 c1 c2 c3 c4 c5 c6 y1 y2 HGa
   go_wp2_with fail
   refine (normal_in A2 m2 cc2 o2 _ H1.out (by omega)).mono ?_
   intro e w4 h4
   have HS:Hid (SetIn w (3 * wt r - 1) (SetOf r) e w4):=setIn_imp (h4.mono HB2.out) (fun o ho=>by rw [HE2.out]; exact set_or H3.out ho) (by rw [HW.out]; omega)
   obtain ⟨A4,n4,cc4,out4,rfl,q1,q2,q3,q4,q5,q6,q7⟩:=HS.out
   clear h4
   go_wp2
   go_ret
   exact HS.out
  ·have hks:x.kind=11:=hk
   obtain ⟨q,hq⟩:=List.length_eq_one_iff.1 (HLN.out.trans hn)
   have HE2:Hid (r=.mk 11 x.v [q]):=by have:=HE.out; rw [hks,hq] at this; exact this
   rw [hks] at c0
   obtain ⟨b,o,y,hLe,hSb,hcl,hy⟩:=HL.out.says.subs.one (show 0<x.n by omega)
   rw [hq] at hy
   have hmem:q ∈ r.subs:=by rw [hq]; exact List.mem_singleton.2 rfl
   have hwq:wt q≤1500:=by have:=wt_mem hmem; omega
   have hwr:wt r=1+wt q:=by rw [HW.out,hq]; show 1+(wt q+0)=_; omega
   have HOt:=Lib.hid (others_of q y B W hy hB1 hwq (fun W'' h1 h2=>HO.out q hmem y W'' h1 h2))
   have hcl':=hcl
   simp only [Nat.zero_mul,Nat.add_zero] at hcl'
   obtain ⟨e0,e1,e2,e3,e4,e5,e6⟩:=hcl'.cells
   rw [hLe,hn] at c6
   clear hk hks hy hcl hcl' hmem
   go_wp2_with fail
   refine HOt.out.mono ?_
   intro e w4 h4
   have HS:Hid (SetIn w (3 * wt r - 1) (SetOf r) e w4):=setIn_imp (h4.mono HB.out) (fun o ho=>by rw [HE2.out]; exact set_not ho) (by omega)
   obtain ⟨A4,n4,cc4,out4,rfl,q1,q2,q3,q4,q5,q6,q7⟩:=HS.out
   clear h4
   go_wp2
   go_ret
   exact HS.out
def OfPost (w:World) (r:Rng) (e:Ending) (w':World):Prop:=SetIn w (3 * wt r - 1) (fun o=>if goodR r 0=true then SetOf r o else o=[]) e w'
theorem of_any (r:Rng) (x:RV) (B:Nat) (w:World) (hx:Range.Lies w (LtB B) r x) (hB:B≤w.heap.size) (hlo:Range.LenOk r) (hw:goodR r 0=true→wt r≤1500) :
  Calls Tryz.prog 65 #[x.agg] w (OfPost w r):=by
 have HB:Hid (Below w.heap.size w (w.alloc x)):=(Below.refl _ _).alloc (Nat.le_refl _) _
 have HR:Hid (RAt (w.alloc x) w.heap.size x):=RAt.new w _ x
 have HL:=Lib.hid (hx.keep (KeepS.of_below (S:=LtB B) HB.out))
 have hB1:B≤(w.alloc x).heap.size:=Nat.le_trans hB HB.out.size
 clear hx
 unfold RV.agg
 go_enter Tryz.func65,Tryz.ntmps65
 go_upto_region 1 with (fail)
 generalize w.alloc x=W at HB HR HL hB1 ⊢
 obtain ⟨y1,y2,c0,c1,c2,c3,c4,c5,c6⟩:=HR.out
 go_wp2_with fail
 refine (Range.goodIs_any r x B W hlo HL.out hB1).mono ?_
 rintro e W2 ⟨rfl,hb⟩
 have HB2:=Lib.hid (HB.out.trans (hb.mono HB.out.size))
 have HR2:=Lib.hid (HR.out.kept hb HR.out.1)
 have HL2:=Lib.hid (HL.out.keep (KeepS.of_below (S:=LtB B) hb))
 have hB2:B≤W2.heap.size:=Nat.le_trans hB1 hb.size
 clear hb y1 y2 c0 c1 c2 c3 c4 c5 c6 HB HR HL
 obtain ⟨y1,y2,c0,c1,c2,c3,c4,c5,c6⟩:=HR2.out
 cases hg:goodR r 0 with
 | true =>
  have HG:=Lib.hid hg
  clear hg
  go_wp2_with fail
  refine (set_any 1500 r x B 0 W2 (hw HG.out) (Nat.le_refl _) HL2.out hB2 HG.out).mono ?_
  intro e w4 h4
  have HS:Hid (OfPost w r e w4):=by
   unfold Hid OfPost
   refine setIn_imp (h4.mono HB2.out) (fun o ho=>?_) (Nat.le_refl _)
   rw [if_pos HG.out]; exact ho
  obtain ⟨A4,n4,cc4,out4,rfl,q1,q2,q3,q4,q5,q6,q7⟩:=HS.out
  clear h4
  go_wp2
  go_ret
  exact HS.out
 | false =>
  have HG:=Lib.hid hg
  clear hg
  go_wp2
  go_ret
  exact ⟨none,0,0,[],rfl,SpRow.none_ _ _,Nat.zero_le _,by
   show if goodR r 0=true then SetOf r [] else ([]:List Sp)=[]
   rw [HG.out]; rfl,(fun s hs=>by cases hs),Nat.le_refl _,fun _=>rfl,HB2.out⟩
end Go.Proofs.YtgakcdcfblgagaaGreatDoor.Nrm
namespace Go.Proofs.YtgakcdcfblgagaaGreatDoor.Nrm
open Go.RowKit Num Ident Semver Prec Span
open Range (Rng noRng goodR goodL fits RV RAt RgRow LtB wt wtL wtL_len wt_mem KeepS)
def hasR (r:Rng) (v:Ver):Bool:=goodR r 0 && (goodV v && inV r v)
theorem hasR_good {r:Rng} {v:Ver} (hg:goodR r 0=true) (hv:goodV v=true):hasR r v=inV r v:=by unfold hasR; rw [hg,hv]; rfl
theorem has_norm (r:Rng) (x:RV) (B:Nat) (v:Ver) (VA:Option Addr) (vc:Nat) (VB:Option Addr) (vd:Nat) (w:World) (hx:Range.Lies w (LtB B) r x) (hB:B≤w.heap.size) (hlo:Range.LenOk r) (hw:goodR r 0=true→wt r≤1500)
  (hr1:SRow w VA v.pre.length v.pre) (hr2:SRow w VB v.build.length v.build) (hf:v.pre.length≤maxLen∧v.build.length≤maxLen∧(∀ x ∈ v.pre,x.length≤maxLen)∧(∀ x ∈ v.build,x.length≤maxLen)) :
  Calls Tryz.prog 205 #[x.agg,.agg #[v.a,v.b,v.c,.slice VA v.pre.length vc,.slice VB v.build.length vd]] w fun e w'=>e=.returned (.bool (hasR r v))∧Below w.heap.size w w':=by
 have HB:Hid (Below w.heap.size w ((w.alloc x).alloc (v,VA,vc,VB,vd))):=((Below.refl _ _).alloc (Nat.le_refl _) _).alloc (by simp) _
 have HR:Hid (RAt ((w.alloc x).alloc (v,VA,vc,VB,vd)) w.heap.size x):=(RAt.new w 65 x).kept ((Below.refl _ _).alloc (Nat.le_refl _) _) (by simp)
 have HV5:Hid (At5 ((w.alloc x).alloc (v,VA,vc,VB,vd)) (w.heap.size+1) v.a v.b v.c (.slice VA v.pre.length vc) (.slice VB v.build.length vd)):=by
  have h:=At5.new (w.alloc x) 37 v.a v.b v.c (.slice VA v.pre.length vc) (.slice VB v.build.length vd)
  rw [size_alloc] at h; exact h
 have HL:=Lib.hid (hx.keep (KeepS.of_below (S:=LtB B) HB.out))
 have HRR:∀ R,hasR r v=R→Hid (goodV v=true→R=(goodR r 0 && inV r v)):=fun R h g=>by rw [← h]; unfold hasR; rw [g,Bool.true_and]
 have HRN:∀ R,hasR r v=R→Hid (goodV v=false→R=false):=fun R h g=>by rw [← h]; unfold hasR; rw [g,Bool.false_and,Bool.and_false]
 generalize hR:hasR r v=R
 replace HRR:=HRR R hR
 replace HRN:=HRN R hR
 clear hx hR
 unfold RV.agg
 go_enter Tryz.func205,Tryz.ntmps205
 go_upto_region 1 with (fail)
 generalize ((w.alloc x).alloc (v,VA,vc,VB,vd))=W at HB HR HV5 HL ⊢
 replace HB:Hid (Below w.heap.size w W.drew):=HB.out.drew
 replace HR:Hid (RAt W.drew w.heap.size x):=HR.out
 replace HV5:Hid (At5 W.drew (w.heap.size+1) v.a v.b v.c (.slice VA v.pre.length vc) (.slice VB v.build.length vd)):=HV5.out
 replace HL:Hid (Range.Lies W.drew (LtB B) r x):=HL.out.keep (KeepS.of_below (S:=LtB B) (Below.refl _ _).drew)
 cases hg:goodV v with
 | true =>
  refine wp_region_held_drew (S:=fun w'=>RAt w' w.heap.size x∧At5 w' (w.heap.size+1) v.a v.b v.c (.slice VA v.pre.length vc) (.slice VB v.build.length vd)) (by kernel_rfl) ⟨HR.out,HV5.out⟩ (fun hHeld=>?_)
  generalize W.drew=W1 at HB HR HV5 HL hHeld ⊢
  refine tk 0 rfl (.agg #[v.a,v.b,v.c,.slice VA v.pre.length vc,.slice VB v.build.length vd]) ?_ fun w' hS'=>by obtain ⟨_,_,g0,g1,g2,g3,g4⟩:=hS'.2; go_simp
  refine cl 1 rfl fun K hK=>?_
  go_simp
  refine (vgood_any v VA vc VB vd _ (hr1.kept HB.out) (hr2.kept HB.out) hf.1 hf.2.1 hf.2.2.1 hf.2.2.2).mono ?_
  rintro e wm1 ⟨rfl,hb⟩
  have HB1:=Lib.hid (HB.out.trans (hb.mono HB.out.size))
  have HR1:=Lib.hid (HR.out.kept hb HR.out.1)
  have HV1:=Lib.hid (HV5.out.kept hb HV5.out.1)
  have HL1:=Lib.hid (HL.out.keep (KeepS.of_below (S:=LtB B) hb))
  rw [hg]
  clear hb hHeld
  refine hK.out _ _ ⟨HR1.out,HV1.out⟩ (fun hHeld=>?_)
  clear hK K
  try simp only [Act.put,p1,p2,p3]
  refine tk 2 rfl (.bool true) ?_
  refine tk 3 rfl x ?_ fun w' hS'=>by obtain ⟨y1,y2,c0,c1,c2,c3,c4,c5,c6⟩:=hS'.1; go_simp
  refine tk 5 rfl (.agg #[v.a,v.b,v.c,.slice VA v.pre.length vc,.slice VB v.build.length vd]) ?_ fun w' hS'=>by obtain ⟨_,_,g0,g1,g2,g3,g4⟩:=hS'.2; go_simp
  refine cl 4 rfl fun K hK=>?_
  go_simp
  refine (of_any r x B _ HL1.out (Nat.le_trans hB HB1.out.size) hlo hw).mono ?_
  rintro e wm2 ⟨A2,m2,cc2,o2,rfl,q1,q2,q3,q4,q5,q6,hb⟩
  have HB2:=Lib.hid (HB1.out.trans (hb.mono HB1.out.size))
  have HR2:=Lib.hid (HR1.out.kept hb HR1.out.1)
  have HV2:=Lib.hid (HV1.out.kept hb HV1.out.1)
  have HS2:=Lib.hid q1
  have hm2:m2≤100000:=by
   revert q3
   cases hgr:goodR r 0 with
   | true=>intro _; have:=hw hgr; omega
   | false =>
    intro q3
    have h0:o2.map RSp.sp=[]:=q3
    have h1:o2.length=0:=by rw [← List.length_map (f:=RSp.sp),h0]; rfl
    have:=q1.1
    omega
  have HE:Hid (hasV (o2.map RSp.sp) v=R):=by
   rw [Hid,HRR.out hg]
   revert q3
   cases hgr:goodR r 0 with
   | true=>intro q3; exact set_has q3 hgr hg
   | false=>intro q3; rw [show o2.map RSp.sp=[] from q3]; rfl
  clear q1 q2 q3 q4 q5 q6
  clear hb hHeld
  refine hK.out _ _ ⟨HR2.out,HV2.out⟩ (fun hHeld=>?_)
  clear hK K
  try simp only [Act.put,p1,p2,p3]
  refine cl 6 rfl fun K hK=>?_
  go_simp
  refine (has_any A2 m2 cc2 o2 v VA vc VB vd _ HS2.out hm2 (hr1.kept HB2.out) ⟨hf.1,hf.2.2.1⟩).mono ?_
  rintro e wm3 ⟨rfl,hb⟩
  have HB3:=Lib.hid (HB2.out.trans (hb.mono HB2.out.size))
  have HR3:=Lib.hid (HR2.out.kept hb HR2.out.1)
  have HV3:=Lib.hid (HV2.out.kept hb HV2.out.1)
  rw [show (o2.map RSp.sp).any (hasOne (aheadOf v) (behindOf v))=R from HE.out]
  clear hb hHeld
  refine hK.out _ _ ⟨HR3.out,HV3.out⟩ (fun hHeld=>?_)
  clear hK K
  try simp only [Act.put,p1,p2,p3]
  refine tk 7 rfl (.bool R) ?_
  refine tk 8 rfl (.bool R) ?_
  refine wpAnyH_done (by kernel_rfl) ?_ _
  go_wp2
  go_ret
  exact ⟨rfl,HB3.out⟩
 | false =>
  refine wp_region_held_drew (S:=fun w'=>RAt w' w.heap.size x∧At5 w' (w.heap.size+1) v.a v.b v.c (.slice VA v.pre.length vc) (.slice VB v.build.length vd)) (by kernel_rfl) ⟨HR.out,HV5.out⟩ (fun hHeld=>?_)
  generalize W.drew=W1 at HB HR HV5 HL hHeld ⊢
  refine tk 0 rfl (.agg #[v.a,v.b,v.c,.slice VA v.pre.length vc,.slice VB v.build.length vd]) ?_ fun w' hS'=>by obtain ⟨_,_,g0,g1,g2,g3,g4⟩:=hS'.2; go_simp
  refine cl 1 rfl fun K hK=>?_
  go_simp
  refine (vgood_any v VA vc VB vd _ (hr1.kept HB.out) (hr2.kept HB.out) hf.1 hf.2.1 hf.2.2.1 hf.2.2.2).mono ?_
  rintro e wm1 ⟨rfl,hb⟩
  have HB1:=Lib.hid (HB.out.trans (hb.mono HB.out.size))
  have HR1:=Lib.hid (HR.out.kept hb HR.out.1)
  have HV1:=Lib.hid (HV5.out.kept hb HV5.out.1)
  have HL1:=Lib.hid (HL.out.keep (KeepS.of_below (S:=LtB B) hb))
  rw [hg]
  clear hb hHeld
  refine hK.out _ _ ⟨HR1.out,HV1.out⟩ (fun hHeld=>?_)
  clear hK K
  try simp only [Act.put,p1,p2,p3]
  refine tk 2 rfl (.bool false) ?_
  refine sk 3 rfl ?_
  refine sk 4 rfl ?_
  refine sk 5 rfl ?_
  refine sk 6 rfl ?_
  refine tk 7 rfl (.bool false) ?_
  refine tk 8 rfl (.bool false) ?_
  refine wpAnyH_done (by kernel_rfl) ?_ _
  obtain rfl:R=false:=HRN.out hg
  go_wp2
  go_ret
  exact ⟨rfl,HB1.out⟩
end Go.Proofs.YtgakcdcfblgagaaGreatDoor.Nrm
namespace Go.Proofs.YtgakcdcfblgagaaGreatDoor.Model
open Go.RowKit Num Ident Semver
open Range (Rng noRng goodR)
open Nrm (inV hasR)
open Name (isName)
open Prec (fullV)

structure PDep where
 name:List UInt8
 r:Rng
instance:Inhabited PDep:=⟨⟨[],noRng⟩⟩
structure PRel where
 v:Ver
 yanked:Bool
 needs:List PDep
 bans:List PDep
instance:Inhabited PRel:=⟨⟨noVer,false,[],[]⟩⟩
structure PPack where
 name:List UInt8
 rels:List PRel
instance:Inhabited PPack:=⟨⟨[],[]⟩⟩
structure PPin where
 name:List UInt8
 v:Ver

def firstG {α β:Type} (f:Nat→α→Option β):Nat→List α→Option (Nat × β)
 | _,[]=>none
 | k,x :: l=>match f k x with
  | some b=>some (k,b)
  | none=>firstG f (k+1) l
theorem firstG_stop {α β:Type} [Inhabited α] (f:Nat→α→Option β):∀ (l:List α) (m k:Nat) (b:β),k<l.length→(∀ j,j<k→f (m+j) (l.getD j default)=none)→f (m+k) (l.getD k default)=some b→firstG f m l=some (m+k,b)
 | [],_,_,_,h,_,_=>by simp at h
 | x :: l,m,0,b,_,_,hb=>by
  have hb:f m x=some b:=hb
  rw [firstG,hb]; rfl
 | x :: l,m,k+1,b,h,ha,hb=>by
  have h0:f m x=none:=ha 0 (Nat.succ_pos _)
  rw [firstG,h0]
  show firstG f (m+1) l=_
  rw [firstG_stop f l (m+1) k b (by simpa using h) (fun j hj=>by have:=ha (j+1) (Nat.succ_lt_succ hj); rw [Nat.add_right_comm]; exact this) (by rw [Nat.add_right_comm]; exact hb),Nat.add_right_comm]; rfl
theorem firstG_none {α β:Type} [Inhabited α] (f:Nat→α→Option β):∀ (l:List α) (m:Nat),(∀ j,j<l.length→f (m+j) (l.getD j default)=none)→firstG f m l=none
 | [],_,_=>rfl
 | x :: l,m,ha=>by
  have h0:f m x=none:=ha 0 (Nat.succ_pos _)
  rw [firstG,h0]
  exact firstG_none f l (m+1) fun j hj=>by have:=ha (j+1) (Nat.succ_lt_succ hj); rw [Nat.add_right_comm]; exact this
theorem firstG_no {α β:Type} [Inhabited α] (f:Nat→α→Option β):∀ (l:List α) (m:Nat),firstG f m l=none→∀ j,j<l.length→f (m+j) (l.getD j default)=none
 | [],_,_,j,hj=>by simp at hj
 | x :: l,m,h,j,hj=>by
  rw [firstG] at h
  split at h
  ·cases h
  ·next h0 =>
   cases j with
   | zero=>exact h0
   | succ j=>have:=firstG_no f l (m+1) h j (by simpa using hj); rw [Nat.add_right_comm] at this; exact this
def depE (d:PDep):Int:=if isName d.name=false then 12 else if goodR d.r 0=false then 3 else 0
def toO (e:Int):Option Int:=if e=0 then none else some e
def rootsF (l:List PDep):Option (Nat × Int):=firstG (fun _ d=>toO (depE d)) 0 l
def nameB {α:Type} [Inhabited α] (nm:α→List UInt8) (l:List α) (k:Nat):Bool:=(l.take k).any fun x=>nm x == nm (l.getD k default)
def out2:Option (Nat × Int)→Int × Int
 | none=>(-1,0)
 | some (k,e)=>((k:Int),e)
def banE (pn:List UInt8) (v:Ver) (nn j:Nat) (d:PDep):Int:=if depE d≠0 then depE d else if nn≤j∧d.name=pn∧inV d.r v=true then 18 else 0
def verB (l:List PRel) (k:Nat):Bool:=(l.take k).any fun x=>sameV x.v (l.getD k default).v
def relF (pn:List UInt8) (l:List PRel) (k:Nat) (r:PRel):Option (Int × Int) :=
 if goodV r.v=false then some (-1,3) else if verB l k=true then some (-1,6)
 else (firstG (fun j d=>toO (banE pn r.v r.needs.length j d)) 0 (r.needs ++ r.bans)).map fun p=>((p.1:Int),p.2)
def packF (x:List PPack) (k:Nat) (p:PPack):Option (Int × Int × Int) :=
 if isName p.name=false then some (-1,-1,12) else if nameB PPack.name x k=true then some (-1,-1,6)
 else (firstG (relF p.name p.rels) 0 p.rels).map fun q=>((q.1:Int),q.2.1,q.2.2)
def checkF (x:List PPack):Option (Int × Int × Int × Int) :=
 if 4096<x.length then some (-1,-1,-1,9) else (firstG (packF x) 0 x).map fun q=>((q.1:Int),q.2.1,q.2.2.1,q.2.2.2)
def out4:Option (Int × Int × Int × Int)→Int × Int × Int × Int
 | none=>(-1,-1,-1,0)
 | some q=>q
def releaseO (x:List PPack) (name:List UInt8) (v:Ver):Option PRel:=(x.find? fun p=>p.name == name).bind fun p=>p.rels.find? fun r=>sameV r.v v
end Go.Proofs.YtgakcdcfblgagaaGreatDoor.Model
