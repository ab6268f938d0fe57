/-
  What the theorem of the last text needs of these: RkNew, RkFl, RkRuns. Conditions: as each theorem states.
-/
import Derived.Test.YtgakcdcfblgagaaGreatDoorRoA1
import Derived.Test.YtgakcdcfblgagaaGreatDoorRoA15
import Derived.Test.YtgakcdcfblgagaaGreatDoorRoA23
import Derived.Test.YtgakcdcfblgagaaGreatDoorRoA24
import Derived.Test.YtgakcdcfblgagaaGreatDoorRoA27
import Derived.Test.YtgakcdcfblgagaaGreatDoorRoA31
import Derived.Test.YtgakcdcfblgagaaGreatDoorRoA32
import Derived.Test.YtgakcdcfblgagaaGreatDoorRoA33
import Derived.Test.YtgakcdcfblgagaaGreatDoorRoA34
import Derived.Test.YtgakcdcfblgagaaGreatDoorShelfRun
import Derived.Shelf.SlicesQ.IndexFunc
import Derived.Laws.ComplexArith
set_option maxRecDepth 100000
set_option maxHeartbeats 25600000
namespace Go.Proofs.YtgakcdcfblgagaaGreatDoor.Rank
open Go.RowKit Num Ident Semver Fr
open Range (Rng noRng RV KeepS LtB LenOk goodR wt)
open KR (KRow AtV)
open Model (PDep PRel PPack MDep MVer MRel MPack DepOk VerOk RelOk PackOk DRow RRow PRow SlOk FewX FewRel strKeyed strKey PlainPost PlainOf checkF checkV out4 firstG_at relF_ne packF)
open Copy (atv_fill but_fill)
open Model (relLe)

theorem check_ne {x:List PPack} {q:Int × Int × Int × Int} (h:checkF x=some q):q.2.2.2≠0:=by
 unfold checkF at h
 split at h
 ·injection h with h; subst h; decide
 ·obtain ⟨p,hp,rfl⟩:=Option.map_eq_some_iff.1 h
  obtain ⟨k,y,hy⟩:=firstG_at _ _ _ _ hp
  unfold packF at hy
  split at hy
  ·injection hy with hy; rw [← hy]; decide
  ·split at hy
   ·injection hy with hy; rw [← hy]; decide
   ·obtain ⟨r,hr,e⟩:=Option.map_eq_some_iff.1 hy
    obtain ⟨k2,z,hz⟩:=firstG_at _ _ _ _ hr
    rw [← e]
    exact relF_ne hz
theorem check_zero {x:List PPack}:(out4 (checkF x)).2.2.2=0↔checkF x=none:=by
 cases h:checkF x with
 | none=>exact ⟨fun _=>rfl,fun _=>rfl⟩
 | some q=>exact ⟨fun g=>absurd g (check_ne h),fun g=>by cases g⟩
def NewPost (x:List MPack) (w:World) (e:Ending) (w':World):Prop :=
 (checkF (x.map MPack.p)=none→∃ (tb mb:Nat) (A:Option Addr) (c:Nat) (y:List MPack),e=.returned (.pointer (some ⟨tb,0,none⟩))∧Tbl w' tb mb A y.length c y∧PlainOf (x.map MPack.p) (y.map MPack.p))∧(checkF (x.map MPack.p)≠none→e=.returned (.pointer none))∧Below w.heap.size w w'
theorem region_update {P:Program} {yl:Nat→Option Bool} {o:Oper} {a:Act} {w w':World} {K:Act→World→Prop} {Q:Exit→Act→World→Prop} {key val:Value} {b:Nat} (hw:Region.wanted o yl=true) (m x v:Operand) (t:TypeId)
  (hop:o.op=Op.mapUpdate t m x v) (hm:a.eval m=.map (some b)) (hx:a.eval x=key) (hv:a.eval v=val) (hrun:(Instr.mapUpdate t (.map (some b)) key val).run P w=.ok () w') (h:K (a.put o.dst undef) w') :
  if Region.wanted o yl=true then Oper.wp P o a w K Q else K (a.put o.dst undef) w:=by
 rw [if_pos hw]
 unfold Oper.wp
 simp [execOp,hop,hm,hx,hv,hrun,Result.andThen]
 exact h
theorem table_made (w:World) (A:Option Addr) (n c:Nat):∃ W,W=(w.alloc (.map #[] 0)).alloc (.cells #[.slice A n c,.map (some w.heap.size)] 109)∧NumAt W w.heap.size []∧AtV W (w.heap.size+1) [.slice A n c,.map (some w.heap.size)]∧Below w.heap.size w W:=by
 refine ⟨_,rfl,(NumAt.made w).but (T:=fun _=>False) ((But.refl _ _).alloc _) (fun h=>h),?_,((Below.refl _ _).alloc (Nat.le_refl _) _).alloc (by simp) _⟩
 have h:=AtV.new (w.alloc (.map #[] 0)) 109 [.slice A n c,.map (some w.heap.size)]
 rwa [size_alloc] at h
theorem new_any (A:Option Addr) (n c:Nat) (x:List MPack) (B:Nat) (w:World) (hx:PRow w (LtB B) A n x) (hB:B≤w.heap.size) (hf:FewX x) (ht:Tab w) :
  Calls Tryz.prog 14 #[.agg #[.slice A n c]] w (NewPost x w):=by
 obtain ⟨W0,hW,h1,hb⟩:∃ W,W=w.alloc (.cells #[.slice A n c] 26)∧AtV W w.heap.size [.slice A n c]∧Below w.heap.size w W:=⟨_,rfl,AtV.new w _ _,(Below.refl _ _).alloc (Nat.le_refl _) _⟩
 have HX:=Lib.hid (hx.keep (KeepS.of_below (S:=LtB B) hb))
 have HA:=Lib.hid h1
 have HB:=Lib.hid hb
 have HF:=Lib.hid hf
 have HT:=Lib.hid (ht.kept hb)
 have HLB:Hid (B≤W0.heap.size):=Nat.le_trans hB hb.size
 have HZ:=Lib.hid (check_zero (x:=x.map MPack.p))
 clear hx h1 hb hf ht hB
 unfold NewPost
 obtain ⟨ck,hck⟩:∃ ck,checkF (x.map MPack.p)=ck:=⟨_,rfl⟩
 have HCK:=Lib.hid hck
 rw [hck] at HZ ⊢
 clear hck
 obtain ⟨xb,hxb⟩:∃ xb,w.heap.size=xb:=⟨_,rfl⟩
 have HXB:=Lib.hid hxb
 go_enter Tryz.func14,Tryz.ntmps14
 go_upto_region 1 with (fail)
 rw [← hW]
 rw [hxb] at HA
 try rw [hxb]
 clear hW hxb
 have i0:=HA.out.at_ 0 _ rfl
 go_wp2_with fail
 refine (Model.check_any A n c x B W0 HX.out HLB.out HF.out HT.out).mono ?_
 rw [HCK.out]
 obtain ⟨⟨q1,q2,q3,q4⟩,hq⟩:∃ q,out4 ck=q:=⟨_,rfl⟩
 unfold checkV
 rw [hq] at HZ ⊢
 clear hq
 rintro e W1 ⟨rfl,hb1⟩
 have HB1:=Lib.hid (HB.out.trans (hb1.mono HB.out.size))
 have HA1:=Lib.hid (HA.out.kept hb1 HA.out.lt)
 have HX1:=Lib.hid (HX.out.keep (KeepS.of_below (S:=LtB B) hb1))
 have HL1:Hid (B≤W1.heap.size):=Nat.le_trans HLB.out hb1.size
 clear hb1 i0 HB HA HX HLB HT
 go_upto_region 2 with (fail)
 have hb2:Below W1.heap.size W1 (W1.alloc (.cells #[.int .i64 q1,.int .i64 q2,.int .i64 q3] 104)):=(Below.refl _ _).alloc (Nat.le_refl _) _
 have HB2:=Lib.hid (HB1.out.trans (hb2.mono HB1.out.size))
 have HA2:=Lib.hid (HA1.out.kept hb2 HA1.out.lt)
 have HX2:=Lib.hid (HX1.out.keep (KeepS.of_below (S:=LtB B) hb2))
 have HL2:Hid (B≤(W1.alloc (.cells #[.int .i64 q1,.int .i64 q2,.int .i64 q3] 104)).heap.size):=Nat.le_trans HL1.out hb2.size
 clear hb2 HB1 HA1 HX1 HL1
 generalize W1.alloc (.cells #[.int .i64 q1,.int .i64 q2,.int .i64 q3] 104)=W2 at HB2 HA2 HX2 HL2 ⊢
 by_cases h4:q4=0
 ·have HN:Hid (ck=none):=HZ.out.1 h4
  have hne:(q4 != 0)=false:=by simp [h4]
  clear h4
  have i0:=HA2.out.at_ 0 _ rfl
  go_wp2_with fail
  refine (Copy.plain_any A n c x B W2 HX2.out HL2.out HF.out).mono ?_
  rintro e W4 ⟨A5,c5,y,rfl,hy,oy,hpl,hb4⟩
  have HY:=Lib.hid hy
  have OY:=Lib.hid oy
  have HPL:=Lib.hid hpl
  have HFY:Hid (FewX y):=Model.plain_few hpl HF.out
  have HOK:Hid (TabOk (y.map MPack.p)):=tab_ok hpl (HCK.out.trans HN.out)
  have HB4:=Lib.hid (HB2.out.trans (hb4.mono HB2.out.size))
  clear hy oy hpl hb4 i0 HX2 HA2 HL2 HB2
  obtain ⟨W5,hW5,hnum,hat,hb5⟩:=table_made W4 A5 y.length c5
  have HNUM:=Lib.hid hnum
  have HAT:=Lib.hid hat
  have HB5:=Lib.hid (HB4.out.trans (hb5.mono HB4.out.size))
  have HY5:=Lib.hid (HY.out.keep (KeepS.of_below (S:=LtB W4.heap.size) hb5))
  clear hnum hat hb5
  have hmm:=@run_makeMap Tryz.prog
  go_upto_region 5 with (fail)
  rw [← hW5]
  obtain ⟨mb,hmb⟩:∃ mb,W4.heap.size=mb:=⟨_,rfl⟩
  rw [hmb] at HNUM HAT HY5
  try rw [hmb]
  have HMB:=Lib.hid hmb
  clear hW5 hmb hmm
  have t0:=HAT.out.at_ 0 _ rfl
  have t1:=HAT.out.at_ 1 _ rfl
  have HLM:Hid (xb≤mb):=by have:=HB4.out.size; have:=HMB.out; have:=HXB.out; unfold Hid; omega
  have HYN:Hid (y.length≤6):=HFY.out.len
  go_wp2
  clear t0 t1
  go_loopw [26] (fun v W=>∃ i:Nat,i≤y.length∧v=.int .i64 i∧Hid (NumAt W mb ((y.take i).map MPack.name))∧Hid (But (fun k=>k=mb) W5 W)) (fun v _=>y.length - (intOf v).toNat)
  case atStart=>exact ⟨0,Nat.zero_le _,rfl,by unfold Hid; rw [List.take_zero]; exact HNUM.out,But.refl _ _⟩
  case round =>
   rename World=>wk
   obtain ⟨i,hi,rfl,HNK,HBT⟩:=hrel
   have HATK:Hid (AtV wk (mb+1) [.slice A5 y.length c5,.map (some mb)]):=⟨Nat.lt_of_lt_of_le HAT.out.lt HBT.out.size,fun o=>(HBT.out.frozen HAT.out.lt (by omega)).trans (HAT.out.fr o),fun j u hu=>(HBT.out.cell HAT.out.lt (by omega)).trans (HAT.out.at_ j u hu)⟩
   have HYK:Hid (PRow wk (LtB mb) A5 y.length y):=HY5.out.keep (Copy.keep_but HBT.out fun g hg e=>by subst e; exact Nat.lt_irrefl _ hg)
   by_cases hlt:i<y.length
   ·obtain ⟨b,o,rfl,_,hbl,hcs⟩:=HYK.out.row.at_ hlt
    have hmem:y.getD i default ∈ y:=by rw [List.getD_eq_getElem?_getD,List.getElem?_eq_getElem hlt]; exact List.getElem_mem _
    have HSH:Hid ((y.getD i default).name.length≤maxLen):=(HYK.out.ok _ hmem).short
    have HTK:Hid ((y.take (i+1)).map MPack.name=(y.take i).map MPack.name ++ [(y.getD i default).name]):=by
     unfold Hid
     rw [List.take_add_one,List.map_append,List.getD_eq_getElem?_getD]
     simp [List.getElem?_eq_getElem hlt]
    have HNI:Hid ((y.getD i default).name ∉ (y.take i).map MPack.name):=fun hm=>by
     have hpw:=HOK.out.names
     rw [List.pairwise_map] at hpw
     obtain ⟨p,hp,hpe⟩:=List.mem_map.1 hm
     obtain ⟨j,hj,rfl⟩:=List.mem_take_iff_getElem.1 hp
     have:=List.pairwise_iff_getElem.1 hpw j i (by omega) hlt (by omega)
     rw [List.getD_eq_getElem?_getD,List.getElem?_eq_getElem hlt] at hpe
     have e2:y[j].name=y[i].name:=hpe
     have h3:y[j].name<y[i].name:=this
     rw [e2] at h3
     exact List.lt_irrefl _ h3
    generalize y.getD i default=q at hcs HSH HTK HNI
    have q0:wk.cell? ⟨b,o+i * 2,none⟩=some (.string (Ident.mk q.name)):=hcs 0 _ rfl
    have q1:wk.cell? ⟨b,o+i * 2+1,none⟩=some (.slice q.R q.rels.length q.rc):=hcs 1 _ rfl
    clear hcs hmem
    go_upto_region 8 with (fail)
    have hb6:Below wk.heap.size wk (wk.alloc (.cells #[.string (Ident.mk q.name),.slice q.R q.rels.length q.rc] 48)):=(Below.refl _ _).alloc (Nat.le_refl _) _
    have HP6:Hid (AtV (wk.alloc (.cells #[.string (Ident.mk q.name),.slice q.R q.rels.length q.rc] 48)) wk.heap.size [.string (Ident.mk q.name),.slice q.R q.rels.length q.rc]):=AtV.new wk _ _
    have HA6:=Lib.hid (HATK.out.kept hb6 HATK.out.lt)
    have HN6:=Lib.hid (HNK.out.kept hb6 HNK.out.lt)
    have HBT6:Hid (But (fun k=>k=mb) W5 (wk.alloc (.cells #[.string (Ident.mk q.name),.slice q.R q.rels.length q.rc] 48))):=HBT.out.alloc _
    have HPB:Hid (wk.heap.size≠mb):=fun e=>by have:=HNK.out.lt; omega
    generalize wk.alloc (.cells #[.string (Ident.mk q.name),.slice q.R q.rels.length q.rc] 48)=W6 at HP6 HA6 HN6 HBT6 ⊢
    clear hb6 q0 q1 HNK HBT HATK HYK
    obtain ⟨pb,hpb⟩:∃ pb,wk.heap.size=pb:=⟨_,rfl⟩
    rw [hpb] at HP6 HPB
    try rw [hpb]
    clear hpb
    have t1:=HA6.out.at_ 1 _ rfl
    have p0:=HP6.out.at_ 0 _ rfl
    have lt1:=HA6.out.lt
    have lp:=HP6.out.lt
    have H0:Hid (Below W6.heap.size W6 W6.drew):=(Below.refl _ _).drew
    have hS0:But (fun k=>k=mb) W6 W6.drew:=(But.refl _ _).drew
    refine wp_region_held_drew (S:=fun w'=>But (fun k=>k=mb) W6 w') (by kernel_rfl) hS0 (fun hHeld=>?_)
    have HS0:=Lib.hid hS0
    clear hS0
    generalize W6.drew=wd at H0 HS0 hHeld ⊢
    refine tk 0 rfl (.pointer (some ⟨mb+1,0,none⟩)) ?_
    refine tk 1 rfl (.pointer (some ⟨mb+1,0,none⟩)) ?_
    refine tk 2 rfl (.pointer (some ⟨mb+1,1,none⟩)) ?_
    refine tk 3 rfl (.map (some mb)) ?_ (hv:=fun w' hS'=>by (have z0:=(hS'.cell (b:=mb+1) (o:=1) lt1 (by omega)).trans t1); go_simp)
    refine tk 4 rfl (.pointer (some ⟨pb,0,none⟩)) ?_
    refine tk 5 rfl (.string (Ident.mk q.name)) ?_ (hv:=fun w' hS'=>by (have z0:=(hS'.cell (b:=pb) (o:=0) lp HPB.out).trans p0); go_simp)
    refine tk 6 rfl (.int .i64 i) ?_
    obtain ⟨D,hown,hN⟩:=HN6.out.kept H0.out HN6.out.lt
    have hkey:keyOf Tryz.prog 9 (.string (Ident.mk q.name))=some (.string q.name):=by have:=strKey (s:=Ident.mk q.name) (by rw [mk_size]; exact HSH.out); rwa [mk_list] at this
    have hi6:=HYN.out
    have hlen:((y.take i).map MPack.name).length=i:=by rw [List.length_map,List.length_take]; omega
    obtain ⟨w7,hrun,hown7,hgrow7⟩:=hown.update (t:=107) (e:=3) strKeyed Tryz.underlying107 (by rw [hlen]; unfold maxLen; omega) hkey (val:=.int .i64 i) (plainElem_int Tryz.underlying3 (WalkArith.wf_i64 (by omega)))
    have HN7:Hid (NumAt w7 mb ((y.take (i+1)).map MPack.name)):=by
     unfold Hid
     rw [HTK.out]
     have hadd:=hN.add HNI.out
     rw [hlen] at hadd
     exact ⟨_,by rw [List.length_append,List.length_singleton]; exact hown7,hadd⟩
    have hbt7:But (fun k=>k=mb) wd w7:=But.of_grown (T:=fun k=>k=mb) hgrow7 fun b e=>by cases e; rfl
    have HBT7:Hid (But (fun k=>k=mb) W5 w7):=(HBT6.out.trans (But.of_same H0.out fun k=>k=mb) fun j e=>.inl e).trans hbt7 fun j e=>.inl e
    refine cl 7 rfl fun K hK=>?_
    refine region_update (by rfl) _ _ _ _ rfl rfl rfl rfl hrun ?_
    refine hK.out _ _ (HS0.out.trans hbt7 fun j e=>.inl e) (fun hHeld2=>?_)
    clear hK K hown hN hrun hown7 hgrow7 hbt7 hkey hlen t1 p0 lt1 lp
    try simp only [Act.put]
    refine wpAnyH_done (by kernel_rfl) ?_ _
    clear hHeld hHeld2
    go_wp2
    exact ⟨⟨i+1,by omega,by go_num,HN7.out,HBT7.out⟩,by simp [intOf]; omega⟩
   ·obtain rfl:i=y.length:=by omega
    rw [List.take_length] at HNK
    have HBE:Hid (Below w.heap.size w wk):=HB5.out.trans (HBT.out.below (B:=w.heap.size) (fun k e=>by have:=HLM.out; have:=HXB.out; omega) HB5.out.size)
    have HTB:Hid (Tbl wk (mb+1) mb A5 y.length c5 y):=⟨HATK.out,HYK.out.mono fun g hg _=>Nat.lt_trans (show g<mb from hg) HNK.out.lt,HNK.out,OY.out,HFY.out,HOK.out⟩
    go_wp2
    go_ret
    exact ⟨fun _=>⟨mb+1,mb,A5,c5,y,rfl,HTB.out,HPL.out⟩,fun h=>absurd HN.out h,HBE.out⟩
 ·have HN:Hid (ck≠none):=fun h=>h4 (HZ.out.2 h)
  have hne:(q4 != 0)=true:=by simpa using h4
  clear h4
  go_wp2
  go_ret
  exact ⟨fun h=>absurd h HN.out,fun _=>rfl,by first | exact HB2.out | exact HXB.out ▸ HB2.out⟩
end Go.Proofs.YtgakcdcfblgagaaGreatDoor.Rank
namespace Go.Proofs.YtgakcdcfblgagaaGreatDoor.Rank
open Go.RowKit Num Ident Semver Fr
open Range (KeepS LtB)
open KR (KRow AtV)

def fl (k:Nat):Nat:=floatOfInt .f64 (k:Int)
theorem fl_zero:fl 0=0:=by decide +kernel
theorem fl_eq_all:∀ a,a<10→∀ b,b<10→(FloatKind.f64.format.order (fl a) (fl b) == some .eq)=decide (a=b):=by decide +kernel
theorem fl_int_all:∀ a,a<10→floatToIntVal .f64 (fl a) .i64=some (a:Int):=by decide +kernel
theorem fl_add_all:∀ a,a<10→∀ b,b<9→cSumBits .add .f64 (fl a) (fl b) 0 4607182418800017408=some (fl a,fl (b+1)):=by decide +kernel
theorem fl_eq {a b:Nat} (ha:a<10) (hb:b<10):(FloatKind.f64.format.order (fl a) (fl b) == some .eq)=decide (a=b):=fl_eq_all a ha b hb
theorem fl_ne {a b:Nat} (ha:a<10) (hb:b<10):(FloatKind.f64.format.order (fl a) (fl b) != some .eq)=decide (a≠b):=by
 have:=fl_eq_all a ha b hb
 rw [bne,this]
 by_cases h:a=b <;> simp [h]
def rvals (r:Nat × Nat):List Value:=[.int .i64 r.1,.int .i64 r.2]
theorem rvals_len (r:Nat × Nat):(rvals r).length=2:=rfl
theorem rvals_one (r:Nat × Nat):∀ u ∈ rvals r,u.oneCell'=true:=by
 intro u hu
 simp only [rvals,List.mem_cons,List.not_mem_nil,or_false] at hu
 rcases hu with rfl | rfl <;> rfl
theorem runInfo:(Tryz.prog.info? 73).map (fun i=>(i.zero,i.size,i.bytes))=some (some (.agg #[.int .i64 0,.int .i64 0]),2,16):=by kernel_rfl
theorem wpList_app {P:Program} {w:World} {ops:Array Oper} {rest:List Oper} {o:Oper} {a:Act} {Q:Exit→Act→World→Prop} {T:TypeId} {s x:Operand} {sv xv v':Value} {w':World} (hgd:o.guard=none)
  (ho:o.op=.call { callee:=.builtin .append,args:=#[s,x],argTypes:=#[T,T] }) (hs:a.eval s=sv) (hx:a.eval x=xv) (hrun:(Builtin.append_ #[T,T] o.type #[sv,xv]).run P w=.ok v' w')
  (h:wpList P ops Q rest (a.put o.dst v') w'):wpList P ops Q (o :: rest) a w:=by
 refine wpList_plain hgd fun K hK=>?_
 unfold Oper.wp execOp
 simp only [ho,resolve,invoke,builtin,Sem.run_bind,Sem.run_pure,Result.andThen_ok,List.map_toArray,List.map_cons,List.map_nil,hs,hx,hrun]
 exact hK _ _ h
def WithPost (base:Nat) (l:List (Nat × Nat)) (w:World) (e:Ending) (w':World):Prop :=
 ∃ v',e=.returned v'∧w'.ownsRow base 73 2 v' l.length (l.flatMap rvals)∧Below base w w'
theorem with_any (base:Nat) (v:Value) (l:List (Nat × Nat)) (a b:Nat) (w:World) (ho:w.ownsRow base 73 2 v l.length (l.flatMap rvals)) (ha:a<10) (hb:b<10) (hn:l.length≤1000) (hbase:base≤w.heap.size) :
  Calls Tryz.prog 66 #[v,.complex .f64 (fl a) (fl b)] w (WithPost base (withR l (a,b)) w):=by
 have HO:=Lib.hid ho
 have HE:=Lib.hid (fl_eq ha hb)
 have HIA:∀ w:World,(convert 129 3 (.float .f64 (fl a))).run Tryz.prog w=.ok (.int .i64 a) w:=fun w=>run_convert_float_int w _ _ _ _ _ _ (by kernel_rfl) (by kernel_rfl) (fl_int_all a ha)
 have HIB:∀ w:World,(convert 129 3 (.float .f64 (fl b))).run Tryz.prog w=.ok (.int .i64 b) w:=fun w=>run_convert_float_int w _ _ _ _ _ _ (by kernel_rfl) (by kernel_rfl) (fl_int_all b hb)
 clear ho
 generalize fl a=fa at HE HIA HIB ⊢
 generalize fl b=fb at HE HIA HIB ⊢
 obtain ⟨A,c,hv,hnc,hz,hrow⟩:=KRow.of_own (vals:=rvals) (S:=fun _=>True) rvals_len HO.out rfl (fun _ _ _=>trivial)
 subst hv
 clear hnc hz hrow
 unfold WithPost
 obtain ⟨l',hl'⟩:∃ l',withR l (a,b)=l':=⟨_,rfl⟩
 have HL':=Lib.hid hl'
 rw [hl']
 clear hl'
 go_enter Tryz.func66,Tryz.ntmps66
 by_cases hab:a=b
 ·have he:(FloatKind.f64.format.order fa fb == some .eq)=true:=by rw [HE.out]; exact decide_eq_true hab
  have HLE:Hid (l'=l):=by unfold Hid; rw [← HL'.out]; unfold withR; rw [if_pos hab]
  go_wp2
  go_ret
  exact ⟨_,rfl,by rw [HLE.out]; exact HO.out,Below.refl _ _⟩
 ·have he:(FloatKind.f64.format.order fa fb == some .eq)=false:=by rw [HE.out]; exact decide_eq_false hab
  have HLE:Hid (l'=l ++ [(a,b)]):=by unfold Hid; rw [← HL'.out]; unfold withR; rw [if_neg hab]
  have hal:But (fun _=>False) w (w.alloc (.cells (rvals (a,b)).toArray 73)):=(But.refl _ _).alloc _
  obtain ⟨v',w',hrun,ho',hg⟩:=KR.run_append_k (bytes:=16) Tryz.underlying68 runInfo rfl rvals_len (by omega) rvals_one (w.alloc (.cells (rvals (a,b)).toArray 73)) 68 base (.slice A l.length c) l.length l (own_but HO.out hal (fun _ _ h=>h)) (S:=LtB (w.heap.size+1)) (some ⟨w.heap.size,0,none⟩) 1 1 [(a,b)] (krow_one w _ _ (by omega)) (fun e=>by cases e) (by unfold maxLen; omega) (by omega) (by rw [size_alloc]; omega)
  have HB:Hid (Below base w w'):=((Below.refl base w).alloc hbase _).grown hg (by rw [size_alloc]; omega) (fun k hk=>(HO.out.lt k hk).1)
  have HO':=Lib.hid ho'
  clear ho' hg hal
  unfold rvals at hrun
  go_wp2_with (first | (at_builtin; refine wpList_app rfl rfl rfl rfl hrun ?_) | go_in)
  go_wp2
  go_ret
  exact ⟨_,rfl,by rw [HLE.out,List.length_append]; exact HO'.out,HB.out⟩
end Go.Proofs.YtgakcdcfblgagaaGreatDoor.Rank
namespace Go.Proofs.YtgakcdcfblgagaaGreatDoor.Rank
open Go.RowKit Num Ident Semver Fr Copy
open Range (Rng goodR KeepS LtB RV RAt wt)
open KR (KRow AtV)
open Model (MVer VerOk MRel MPack PRel PPack)
open Prec (fullV Fit)
open Span (Sp Norm RSp RCut SpRow LiesS SetIn hasV hasOne cmpC behindOf aheadOf)
open Nrm (SetOf OfPost of_any)

def vk (q:MPack) (k:Nat):MVer:=(q.rels.getD k default).ver
def fk (o:List Sp) (q:MPack) (k:Nat):Bool:=hasV o (vk q k).v
def SetP (r:Rng) (o:List Sp):Prop:=if goodR r 0=true then SetOf r o else o=[]
theorem SetP.norm {r:Rng} {o:List Sp} (h:SetP r o):Norm o:=by
 unfold SetP at h
 split at h
 ·exact h.1
 ·rw [h]; exact Norm.nil
theorem vk_good {W:World} {tb mb:Nat} {A:Option Addr} {n c:Nat} {y:List MPack} {p:Int} (h:Tbl W tb mb A n c y) (k:Nat) (hk:k<(packM y p).rels.length):goodV (vk (packM y p) k).v=true:=by
 by_cases hp:0≤p∧p<y.length
 ·obtain ⟨i,rfl⟩:∃ k:Nat,p=(k:Int):=⟨p.toNat,by omega⟩
  have hi:i<y.length:=by omega
  rw [packM_in hi] at hk ⊢
  have hm:y.getD i default ∈ y:=by rw [List.getD_eq_getElem?_getD,List.getElem?_eq_getElem hi]; exact List.getElem_mem _
  have hm2:(y.getD i default).rels.getD k default ∈ (y.getD i default).rels:=by rw [List.getD_eq_getElem?_getD (l:=(y.getD i default).rels),List.getElem?_eq_getElem hk]; exact List.getElem_mem _
  exact ((h.ok.right.2.1 _ (List.mem_map.2 ⟨_,hm,rfl⟩)).2.1 _ (List.mem_map.2 ⟨_,hm2,rfl⟩)).1
 ·rw [packM_out (by omega)] at hk
  exact absurd hk (Nat.not_lt_zero k)
theorem vk_up {W:World} {tb mb:Nat} {A:Option Addr} {n c:Nat} {y:List MPack} {p:Int} (h:Tbl W tb mb A n c y) (i j:Nat) (hij:i<j) (hj:j<(packM y p).rels.length):fullV (vk (packM y p) i).v (vk (packM y p) j).v<0:=by
 have:=pwD (h.pack p).2.2.2.2 hij (by rw [List.length_map]; exact hj)
 unfold vk
 rw [rels_getD,rels_getD] at this
 exact this
theorem sp_one {w:World} {A:Option Addr} {n:Nat} {l:List RSp} (h:SpRow w A n l) (h0:0<n):SpRow w A 1 (l.take 1):=by
 obtain ⟨h1,h2,h3⟩:=h
 obtain ⟨b,o,e,hb,hc⟩:=h3 h0
 obtain ⟨s,l,rfl⟩:∃ s r,l=s :: r:=by
  cases l with
  | nil=>simp at h1; omega
  | cons s r=>exact ⟨s,r,rfl⟩
 refine ⟨rfl,fun x hx=>h2 x (List.mem_of_mem_take hx),fun _=>⟨b,o,e,hb,fun j hj i v hv=>?_⟩⟩
 obtain rfl:j=0:=by omega
 exact hc 0 h0 i v hv
def RunsPost (q:MPack) (r:Rng) (w:World) (e:Ending) (w':World):Prop :=
 ∃ (o:List Sp) (B:Nat) (V:Value),e=.returned V∧SetP r o∧w.heap.size≤B∧w'.ownsRow B 73 2 V (runsTo (fk o q) q.rels.length).length ((runsTo (fk o q) q.rels.length).flatMap rvals)∧Below w.heap.size w w'
structure RunsIn (W1:World) (q:MPack) (o:List Sp) (P:Option Addr) (m c:Nat) (l':List RSp) (V:Value) (k a b:Nat) (done:List (Nat × Nat)) (W:World):Prop where
 row:SpRow W1 P m l'
 mc:m≤c
 nn:P=none→c=0
 m5:m≤5000
 past:∃ d,o=d ++ l'.map RSp.sp∧∀ j,k≤j→j<q.rels.length→Past d (vk q j).v
 kn:k≤q.rels.length
 run:RunAt (fk o q) k done a b
 own:W.ownsRow W1.heap.size 73 2 V done.length (done.flatMap rvals)
 bw:Below W1.heap.size W1 W
def RunsJ (W0:World) (tb xb:Nat) (p:Int) (x:RV) (q:MPack) (r:Rng) (a':Act) (W:World):Prop :=
 ∃ (W1:World) (o:List Sp) (P:Option Addr) (m c:Nat) (l':List RSp) (V:Value) (k a b:Nat) (done:List (Nat × Nat)) (u12 u13 u14 u15 u16 u17 u18 u19 u20 u21 u22 u23 u24 u25 u26 u27 u28 u29 u30 u31 u32 u33 u34 u35 u36 u37 u38 u39 u40 u41 u42 u43 u44 u45 u46 u47 u48 u49 u50 u51 u52 u53 u54 u55 u56 u57 u58 u59 u60 u61:Value),Below W0.heap.size W0 W1∧SetP r o∧RunsIn W1 q o P m c l' V k a b done W ∧
  a'={ tmps:=#[.pointer (some ⟨tb,0,none⟩),.int .i64 p,.agg #[x.kind,x.v.a,x.v.b,x.v.c,.slice x.A x.v.pre.length x.c,.slice x.B x.v.build.length x.d,.slice x.L x.n x.e],undef,undef,.pointer (some ⟨xb,0,none⟩),.slice none 0 0,.slice q.R q.rels.length q.rc,.slice P m c,V,.complex .f64 (fl a) (fl b),.int .i64 k,u12,u13,u14,u15,u16,u17,u18,u19,u20,u21,u22,u23,u24,u25,u26,u27,u28,u29,u30,u31,u32,u33,u34,u35,u36,u37,u38,u39,u40,u41,u42,u43,u44,u45,u46,u47,u48,u49,u50,u51,u52,u53,u54,u55,u56,u57,u58,u59,u60,u61],defers:=[] }
def RunsM (n:Nat) (a':Act) (_:World):Nat:=n - (intOf (a'.tmps.getD 11 undef)).toNat
theorem runs_any (tb mb:Nat) (A:Option Addr) (n c:Nat) (y:List MPack) (p:Int) (r:Rng) (x:RV) (B:Nat) (w:World) (h:Tbl w tb mb A n c y) (hx:Range.Lies w (LtB B) r x) (hB:B≤w.heap.size) (hlo:Range.LenOk r) (hw:goodR r 0=true→wt r≤1500) :
  Calls Tryz.prog 31 #[.pointer (some ⟨tb,0,none⟩),.int .i64 p,x.agg] w (RunsPost (packM y p) r w):=by
 obtain ⟨W0,hW,h1,hb⟩:∃ W,W=w.alloc x∧RAt W w.heap.size x∧Below w.heap.size w W:=⟨_,rfl,RAt.new w _ x,(Below.refl _ _).alloc (Nat.le_refl _) _⟩
 have HXA:=Lib.hid h1
 have HB:=Lib.hid hb
 have H:=Lib.hid (h.kept hb)
 have HL:Hid (∀ wd,Below W0.heap.size W0 wd→Calls Tryz.prog 65 #[x.agg] wd (OfPost wd r)):=fun wd hd=>of_any r x B wd ((hx.keep (KeepS.of_below (S:=LtB B) hb)).keep (KeepS.of_below hd)) (Nat.le_trans hB (Nat.le_trans hb.size hd.size)) hlo hw
 have HC:Hid (∀ wd,Below W0.heap.size W0 wd→Calls Tryz.prog 58 #[.pointer (some ⟨tb,0,none⟩),.int .i64 p] wd fun e w'=>e=.returned (packM y p).agg∧Below wd.heap.size wd w'):=fun wd hd=>pack_any tb mb A n c y p wd (H.out.kept hd)
 have HP:=Lib.hid (H.out.pack p)
 have HW5:Hid (3 * wt r - 1≤5000∨goodR r 0=false):=by
  by_cases g:goodR r 0=true
  ·exact .inl (by have:=hw g; omega)
  ·exact .inr (by simpa using g)
 have HG:Hid (∀ k,k<(packM y p).rels.length→goodV (vk (packM y p) k).v=true):=vk_good h
 have HUP:Hid (∀ i j,i<j→j<(packM y p).rels.length→fullV (vk (packM y p) i).v (vk (packM y p) j).v<0):=vk_up h
 clear h h1 hb hx hlo hw H
 generalize packM y p=q at HC HP HG HUP ⊢
 unfold MPack.agg at HC
 unfold RV.agg at HL ⊢
 obtain ⟨xb,hxb⟩:∃ xb,w.heap.size=xb:=⟨_,rfl⟩
 have HXB:=Lib.hid hxb
 unfold RunsPost
 go_enter Tryz.func31,Tryz.ntmps31
 go_wp2
 refine wp_scope_back 0 (RunsJ W0 tb xb p x q r) (RunsM q.rels.length) rfl ?_ ?_
 ·rintro a' W ⟨W1,o,P',m,c',l',V,k,a,b,done,u12,u13,u14,u15,u16,u17,u18,u19,u20,u21,u22,u23,u24,u25,u26,u27,u28,u29,u30,u31,u32,u33,u34,u35,u36,u37,u38,u39,u40,u41,u42,u43,u44,u45,u46,u47,u48,u49,u50,u51,u52,u53,u54,u55,u56,u57,u58,u59,u60,u61,hb1,hset,hin,rfl⟩
  have HB1:=Lib.hid hb1
  have HST:=Lib.hid hset
  have HIN:=Lib.hid hin
  have hk0:=hin.kn
  have hab:a≤b∧b≤k:=⟨hin.run.le,hin.run.up⟩
  have hq6:q.rels.length≤6:=HP.out.2.1
  have HBW:Hid (Below W0.heap.size W0 W):=hb1.trans (hin.bw.mono hb1.size)
  have HDL:Hid (done.length≤6):=by
   have h1:=runsTo_len (fk o q) k
   rw [hin.run.eq] at h1
   unfold withR at h1
   split at h1
   ·exact Nat.le_trans h1 (by omega)
   ·rw [List.length_append] at h1
    exact Nat.le_trans (Nat.le_add_right _ _) (Nat.le_trans h1 (by omega))
  clear hb1 hset hin
  by_cases hkn:k=q.rels.length
  ·have HWA:=Lib.hid (with_any W1.heap.size V done a b W HIN.out.own (by omega) (by omega) (by have:=HDL.out; omega) HIN.out.bw.size)
   have HEQ:=Lib.hid (HIN.out.run.eq)
   subst hkn
   have hdk:decide ((q.rels.length:Int)=(q.rels.length:Int))=true:=decide_eq_true rfl
   have HFIN:Hid (Below w.heap.size w W):=HB.out.trans (HBW.out.mono HB.out.size)
   have HSZ:Hid (w.heap.size≤W1.heap.size):=Nat.le_trans HB.out.size HB1.out.size
   go_wp2_with fail
   refine HWA.out.mono ?_
   rintro e W2 ⟨v',rfl,ho',hbw'⟩
   have HO':=Lib.hid ho'
   have HB2:=Lib.hid hbw'
   clear ho' hbw'
   go_wp2
   simp only [Exit.jump]
   go_ret
   exact ⟨o,W1.heap.size,v',rfl,HST.out,HSZ.out,by rw [HEQ.out]; exact HO'.out,HFIN.out.trans (HB2.out.mono HSZ.out)⟩
  ·have hlt:k<q.rels.length:=by omega
   have hdk:decide ((k:Int)=(q.rels.length:Int))=false:=decide_eq_false (by omega)
   obtain ⟨bb,oo,hRe,_,hbl,hcs⟩:=(HP.out.1.rels.row.keep (KeepS.of_below HBW.out)).at_ hlt
   have hok:VerOk W0 (LtB W0.heap.size) (q.rels.getD k default).ver:=(HP.out.1.rels.ok _ (by rw [List.getD_eq_getElem?_getD,List.getElem?_eq_getElem hlt]; exact List.getElem_mem _)).ver
   obtain ⟨z,hz⟩:∃ z,(q.rels.getD k default).ver=z:=⟨_,rfl⟩
   have HZ:Hid (vk q k=z):=hz
   rw [hz] at hok
   have x0:W.cell? ⟨bb,oo+k * 8,none⟩=some (.int .u64 z.v.a):=by rw [← hz]; exact hcs 0 _ rfl
   have x1:W.cell? ⟨bb,oo+k * 8+1,none⟩=some (.int .u64 z.v.b):=by rw [← hz]; exact hcs 1 _ rfl
   have x2:W.cell? ⟨bb,oo+k * 8+2,none⟩=some (.int .u64 z.v.c):=by rw [← hz]; exact hcs 2 _ rfl
   have x3:W.cell? ⟨bb,oo+k * 8+3,none⟩=some (.slice z.A z.v.pre.length z.c):=by rw [← hz]; exact hcs 3 _ rfl
   have x4:W.cell? ⟨bb,oo+k * 8+4,none⟩=some (.slice z.B z.v.build.length z.d):=by rw [← hz]; exact hcs 4 _ rfl
   clear hcs hz
   have HOK:=Lib.hid (hok.keep (KeepS.of_below HBW.out))
   have HGZ:Hid (goodV z.v=true):=by unfold Hid; rw [← HZ.out]; exact HG.out k hlt
   clear hok
   have HRe:=Lib.hid hRe
   rw [hRe]
   clear hRe
   have HLF:=Lib.hid (left_any P' m c' l' z (LtB W0.heap.size) W1 W HIN.out.row HIN.out.bw HIN.out.mc HIN.out.nn HOK.out)
   unfold MVer.agg at HLF
   go_wp2_with fail
   refine HLF.out.mono ?_
   rintro e W2 ⟨P2,m2,c2,l2,rfl,hr2,hmc2,hz2,hml2,hlf2,hb2⟩
   have HR2:=Lib.hid hr2
   have HC2:=Lib.hid (And.intro hmc2 hz2)
   have HM2:Hid (m2≤5000):=Nat.le_trans hml2 (by have:=HIN.out.row.1; have:=HIN.out.m5; omega)
   have HB2:=Lib.hid hb2
   obtain ⟨d2,hd2,hp2⟩:∃ d',o=d' ++ l2.map RSp.sp∧Past d' z.v:=by
    obtain ⟨d,hd,hp⟩:=HIN.out.past
    have hp':=hp k (Nat.le_refl _) hlt
    rw [HZ.out] at hp'
    rw [hlf2]
    exact left_past HST.out.norm hd hp' HGZ.out
   have HHAS:Hid (((l2.map RSp.sp).take 1).any (hasOne (aheadOf z.v) (behindOf z.v))=fk o q k):=by
    obtain ⟨d,hd,hp⟩:=HIN.out.past
    have hp':=hp k (Nat.le_refl _) hlt
    rw [HZ.out] at hp'
    unfold Hid fk
    rw [hlf2,HZ.out]
    exact left_has HST.out.norm hd hp' HGZ.out
   have HPAST:Hid (∃ d,o=d ++ l2.map RSp.sp∧∀ j,k+1≤j→j<q.rels.length→Past d (vk q j).v) :=
    ⟨d2,hd2,fun j hj hjn=>past_le hp2 (by have:=full_cmp (HUP.out k j hj hjn); rwa [HZ.out] at this)⟩
   clear hr2 hmc2 hz2 hml2 hlf2 hb2 hd2 hp2 HLF
   go_upto_region 8 with (fail)
   have H0:Hid (Below W2.heap.size W2 W2.drew):=(Below.refl _ _).drew
   refine wp_region_held_drew (S:=fun w'=>Below W2.heap.size W2 w') (by kernel_rfl) H0.out (fun hHeld=>?_)
   generalize W2.drew=wd at H0 hHeld ⊢
   by_cases hm:0<m2
   ·obtain ⟨m,rfl⟩:∃ k,m2=k+1:=⟨m2 - 1,by omega⟩
    obtain ⟨b2,o2,hPe,hbl2,_⟩:=HR2.out.2.2 hm
    have HPE:=Lib.hid hPe
    rw [hPe]
    clear hPe
    have hd0:decide ((0:Int)<(m:Int)+1)=true:=decide_eq_true (by omega)
    have hbl3:bb<W2.heap.size:=Nat.lt_of_lt_of_le hbl HB2.out.size
    have y0:=(HB2.out.cell (p:=⟨bb,oo+k * 8,none⟩) hbl).trans x0
    have y1:=(HB2.out.cell (p:=⟨bb,oo+k * 8+1,none⟩) hbl).trans x1
    have y2:=(HB2.out.cell (p:=⟨bb,oo+k * 8+2,none⟩) hbl).trans x2
    have y3:=(HB2.out.cell (p:=⟨bb,oo+k * 8+3,none⟩) hbl).trans x3
    have y4:=(HB2.out.cell (p:=⟨bb,oo+k * 8+4,none⟩) hbl).trans x4
    clear x0 x1 x2 x3 x4
    have hc1:1≤c2:=by have:=HC2.out.1; omega
    have hc2:(1:Int)≤(c2:Int):=by omega
    refine tk 0 rfl (.slice (some ⟨b2,o2,none⟩) (m+1) c2) ?_
    refine tk 1 rfl (.int .i64 ((m:Int)+1)) ?_
    refine tk 2 rfl (.bool true) ?_
    refine tk 3 rfl (.bool true) ?_
    refine tk 4 rfl (.slice (some ⟨b2,o2,none⟩) (m+1) c2) ?_
    refine tk 5 rfl (.slice (some ⟨b2,o2,none⟩) 1 c2) ?_
    refine tk 6 rfl (.slice (some ⟨bb,oo,none⟩) q.rels.length q.rc) ?_
    refine tk 7 rfl (.int .i64 k) ?_
    refine tk 8 rfl (.pointer (some ⟨bb,oo+k * 8,none⟩)) ?_
    refine tk 9 rfl (.pointer (some ⟨bb,oo+k * 8,none⟩)) ?_
    refine tk 10 rfl (.agg #[z.v.a,z.v.b,z.v.c,.slice z.A z.v.pre.length z.c,.slice z.B z.v.build.length z.d]) ?_ (hv:=fun w' hS'=>by (have z0:=(hS'.cell (p:=⟨bb,oo+k * 8,none⟩) hbl3).trans y0); (have z1:=(hS'.cell (p:=⟨bb,oo+k * 8+1,none⟩) hbl3).trans y1); (have z2:=(hS'.cell (p:=⟨bb,oo+k * 8+2,none⟩) hbl3).trans y2); (have z3:=(hS'.cell (p:=⟨bb,oo+k * 8+3,none⟩) hbl3).trans y3); (have z4:=(hS'.cell (p:=⟨bb,oo+k * 8+4,none⟩) hbl3).trans y4); go_simp)
    have hha:=Span.has_any (some ⟨b2,o2,none⟩) 1 c2 (l2.take 1) z.v z.A z.c z.B z.d wd (sp_one (by rw [← HPE.out]; exact (HR2.out.kept HIN.out.bw).kept (HB2.out.trans (H0.out.mono HB2.out.size))) (by omega)) (by omega) ((HOK.out.keep (KeepS.of_below (HB2.out.trans (H0.out.mono HB2.out.size)))).pre) ⟨HOK.out.fit.pre,HOK.out.fit.pres⟩
    rw [List.map_take,HHAS.out] at hha
    refine cl 11 rfl fun K hK=>?_
    go_simp
    refine hha.mono ?_
    rintro e W3 ⟨rfl,hb3⟩
    have H3:=Lib.hid (H0.out.trans (hb3.mono H0.out.size))
    refine hK.out _ _ H3.out (fun hHeld3=>?_)
    clear hK K hb3 y0 y1 y2 y3 y4 hha
    try simp only [Act.put,p1,p2,p3]
    have HBX:Hid (Below W.heap.size W W3):=HB2.out.trans (H3.out.mono HB2.out.size)
    cases hf:fk o q k with
    | false =>
     have HF:=Lib.hid hf
     clear hf
     refine tk 12 rfl (.bool false) ?_
     refine wpAnyH_done (by kernel_rfl) ?_ _
     clear hHeld hHeld3
     go_wp2
     go_step3
     rw [show ((k:Int)+1)=((k+1:Nat):Int) from rfl,← HRe.out,← HPE.out]
     refine ⟨rfl,⟨W1,o,P2,m+1,c2,l2,V,k+1,a,b,done,_,_,_,_,_,_,_,_,_,_,_,_,_,_,_,_,_,_,_,_,_,_,_,_,_,_,_,_,_,_,_,_,_,_,_,_,_,_,_,_,_,_,_,_,_,_,_,_,_,_,HB1.out,HST.out,⟨HR2.out,HC2.out.1,HC2.out.2,HM2.out,HPAST.out,hlt,HIN.out.run.no HF.out,own_below HIN.out.own HBX.out,HIN.out.bw.trans (HBX.out.mono HIN.out.bw.size)⟩,rfl⟩,?_⟩
     simp [RunsM,intOf]; omega
    | true =>
     have HF:=Lib.hid hf
     clear hf
     refine tk 12 rfl (.bool true) ?_
     refine wpAnyH_done (by kernel_rfl) ?_ _
     clear hHeld hHeld3
     have he1:floatOfInt .f64 (k:Int)=fl k:=rfl
     by_cases hbk:b=k
     ·have hne:(FloatKind.f64.format.order (fl b) (fl k) != some .eq)=false:=by rw [fl_ne (by omega) (by omega)]; exact decide_eq_false (by omega)
      have hadd:∀ w:World,(binOp .add 125 (.complex .f64 (fl a) (fl b)) (.complex .f64 0 4607182418800017408)).run Tryz.prog w=.ok (.complex .f64 (fl a) (fl (b+1))) w:=fun w=>run_complex_sum w .add (.inl rfl) _ .f64 _ _ _ _ _ _ (fl_add_all a (by omega) b (by omega))
      have HRUN:Hid (RunAt (fk o q) (k+1) done a (b+1)):=by
       have h:=HIN.out.run
       rw [hbk] at h
       unfold Hid
       rw [hbk]
       exact h.same HF.out
      clear hbk
      go_wp2
      go_step3
      rw [show ((k:Int)+1)=((k+1:Nat):Int) from rfl,← HRe.out,← HPE.out]
      refine ⟨rfl,⟨W1,o,P2,m+1,c2,l2,V,k+1,a,b+1,done,_,_,_,_,_,_,_,_,_,_,_,_,_,_,_,_,_,_,_,_,_,_,_,_,_,_,_,_,_,_,_,_,_,_,_,_,_,_,_,_,_,_,_,_,_,_,_,_,_,_,HB1.out,HST.out,⟨HR2.out,HC2.out.1,HC2.out.2,HM2.out,HPAST.out,hlt,HRUN.out,own_below HIN.out.own HBX.out,HIN.out.bw.trans (HBX.out.mono HIN.out.bw.size)⟩,rfl⟩,?_⟩
      simp [RunsM,intOf]; omega
     ·have hne:(FloatKind.f64.format.order (fl b) (fl k) != some .eq)=true:=by rw [fl_ne (by omega) (by omega)]; exact decide_eq_true (by omega)
      have hadd:∀ w:World,(binOp .add 125 (.complex .f64 (fl k) (fl k)) (.complex .f64 0 4607182418800017408)).run Tryz.prog w=.ok (.complex .f64 (fl k) (fl (k+1))) w:=fun w=>run_complex_sum w .add (.inl rfl) _ .f64 _ _ _ _ _ _ (fl_add_all k (by omega) k (by omega))
      have HRUN:Hid (RunAt (fk o q) (k+1) (withR done (a,b)) k (k+1)):=HIN.out.run.new hbk HF.out
      have HB5:Hid (Below W1.heap.size W1 W3):=HIN.out.bw.trans (HBX.out.mono HIN.out.bw.size)
      have HWA:=Lib.hid (with_any W1.heap.size V done a b W3 (own_below HIN.out.own HBX.out) (by omega) (by omega) (by have:=HDL.out; omega) HB5.out.size)
      clear hbk
      go_wp2_with fail
      refine HWA.out.mono ?_
      rintro e W4 ⟨v',rfl,ho',hbw'⟩
      have HO':=Lib.hid ho'
      have HB4:=Lib.hid hbw'
      clear ho' hbw'
      go_wp2
      go_step3
      rw [show ((k:Int)+1)=((k+1:Nat):Int) from rfl,← HRe.out,← HPE.out]
      refine ⟨rfl,⟨W1,o,P2,m+1,c2,l2,v',k+1,k,k+1,withR done (a,b),_,_,_,_,_,_,_,_,_,_,_,_,_,_,_,_,_,_,_,_,_,_,_,_,_,_,_,_,_,_,_,_,_,_,_,_,_,_,_,_,_,_,_,_,_,_,_,_,_,_,HB1.out,HST.out,⟨HR2.out,HC2.out.1,HC2.out.2,HM2.out,HPAST.out,hlt,HRUN.out,HO'.out,HB5.out.trans HB4.out⟩,rfl⟩,?_⟩
      simp [RunsM,intOf]; omega
   ·obtain rfl:m2=0:=by omega
    have hl0:l2=[]:=List.eq_nil_of_length_eq_zero HR2.out.1
    have HF:Hid (fk o q k=false):=by unfold Hid; rw [← HHAS.out,hl0]; rfl
    have HBX:Hid (Below W.heap.size W wd):=HB2.out.trans (H0.out.mono HB2.out.size)
    clear hl0
    refine tk 0 rfl (.slice P2 0 c2) ?_
    refine tk 1 rfl (.int .i64 0) ?_
    refine tk 2 rfl (.bool false) ?_
    refine tk 3 rfl (.bool false) ?_
    refine sk 4 rfl ?_
    refine sk 5 rfl ?_
    refine sk 6 rfl ?_
    refine sk 7 rfl ?_
    refine sk 8 rfl ?_
    refine sk 9 rfl ?_
    refine sk 10 rfl ?_
    refine sk 11 rfl ?_
    refine tk 12 rfl (.bool false) ?_
    refine wpAnyH_done (by kernel_rfl) ?_ _
    clear hHeld
    go_wp2
    go_step3
    rw [show ((k:Int)+1)=((k+1:Nat):Int) from rfl,← HRe.out]
    refine ⟨rfl,⟨W1,o,P2,0,c2,l2,V,k+1,a,b,done,_,_,_,_,_,_,_,_,_,_,_,_,_,_,_,_,_,_,_,_,_,_,_,_,_,_,_,_,_,_,_,_,_,_,_,_,_,_,_,_,_,_,_,_,_,_,_,_,_,_,HB1.out,HST.out,⟨HR2.out,HC2.out.1,HC2.out.2,HM2.out,HPAST.out,hlt,HIN.out.run.no HF.out,own_below HIN.out.own HBX.out,HIN.out.bw.trans (HBX.out.mono HIN.out.bw.size)⟩,rfl⟩,?_⟩
    simp [RunsM,intOf]; omega
 ·intro HPP
  go_upto_region 1 with (fail)
  rw [← hW]
  rw [hxb] at HXA
  try rw [hxb]
  clear hW hxb
  obtain ⟨y1,y2,c0,c1,c2,c3,c4,c5,c6⟩:=HXA.out
  have pf1:=packField1
  have H0:Hid (Below W0.heap.size W0 W0.drew):=(Below.refl _ _).drew
  refine wp_region_held_drew (S:=fun w'=>Below W0.heap.size W0 w') (by kernel_rfl) H0.out (fun hHeld=>?_)
  generalize W0.drew=wd at H0 hHeld ⊢
  refine tk 0 rfl (.pointer (some ⟨tb,0,none⟩)) ?_
  refine tk 1 rfl (.int .i64 p) ?_
  refine tk 4 rfl x ?_ (hv:=fun w' hS'=>by (have z0:=(hS'.cell (p:=⟨xb,0,none⟩) y1).trans c0); (have z1:=(hS'.cell (p:=⟨xb,1,none⟩) y1).trans c1); (have z2:=(hS'.cell (p:=⟨xb,2,none⟩) y1).trans c2); (have z3:=(hS'.cell (p:=⟨xb,3,none⟩) y1).trans c3); (have z4:=(hS'.cell (p:=⟨xb,4,none⟩) y1).trans c4); (have z5:=(hS'.cell (p:=⟨xb,5,none⟩) y1).trans c5); (have z6:=(hS'.cell (p:=⟨xb,6,none⟩) y1).trans c6); go_simp)
  refine cl 2 rfl fun K hK=>?_
  go_simp
  refine (HC.out wd H0.out).mono ?_
  rintro e W2 ⟨rfl,hb2⟩
  have H2:=Lib.hid (H0.out.trans (hb2.mono H0.out.size))
  refine hK.out _ _ H2.out (fun hHeld2=>?_)
  clear hK K hb2 c0 c1 c2 c3 c4 c5 c6
  try simp only [Act.put,p1,p2,p3]
  refine tk 3 rfl (.slice q.R q.rels.length q.rc) ?_
  refine cl 5 rfl fun K hK=>?_
  go_simp
  refine (HL.out W2 H2.out).mono ?_
  rintro e W3 ⟨P0,m0,cc0,out0,rfl,hr0,hm0,hP0,_,hmc0,hz0,hb3⟩
  have H3:=Lib.hid (H2.out.trans (hb3.mono H2.out.size))
  have HRow:=Lib.hid hr0
  have HSet:Hid (SetP r (out0.map RSp.sp)):=hP0
  have HMc:=Lib.hid (And.intro hmc0 hz0)
  have HM0:=Lib.hid hm0
  refine hK.out _ _ H3.out (fun hHeld3=>?_)
  clear hK K hb3 hr0 hP0 hmc0 hz0 hm0
  try simp only [Act.put,p1,p2,p3]
  refine tk 6 rfl (.slice q.R q.rels.length q.rc) ?_
  refine tk 7 rfl (.slice P0 m0 cc0) ?_
  refine wpAnyH_done (by kernel_rfl) ?_ _
  clear hHeld hHeld2 hHeld3
  go_wp2
  have HMZ:Hid (m0≤5000):=by
   rcases HW5.out with g | g
   ·exact Nat.le_trans HM0.out g
   ·have h:=HSet.out
    unfold SetP at h
    rw [if_neg (by rw [g]; exact Bool.false_ne_true)] at h
    have h2:=HRow.out.1
    have h3:=congrArg List.length h
    rw [List.length_map] at h3
    have h4:([]:List Sp).length=0:=rfl
    unfold Hid
    omega
  go_step3
  rename_i hK
  rw [show Value.complex FloatKind.f64 0 0=Value.complex FloatKind.f64 (fl 0) (fl 0) by rw [fl_zero]]
  refine hK _ _ (HPP _ _ ⟨W3,out0.map RSp.sp,P0,m0,cc0,out0,.slice none 0 0,0,0,0,[],_,_,_,_,_,_,_,_,_,_,_,_,_,_,_,_,_,_,_,_,_,_,_,_,_,_,_,_,_,_,_,_,_,_,_,_,_,_,_,_,_,_,_,_,_,_,_,_,_,_,H3.out,HSet.out,⟨HRow.out,HMc.out.1,HMc.out.2,HMZ.out,⟨[],rfl,fun j _ _ s hs=>by cases hs⟩,Nat.zero_le _,RunAt.start _,World.ownsRow_nil _ _ _ _,Below.refl _ _⟩,rfl⟩)
end Go.Proofs.YtgakcdcfblgagaaGreatDoor.Rank
