/-
  What the theorem of the last text needs of these: RgText, NmCut, NmGreat. Conditions: as each theorem states.
-/
import Derived.Test.YtgfbflnhjpbceaaGreatDoorSetB1
import Derived.Test.YtgfbflnhjpbceaaGreatDoorSetB8
import Derived.Test.YtgfbflnhjpbceaaGreatDoorSetB18
import Derived.Test.YtgfbflnhjpbceaaGreatDoorSetB20
import Derived.Test.YtgfbflnhjpbceaaGreatDoorSetB22
import Derived.StillTailTactics
import Derived.Deep.CutBlock
import Derived.Deep.DeepCutAuto
import Derived.Deep.RegionHeld3
set_option maxRecDepth 100000
set_option maxHeartbeats 25600000
namespace Go.Proofs.YtgfbflnhjpbceaaGreatDoor.Range
open Go.RowKit Num Ident Semver
theorem tx_frame (t:Array Value) (h:t.size=90):∃ F:Nat→Value,t=#[t.getD 0 undef,t.getD 1 undef,t.getD 2 undef,t.getD 3 undef,t.getD 4 undef,F 5,F 6,F 7,F 8,F 9,F 10,F 11,F 12,F 13,F 14,F 15,F 16,F 17,F 18,F 19,F 20,F 21,F 22,F 23,F 24,F 25,F 26,F 27,F 28,F 29,F 30,F 31,F 32,F 33,F 34,F 35,F 36,F 37,F 38,F 39,F 40,F 41,F 42,F 43,F 44,F 45,F 46,F 47,F 48,F 49,F 50,F 51,F 52,F 53,F 54,F 55,F 56,F 57,F 58,F 59,F 60,F 61,F 62,F 63,F 64,F 65,F 66,F 67,F 68,F 69,F 70,F 71,F 72,F 73,F 74,F 75,F 76,F 77,F 78,F 79,F 80,F 81,F 82,F 83,F 84,F 85,F 86,F 87,F 88,F 89]:=⟨fun i=>t.getD i undef,arr_lit t 90 h⟩
def TxJ (w:World) (r:Rng) (x0:Value) (m:Nat) (a':Act) (W:World):Prop :=
 ∃ (T:List Lv) (v:Value) (bs:List UInt8),Below w.heap.size w W∧TxW w.heap.size W v T bs∧bs ++ restT T=textR r∧lsum T=m∧m≤4000000 ∧
  a'.defers=[]∧a'.tmps.size=90∧a'.tmps.getD 0 undef=x0∧a'.tmps.getD 1 undef=.pointer (some ⟨w.heap.size,0,none⟩)∧a'.tmps.getD 2 undef=.string ⟨#[]⟩∧a'.tmps.getD 3 undef=.pointer (some ⟨w.heap.size+1,0,none⟩)∧a'.tmps.getD 4 undef=v
theorem text_any (r:Rng) (x:RV) (B:Nat) (w:World) (hx:Lies w (LtB B) r x) (hB:B≤w.heap.size) (hg:goodR r 0=true) (hm:wt r≤1000000) (hl:(textR r).length≤30000000) (ht:OpsTab w) (htab:Tab w) :
  Calls Tryz.prog 25 #[x.agg] w fun e w'=>e=.returned (.string (mk (textR r)))∧Below w.heap.size w w':=by
 have HX:=Lib.hid (hx.mono (S':=LtB w.heap.size) fun g hg _=>Nat.lt_of_lt_of_le hg hB)
 have HG:=Lib.hid hg
 have HT:=Lib.hid ht
 have HTab:=Lib.hid htab
 have HLen:=Lib.hid hl
 clear hx hB hg ht htab hl
 unfold RV.agg
 go_enter Tryz.func25,Tryz.ntmps25
 go_wp2_with fail
 have HBa:Hid (Below w.heap.size w (w.alloc x)):=(Below.refl _ _).alloc (Nat.le_refl _) _
 have HRx:Hid (RAt (w.alloc x) w.heap.size x):=RAt.new w _ x
 have HSz:Hid ((w.alloc x).heap.size=w.heap.size+1):=by rw [size_alloc]; rfl
 generalize w.alloc x=W1 at HBa HRx HSz ⊢
 refine wp_scope_back_of 0 (TxJ w r x.agg) rfl ?_ ?_
 ·rintro m ⟨tm,df⟩ W ⟨T,v,bs,hb1,hT,hrest,hsum,hmm,hd,hs,t0,t1,t2,t3,t4⟩
  simp only at hd hs t0 t1 t2 t3 t4
  obtain ⟨F,hF⟩:=tx_frame tm hs
  rw [t0,t1,t2,t3,t4] at hF
  clear t0 t1 t2 t3 t4 hs
  subst hF; subst hd
  have HB1:=Lib.hid hb1
  have HT1:=Lib.hid hT
  have HR1:=Lib.hid hrest
  clear hb1 hT hrest
  by_cases h1:T=[]
  ·subst h1
   have HE:Hid (bs=textR r):=by have:=HR1.out; rwa [restT,List.append_nil] at this
   rcases HT1.out.own.2 with ⟨rfl,_⟩ | ⟨g,cp,cur,rfl,_⟩
   all_goals
    go_wp2_with fail
    refine (Tryz.builderString _ _ bs W HT1.out.bld (by have:=HT1.out.sz; omega)).mono ?_
    rintro e w5 ⟨rfl,_,hb5,_⟩
    have HB5:=Lib.hid (HB1.out.trans (hb5.mono (Nat.le_succ _)))
    clear hb5
    go_wp2
    simp only [Exit.jump]
    go_ret
    exact ⟨by rw [HE.out]; rfl,HB5.out⟩
  ·obtain ⟨R,y,rfl⟩:∃ R y,T=R ++ [y]:=⟨T.dropLast,T.getLast h1,(List.dropLast_concat_getLast h1).symm⟩
   obtain ⟨g,cp,rfl,hg1,hg2,hcp,e0,e1,e2,hfz⟩:=HT1.out.last
   have hRl:R.length<4000000:=by have:=lsum_len (R ++ [y]); rw [lv_length] at this; omega
   have hs1:IntKind.i64.wrap (((R.length+1:Nat):Int) - 1)=(R.length:Int):=by rw [IntKind.wrap_i64] <;> omega
   have hs2:(R.length:Int)<((R.length+1:Nat):Int):=by omega
   have hs3:(0:Int)≤(R.length:Int):=by omega
   clear h1
   have hok:=HT1.out.ok y (by simp)
   obtain ⟨_,hgl,hln,hrk,hk⟩:=right_at hok.lies hok.good
   have hk':(y.x.kind=9∨y.x.kind=10)∨y.x.kind=11∧y.x.n=1∨(y.x.kind≠9∧y.x.kind≠10∧y.x.kind≠11)∧y.x.n=0:=by
    rcases hk with ⟨k1,k2,_,k3⟩ | ⟨_,⟨k1,k2⟩ | ⟨k1,_⟩ | k1⟩
    ·exact .inr (.inr ⟨⟨by omega,by omega,by omega⟩,k3⟩)
    ·exact .inr (.inr ⟨⟨by omega,by omega,by omega⟩,k2⟩)
    ·exact .inl k1
    ·exact .inr (.inl k1)
   have HW:=Lib.hid (within_any y.b y.o y.x W hok.cells hok.lies.says.cap hk')
   have HGL:=Lib.hid hgl
   have hlen:bs.length+y.e.length≤30000000:=by
    have h5:=congrArg List.length HR1.out
    rw [restT_more,lvRest] at h5
    simp only [List.length_append] at h5
    have:=HLen.out
    omega
   have hto:=hok.told
   clear hok hgl hk hk'
   go_wp2_with fail
   refine HW.out.mono ?_
   rintro e W2 ⟨⟨A,c,rfl,hnc,hA⟩,hb⟩
   have HT2:=Lib.hid (HT1.out.below hb)
   have HB2:=Lib.hid (HB1.out.trans (hb.mono HB1.out.size))
   have f0:W2.cell? ⟨g,R.length * 3,none⟩=some (.pointer (some ⟨y.b,y.o,none⟩)):=(hb.cell (p:=⟨g,R.length * 3,none⟩) hg2).trans e0
   have f1:W2.cell? ⟨g,R.length * 3+1,none⟩=some (.int .i64 y.told):=(hb.cell (p:=⟨g,R.length * 3+1,none⟩) hg2).trans e1
   have f2:W2.cell? ⟨g,R.length * 3+2,none⟩=some (.string (mk y.e)):=(hb.cell (p:=⟨g,R.length * 3+2,none⟩) hg2).trans e2
   clear hb HT1 HB1 HW e0 e1 e2 hg2 hfz
   by_cases h2:y.told=y.x.n
   ·have h2i:(y.told:Int)=(y.x.n:Int):=by rw [h2]
    have HR2:Hid (bs ++ y.e ++ restT R=textR r):=by
     have h5:=HR1.out
     rw [restT_more,lvRest,List.drop_eq_nil_of_le (by omega),textL,List.nil_append,← List.append_assoc] at h5
     exact h5
    have hls:lsum R<m:=by rw [lsum_more] at hsum; unfold lvW at hsum; omega
    clear h2 HR1 hsum hln
    go_wp2_with fail
    refine (writeString_any (w.heap.size+1) (w.heap.size+1) bs y.e W2 HT2.out.bld (by omega) (by omega) (by have:=HT2.out.sz; omega)).mono ?_
    rintro e W3 ⟨rfl,hw⟩
    have HT3:=Lib.hid (HT2.out.wrote hw).pop
    have HB3:=Lib.hid (HB2.out.trans (hw.2.1.mono (Nat.le_succ _)))
    clear hw f0 f1 f2
    go_wp2
    go_step3
    exact ⟨rfl,_,⟨R,_,_,HB3.out,HT3.out,HR2.out,rfl,by omega,rfl,rfl,rfl,rfl,rfl,rfl,rfl⟩,hls⟩
   ·have hlt:y.told<y.x.n:=by omega
    have hlti:(y.told:Int)<(y.x.n:Int):=by omega
    have hne2:¬ (y.told:Int)=(y.x.n:Int):=by omega
    have hp2:(0:Int)≤(y.told:Int):=by omega
    have hok:=HT2.out.ok y (by simp)
    have htb:y.told≤4000000:=by have h5:=hok.few; rw [wt_eq] at h5; have:=wtL_len y.r.subs; omega
    have hyk:=(right_at hok.lies hok.good).2.2.2.1
    obtain ⟨b',o',z,hLe,hSb,hcl,hcy⟩:=hok.lies.says.subs.one hlt
    have hA2:A=some ⟨b',o',none⟩:=(hA (by omega)).trans hLe
    subst hA2
    have hmem:y.r.subs.getD y.told noRng ∈ y.r.subs:=by
     rw [List.getD_eq_getElem?_getD,List.getElem?_eq_getElem (by omega)]; exact List.getElem_mem _
    have hgd:=goodL_mem HGL.out hmem
    have hnx:=Lib.hid (lvRest_next y (by omega) b' (o'+y.told * 7) (y.d+opens y.r.kind (y.r.subs.getD y.told noRng).kind) z hgd)
    have hwx:=Lib.hid (lvW_next y (by omega) b' (o'+y.told * 7) (y.d+opens y.r.kind (y.r.subs.getD y.told noRng).kind) z (shutR y.r.kind (y.r.subs.getD y.told noRng).kind))
    have HQ2:Hid (LvOk W2 (w.heap.size+1) ⟨b',o'+y.told * 7,y.r.subs.getD y.told noRng,z,y.d+opens y.r.kind (y.r.subs.getD y.told noRng).kind,0,shutR y.r.kind (y.r.subs.getD y.told noRng).kind⟩):=⟨hcl,hSb,hcy,hgd,Nat.zero_le _,by have h5:=hok.few; rw [wt_eq] at h5; have:=wt_mem hmem; show wt (y.r.subs.getD y.told noRng)≤4000000; omega⟩
    have hzk:(y.r.subs.getD y.told noRng).kind=z.kind:=hcy.says.kind
    have hzv:(y.r.subs.getD y.told noRng).ver=z.v:=hcy.says.ver
    have ho0:W2.cell? ⟨y.b,y.o,none⟩=some (.int .i64 y.x.kind):=hok.cells.cells.1
    have hz0:W2.cell? ⟨b',o'+y.told * 7,none⟩=some (.int .i64 z.kind):=hcl.cells.1
    rw [hyk,hzk] at hnx
    rw [hyk,hzk] at hwx
    rw [hyk,hzk] at HQ2
    rw [hzv] at hnx
    generalize hqd:y.r.subs.getD y.told noRng=q at hnx hwx HQ2 hgd
    clear hqd hmem hgd hcy hcl hok hyk hLe hA h2 hzk hzv hSb
    obtain ⟨AH,hAH⟩:∃ l,aheadR y.x.kind z.kind y.told=l:=⟨_,rfl⟩
    obtain ⟨OP,hOP⟩:∃ l,openR y.x.kind z.kind=l:=⟨_,rfl⟩
    obtain ⟨MK,hMK⟩:∃ l,markR z.kind z.v=l:=⟨_,rfl⟩
    have HAh:=Lib.hid (ahead_any g (R.length * 3) y.b y.o y.x.kind z.kind y.told W2 f0 f1 ho0)
    rw [hAH] at hnx
    rw [hAH] at HAh
    rw [hOP,hMK] at hnx
    have HOP:=Lib.hid hOP
    have HMK:=Lib.hid hMK
    clear hAH hOP hMK
    go_wp2_with fail
    refine HAh.out.mono ?_
    rintro e w' ⟨rfl,rfl⟩
    clear HAh
    have hl4:bs.length+AH.length+OP.length+MK.length≤30000000:=by
     have h5:=congrArg List.length HR1.out
     rw [restT_more,hnx.out] at h5
     simp only [List.length_append] at h5
     have:=HLen.out
     omega
    go_wp2_with fail
    refine (writeString_any (w.heap.size+1) (w.heap.size+1) bs AH w' HT2.out.bld (by omega) (by omega) (by have:=HT2.out.sz; omega)).mono ?_
    rintro e W3 ⟨rfl,hw⟩
    have HT3:=Lib.hid (HT2.out.wrote hw)
    have HQ3:=Lib.hid (HQ2.out.kept (KeepS.lt hw.2.1))
    have HB3:=Lib.hid (HB2.out.trans (hw.2.1.mono (Nat.le_succ _)))
    clear hw f0 f1 f2 ho0 hz0 HT2 HQ2 HB2
    obtain ⟨_,hg2,f0,f1,f2,hfz⟩:=HT3.out.lastAt
    have hw1:IntKind.i64.wrap ((y.told:Int)+1)=((y.told+1:Nat):Int):=by rw [IntKind.wrap_i64] <;> omega
    go_upto_region 14 with (fail)
    have et:((y.told+1:Nat):Int)=(y.told:Int)+1:=by omega
    have HT4:Hid (TxW w.heap.size (W3.setCell ⟨g,R.length * 3+1,none⟩ (.int .i64 ((y.told:Int)+1))) (.slice (some ⟨g,0,none⟩) (R.length+1) cp) (R ++ [{ y with told:=y.told+1 }]) (bs ++ AH)):=by
     have h5:=HT3.out.next (by omega) hg1
     rw [et] at h5
     exact h5
    have hK4:KeepS (LtB (w.heap.size+1)) W3 (W3.setCell ⟨g,R.length * 3+1,none⟩ (.int .i64 ((y.told:Int)+1))):=KeepS.set (by unfold LtB; omega) _
    have HQ4:=Lib.hid (HQ3.out.kept hK4)
    have HB4:Hid (Below w.heap.size w (W3.setCell ⟨g,R.length * 3+1,none⟩ (.int .i64 ((y.told:Int)+1)))):=HB3.out.setCell (show w.heap.size≤g by omega) _
    have hgs4:g<(W3.setCell ⟨g,R.length * 3+1,none⟩ (.int .i64 ((y.told:Int)+1))).heap.size:=by simpa using hg2
    clear hK4 HT3 HQ3 HB3 f0 f1 f2 hfz hg2 hw1 et
    generalize W3.setCell ⟨g,R.length * 3+1,none⟩ (.int .i64 ((y.told:Int)+1))=W4 at HT4 HQ4 HB4 hgs4 ⊢
    have hba:Below W4.heap.size W4 (W4.alloc (.cells #[.pointer (some ⟨b',o'+y.told * 7,none⟩),.int .i64 0,.string ⟨#[]⟩] 78)):=(Below.refl _ _).alloc (Nat.le_refl _) _
    have HT5:=Lib.hid (HT4.out.below hba)
    have HI5:Hid (Inn w.heap.size (W4.alloc (.cells #[.pointer (some ⟨b',o'+y.told * 7,none⟩),.int .i64 0,.string ⟨#[]⟩] 78)) W4.heap.size b' (o'+y.told * 7) []):=Inn.new _ _ HT4.out.sz
    have HQ5:=Lib.hid (HQ4.out.kept (KeepS.of_below hba))
    have HB5:=Lib.hid (HB4.out.trans (hba.mono HB4.out.size))
    clear hba HT4 HQ4 HB4
    go_upto_region 15 with (fail)
    generalize W4.alloc (.cells #[.pointer (some ⟨b',o'+y.told * 7,none⟩),.int .i64 0,.string ⟨#[]⟩] 78)=W5 at HT5 HI5 HQ5 HB5 ⊢
    generalize hnb:W4.heap.size=nb at HI5 hgs4 ⊢
    clear hnb
    obtain ⟨_,hg5,f0,f1,f2,hfz⟩:=HT5.out.lastAt
    have ho0:=(HT5.out.ok { y with told:=y.told+1 } (by simp)).cells.cells.1
    have hz0:=HQ5.out.cells.cells.1
    simp only at f0 ho0 hz0
    have hbd:Below W5.heap.size W5 W5.drew:=(Below.refl W5.heap.size W5).drew
    have HTd:=Lib.hid (HT5.out.below hbd)
    have HId:=Lib.hid (HI5.out.below hbd)
    have HQd:=Lib.hid (HQ5.out.kept (KeepS.of_below hbd))
    have HBd:=Lib.hid (HB5.out.trans (hbd.mono HB5.out.size))
    have g0:W5.drew.cell? ⟨g,R.length * 3,none⟩=some (.pointer (some ⟨y.b,y.o,none⟩)):=f0
    have go0:W5.drew.cell? ⟨y.b,y.o,none⟩=some (.int .i64 y.x.kind):=ho0
    have gz0:W5.drew.cell? ⟨b',o'+y.told * 7,none⟩=some (.int .i64 z.kind):=hz0
    clear hbd HT5 HI5 HQ5 HB5 f0 f1 f2 hfz ho0 hz0
    have HFin:Hid (bs ++ AH ++ OP ++ MK ++ restT (R ++ [{ y with told:=y.told+1 }] ++ [⟨b',o'+y.told * 7,q,z,y.d+opens y.x.kind z.kind,0,shutR y.x.kind z.kind⟩])=textR r):=by
     have h5:=HR1.out
     rw [restT_more,hnx.out] at h5
     unfold Hid
     rw [restT_more,restT_more,← h5]
     simp only [List.append_assoc]
    have HMs:Hid (lsum (R ++ [{ y with told:=y.told+1 }] ++ [⟨b',o'+y.told * 7,q,z,y.d+opens y.x.kind z.kind,0,shutR y.x.kind z.kind⟩])<m):=by
     unfold Hid
     rw [lsum_more] at hsum
     rw [lsum_more,lsum_more]
     have:=hwx.out
     omega
    have HMark:Hid (∀ W e,LvOk W (w.heap.size+1) ⟨b',o'+y.told * 7,q,z,y.d+opens y.x.kind z.kind,0,e⟩→Below w.heap.size w W→Calls Tryz.prog 51 #[z.agg] W fun e w'=>e=.returned (.string (mk MK))∧Below W.heap.size W w'):=fun W e h hb=>by
     have hk:=(right_at h.lies h.good).2.2.2.2
     have hs:=h.lies.says
     have hkm:z.kind=0∨(z.kind=9∨z.kind=10)∨z.kind=11∨(1≤z.kind∧z.kind≤8∧goodV z.v=true):=by
      rcases hk with ⟨k1,k2,k3,_⟩ | ⟨_,⟨k1,_⟩ | ⟨k1,_⟩ | ⟨k1,_⟩⟩
      ·exact .inr (.inr (.inr ⟨k1,k2,k3⟩))
      ·exact .inl k1
      ·exact .inr (.inl k1)
      ·exact .inr (.inr (.inl k1))
     have h5:=mark_any z W hs.pre hs.build hs.cp hs.cb hkm (by rw [HMK.out]; omega) (HT.out.keep (Keep.of_below hb)) (HTab.out.kept hb)
     rw [HMK.out] at h5
     exact h5
    refine wp_region_held_drew (S:=fun w'=>w'=W5.drew) (by kernel_rfl) rfl (fun hHeld=>?_)
    refine tk 0 rfl (.pointer (some ⟨g,R.length * 3,none⟩)) ?_
    refine tk 1 rfl (.pointer (some ⟨g,R.length * 3,none⟩)) ?_
    refine tk 2 rfl (.pointer (some ⟨g,R.length * 3,none⟩)) ?_
    refine tk 3 rfl (.pointer (some ⟨y.b,y.o,none⟩)) ?_ fun w' hS'=>by subst hS'; go_simp
    refine tk 4 rfl (.pointer (some ⟨y.b,y.o,none⟩)) ?_
    refine tk 5 rfl (.pointer (some ⟨y.b,y.o,none⟩)) ?_
    refine tk 6 rfl y.x.kind ?_ fun w' hS'=>by subst hS'; go_simp
    refine tk 7 rfl (.pointer (some ⟨b',o'+y.told * 7,none⟩)) ?_
    refine tk 8 rfl (.pointer (some ⟨b',o'+y.told * 7,none⟩)) ?_
    refine tk 9 rfl (.pointer (some ⟨b',o'+y.told * 7,none⟩)) ?_
    refine tk 10 rfl z.kind ?_ fun w' hS'=>by subst hS'; go_simp
    refine cl 11 rfl fun K hK=>?_
    go_simp
    refine (bracketed_any y.x.kind z.kind W5.drew).mono ?_
    rintro e wk1 ⟨rfl,rfl⟩
    have hb:=True.intro
    clear hb hHeld
    refine hK.out _ _ rfl (fun hHeld=>?_)
    clear hK K
    try simp only [Act.put,p1,p2,p3]
    refine wpAnyH_done (by kernel_rfl) ?_ _
    generalize W5.drew=W6 at HTd HId HQd HBd g0 go0 gz0 ⊢
    cases hbr:bracketed y.x.kind z.kind with
    | true =>
     obtain rfl:[40]=OP:=by rw [← HOP.out]; unfold openR; rw [if_pos hbr]
     have hsh:shutR y.x.kind z.kind=[41]:=by unfold shutR; rw [if_pos hbr]
     rw [hsh] at HQd HFin HMs
     clear hsh hnx hwx
     simp only [List.length_singleton] at hl4
     go_wp2_with fail
     refine (writeString_any (w.heap.size+1) (w.heap.size+1) (bs ++ AH) [40] W6 HTd.out.bld (by rw [List.length_append]; omega) (by simp) (by have:=HTd.out.sz; omega)).mono ?_
     rintro e W7 ⟨rfl,hw⟩
     have HT7:=Lib.hid (HTd.out.wrote hw)
     have HI7:=Lib.hid (HId.out.wrote HTd.out hw)
     have HQ7:=Lib.hid (HQd.out.kept (KeepS.lt hw.2.1))
     have HB7:=Lib.hid (HBd.out.trans (hw.2.1.mono (Nat.le_succ _)))
     clear hw HTd HId HQd HBd g0 go0 gz0
     obtain ⟨i0,i1,i2,ifz,hnb⟩:=HI7.out.cells
     obtain ⟨s1,s2,s3⟩:=HI7.out.shut [41] HT7.out (by simp [Value.ownBlock]; omega)
     have HI8:=Lib.hid s1
     have HT8:=Lib.hid s2
     have HQ8:=Lib.hid (HQ7.out.kept (KeepS.lt (s3.mono (by omega))))
     have HB8:=Lib.hid (HB7.out.trans (s3.mono (by omega)))
     clear s1 s2 s3 HI7 HT7 HQ7 HB7
     go_upto_region 18 with (fail)
     have e41:W7.setCell ⟨nb,2,none⟩ (.string (mk [41]))=W7.setCell ⟨nb,2,none⟩ (.string ⟨#[41]⟩):=rfl
     rw [e41] at HI8 HT8 HQ8 HB8
     clear e41 i0 i1 i2 ifz hnb
     generalize W7.setCell ⟨nb,2,none⟩ (.string ⟨#[41]⟩)=W8 at HI8 HT8 HQ8 HB8 ⊢
     obtain ⟨c0,c1,c2,c3,c4,c5,c6⟩:=HQ8.out.cells.cells
     simp only at c0 c1 c2 c3 c4 c5 c6
     go_wp2_with fail
     refine (HMark.out _ _ HQ8.out HB8.out).mono ?_
     rintro e W9 ⟨rfl,hb⟩
     have HT9:=Lib.hid (HT8.out.below hb)
     have HI9:=Lib.hid (HI8.out.below hb)
     have HQ9:=Lib.hid (HQ8.out.kept (KeepS.of_below hb))
     have HB9:=Lib.hid (HB8.out.trans (hb.mono HB8.out.size))
     clear hb HT8 HI8 HQ8 HB8 c0 c1 c2 c3 c4 c5 c6
     go_wp2_with fail
     refine (writeString_any (w.heap.size+1) (w.heap.size+1) _ MK W9 HT9.out.bld (by simp only [List.length_append]; first | omega | (simp only [List.length_singleton] at hl4 ⊢; omega)) (by omega) (by have:=HT9.out.sz; omega)).mono ?_
     rintro e WA ⟨rfl,hw⟩
     have HTA:=Lib.hid (HT9.out.wrote hw)
     have HIA:=Lib.hid (HI9.out.wrote HT9.out hw)
     have HQA:=Lib.hid (HQ9.out.kept (KeepS.lt hw.2.1))
     have HBA:=Lib.hid (HB9.out.trans (hw.2.1.mono (Nat.le_succ _)))
     clear hw HT9 HI9 HQ9 HB9
     obtain ⟨i0,i1,i2,ifz,_⟩:=HIA.out.cells
     have hba:Below WA.heap.size WA (WA.alloc (.cells #[.pointer (some ⟨b',o'+y.told * 7,none⟩),.int .i64 0,.string (mk [41])] 78)):=(Below.refl _ _).alloc (Nat.le_refl _) _
     have HTC:=Lib.hid (HTA.out.below hba)
     have HQC:=Lib.hid (HQA.out.kept (KeepS.of_below hba))
     have HBC:=Lib.hid (HBA.out.trans (hba.mono HBA.out.size))
     clear hba HTA HQA HBA
     go_wp2_with (first
      | (at_builtin; refine wpList_append_lv _ rfl _ _ rfl w.heap.size _ (R ++ [{ y with told:=y.told+1 }]) _ (by first | rfl | (rw [lv_length]; rfl)) HTC.out ⟨WA.heap.size,0,none⟩ ⟨b',o'+y.told * 7,q,z,y.d+opens y.x.kind z.kind,0,[41]⟩ rfl (fun j u hu=>news_new WA _ _ j u hu) HQC.out (by rw [lv_length]; omega) ?_; intro v' w6 hTn hb6; have HTN:=Lib.hid hTn; have HBN:=Lib.hid (HBC.out.trans (hb6.mono (by omega))); clear hTn hb6)
      | fail)
     go_step3
     exact ⟨rfl,_,⟨_,v',_,HBN.out,HTN.out,HFin.out,rfl,Nat.le_trans (Nat.le_of_lt HMs.out) hmm,rfl,rfl,rfl,rfl,rfl,rfl,rfl⟩,HMs.out⟩
    | false =>
     obtain rfl:[]=OP:=by rw [← HOP.out]; unfold openR; rw [if_neg (by rw [hbr]; simp)]
     have hsh:shutR y.x.kind z.kind=[]:=by unfold shutR; rw [if_neg (by rw [hbr]; simp)]
     rw [hsh] at HQd HFin HMs
     rw [List.append_nil] at HFin
     clear hsh hnx hwx g0 go0 gz0
     simp only [List.length_nil] at hl4
     go_upto_region 18 with (fail)
     obtain ⟨c0,c1,c2,c3,c4,c5,c6⟩:=HQd.out.cells.cells
     simp only at c0 c1 c2 c3 c4 c5 c6
     go_wp2_with fail
     refine (HMark.out _ _ HQd.out HBd.out).mono ?_
     rintro e W9 ⟨rfl,hb⟩
     have HT9:=Lib.hid (HTd.out.below hb)
     have HI9:=Lib.hid (HId.out.below hb)
     have HQ9:=Lib.hid (HQd.out.kept (KeepS.of_below hb))
     have HB9:=Lib.hid (HBd.out.trans (hb.mono HBd.out.size))
     clear hb HTd HId HQd HBd c0 c1 c2 c3 c4 c5 c6
     go_wp2_with fail
     refine (writeString_any (w.heap.size+1) (w.heap.size+1) _ MK W9 HT9.out.bld (by simp only [List.length_append]; first | omega | (simp only [List.length_singleton] at hl4 ⊢; omega)) (by omega) (by have:=HT9.out.sz; omega)).mono ?_
     rintro e WA ⟨rfl,hw⟩
     have HTA:=Lib.hid (HT9.out.wrote hw)
     have HIA:=Lib.hid (HI9.out.wrote HT9.out hw)
     have HQA:=Lib.hid (HQ9.out.kept (KeepS.lt hw.2.1))
     have HBA:=Lib.hid (HB9.out.trans (hw.2.1.mono (Nat.le_succ _)))
     clear hw HT9 HI9 HQ9 HB9
     obtain ⟨i0,i1,i2,ifz,_⟩:=HIA.out.cells
     have hba:Below WA.heap.size WA (WA.alloc (.cells #[.pointer (some ⟨b',o'+y.told * 7,none⟩),.int .i64 0,.string (mk [])] 78)):=(Below.refl _ _).alloc (Nat.le_refl _) _
     have HTC:=Lib.hid (HTA.out.below hba)
     have HQC:=Lib.hid (HQA.out.kept (KeepS.of_below hba))
     have HBC:=Lib.hid (HBA.out.trans (hba.mono HBA.out.size))
     clear hba HTA HQA HBA
     go_wp2_with (first
      | (at_builtin; refine wpList_append_lv _ rfl _ _ rfl w.heap.size _ (R ++ [{ y with told:=y.told+1 }]) _ (by first | rfl | (rw [lv_length]; rfl)) HTC.out ⟨WA.heap.size,0,none⟩ ⟨b',o'+y.told * 7,q,z,y.d+opens y.x.kind z.kind,0,[]⟩ rfl (fun j u hu=>news_new WA _ _ j u hu) HQC.out (by rw [lv_length]; omega) ?_; intro v' w6 hTn hb6; have HTN:=Lib.hid hTn; have HBN:=Lib.hid (HBC.out.trans (hb6.mono (by omega))); clear hTn hb6)
      | fail)
     go_step3
     exact ⟨rfl,_,⟨_,v',_,HBN.out,HTN.out,HFin.out,rfl,Nat.le_trans (Nat.le_of_lt HMs.out) hmm,rfl,rfl,rfl,rfl,rfl,rfl,rfl⟩,HMs.out⟩
 ·intro HP
  obtain ⟨g1,g2,c0,c1,c2,c3,c4,c5,c6⟩:=HRx.out
  have hgr:=right_at HX.out HG.out
  have hba:Below W1.heap.size W1 (W1.alloc (.cells #[.pointer none,.slice none 0 0] 71)):=(Below.refl _ _).alloc (Nat.le_refl _) _
  have HB2:=Lib.hid (HBa.out.trans (hba.mono HBa.out.size))
  have HL2:=Lib.hid (Bld.new W1 (w.heap.size+1) (by rw [HSz.out]; exact Nat.le_refl _))
  rw [HSz.out] at HL2
  have HR2:Hid (RAt (W1.alloc (.cells #[.pointer none,.slice none 0 0] 71)) w.heap.size x):=HRx.out.kept hba g1
  have HZ2:Hid ((W1.alloc (.cells #[.pointer none,.slice none 0 0] 71)).heap.size=w.heap.size+2):=by rw [Hid,size_alloc,HSz.out]
  have hsz:=HSz.out
  clear hba
  go_upto_region 2 with (fail)
  clear c0 c1 c2 c3 c4 c5 c6 g1 g2 HRx HBa HSz hsz
  generalize W1.alloc (.cells #[.pointer none,.slice none 0 0] 71)=W2 at HB2 HL2 HR2 HZ2 ⊢
  obtain ⟨g1,g2,c0,c1,c2,c3,c4,c5,c6⟩:=HR2.out
  obtain ⟨_,_,hln,hrk,hk⟩:=hgr
  have hs:=HX.out.says
  have htx:=text_good HG.out
  rw [hrk,hs.ver] at htx
  have hkm:x.kind=0∨(x.kind=9∨x.kind=10)∨x.kind=11∨(1≤x.kind∧x.kind≤8∧goodV x.v=true):=by
   rcases hk with ⟨k1,k2,k3,_⟩ | ⟨_,⟨k1,_⟩ | ⟨k1,_⟩ | ⟨k1,_⟩⟩
   ·exact .inr (.inr (.inr ⟨k1,k2,k3⟩))
   ·exact .inl k1
   ·exact .inr (.inl k1)
   ·exact .inr (.inr (.inl k1))
  have hml:(markR x.kind x.v).length≤30000000:=by
   have:=HLen.out
   rw [htx,List.length_append] at this
   omega
  have HTX:=Lib.hid htx
  have hml2:(markR x.kind x.v).length≤100000000:=by omega
  have HMk:=Lib.hid (mark_any x W2 (hs.pre.kept HB2.out) (hs.build.kept HB2.out) hs.cp hs.cb hkm hml2 (HT.out.keep (Keep.of_below HB2.out)) (HTab.out.kept HB2.out))
  clear htx hk hkm hs hml2
  generalize markR x.kind x.v=MK at HTX HMk hml
  go_wp2_with fail
  refine HMk.out.mono ?_
  rintro e W3 ⟨rfl,hb⟩
  have HB3:=Lib.hid (HB2.out.trans (hb.mono HB2.out.size))
  have HL3:=Lib.hid (HL2.out.kept hb)
  have HR3:Hid (RAt W3 w.heap.size x):=HR2.out.kept hb (by rw [HZ2.out]; omega)
  have hz3:w.heap.size+2≤W3.heap.size:=by have:=hb.size; rw [HZ2.out] at this; exact this
  clear hb HB2 HL2 HR2 HZ2 HMk c0 c1 c2 c3 c4 c5 c6 g1 g2
  go_wp2_with fail
  refine (writeString_any (w.heap.size+1) (w.heap.size+1) [] MK W3 HL3.out (Nat.zero_le _) (by omega) (by omega)).mono ?_
  rintro e W4 ⟨rfl,hw⟩
  have HB4:=Lib.hid (HB3.out.trans (hw.2.1.mono (Nat.le_succ _)))
  have HL4:=Lib.hid hw.1
  have HR4:Hid (RAt W4 w.heap.size x):=HR3.out.kept hw.2.1 (Nat.lt_succ_self _)
  have hz4:w.heap.size+2≤W4.heap.size:=Nat.le_trans hz3 hw.2.1.size
  clear hw HB3 HL3 HR3 hz3
  go_wp2
  go_step3
  rename_i hK
  have hba:Below W4.heap.size W4 (W4.alloc (.cells #[.pointer (some ⟨w.heap.size,0,none⟩),.int .i64 0,.string ⟨#[]⟩] 78)):=(Below.refl _ _).alloc (Nat.le_refl _) _
  have HB5:=Lib.hid (HB4.out.trans (hba.mono HB4.out.size))
  obtain ⟨g1,g2,c0,c1,c2,c3,c4,c5,c6⟩:=HR4.out.kept hba (by omega)
  have HX5:Hid (Lies (W4.alloc (.cells #[.pointer (some ⟨w.heap.size,0,none⟩),.int .i64 0,.string ⟨#[]⟩] 78)) (LtB (w.heap.size+1)) r x):=(HX.out.keep (KeepS.lt HB5.out)).mono fun g hg _=>Nat.lt_succ_of_lt hg
  refine hK _ _ (HP.out (lsum [⟨w.heap.size,0,r,x,0,0,[]⟩]) _ _ ⟨[⟨w.heap.size,0,r,x,0,0,[]⟩],_,[] ++ MK,HB5.out,⟨World.ownsRow_lit (base:=w.heap.size+2) (e:=78) (size:=3) W4 #[.pointer (some ⟨w.heap.size,0,none⟩),.int .i64 0,.string ⟨#[]⟩] 1 hz4 (by decide) rfl,HL4.out.kept hba,?_,Nat.le_trans hz4 hba.size⟩,?_,rfl,?_,rfl,rfl,rfl,rfl,rfl,rfl,rfl⟩)
  ·intro y hy
   rw [List.mem_singleton] at hy
   subst hy
   exact ⟨CellsAt.of c0 c1 c2 c3 c4 c5 c6,Nat.lt_succ_self _,HX5.out,HG.out,Nat.zero_le _,by show wt r≤4000000; omega⟩
  ·rw [HTX.out]
   simp [restT,lvRest,hrk]
  ·simp only [lsum,lvW,List.drop_zero]
   rw [wt_eq] at hm
   omega
end Go.Proofs.YtgfbflnhjpbceaaGreatDoor.Range
namespace Go.Proofs.YtgfbflnhjpbceaaGreatDoor.Nrm
open Go.RowKit Num Ident Semver Prec Span
theorem ncut_any (k:Int) (v:Ver) (A:Option Addr) (c:Nat) (B:Option Addr) (d:Nat) (w:World) :
  Calls Tryz.prog 96 #[.int .i64 k,.agg #[v.a,v.b,v.c,.slice A v.pre.length c,.slice B v.build.length d]] w fun e w'=>e=.returned (.agg #[.int .i64 k,v.a,v.b,v.c,.slice A v.pre.length c,.slice none 0 0])∧Below w.heap.size w w':=by
 go_enter Tryz.func96,Tryz.ntmps96
 go_wp2
 refine bodyPost_ret (v:=.agg #[.int .i64 k,v.a,v.b,v.c,.slice A v.pre.length c,.slice none 0 0]) (by simp [results,Tryz.results96,go_sem]) rfl ?_
 exact ⟨rfl,((Below.refl _ _).alloc (Nat.le_refl _) _).alloc (by simp) _⟩
theorem nend_no (v:Ver) (A:Option Addr) (c:Nat) (B:Option Addr) (d:Nat) (w:World) :
  Calls Tryz.prog 98 #[.agg #[v.a,v.b,v.c,.slice A v.pre.length c,.slice B v.build.length d],.bool false] w fun e w'=>e=.returned (.agg #[.int .i64 3,.int .u64 0,.int .u64 0,.int .u64 0,.slice none 0 0,.slice none 0 0])∧Below w.heap.size w w':=by
 go_enter Tryz.func98,Tryz.ntmps98
 go_wp2
 refine bodyPost_ret (v:=.agg #[.int .i64 3,.int .u64 0,.int .u64 0,.int .u64 0,.slice none 0 0,.slice none 0 0]) (by simp [results,Tryz.results98,go_sem]) rfl ?_
 exact ⟨rfl,((Below.refl _ _).alloc (Nat.le_refl _) _).alloc (by simp) _⟩
theorem nend_yes (v:Ver) (A:Option Addr) (c:Nat) (B:Option Addr) (d:Nat) (w:World) :
  Calls Tryz.prog 98 #[.agg #[v.a,v.b,v.c,.slice A v.pre.length c,.slice B v.build.length d],.bool true] w fun e w'=>e=.returned (.agg #[.int .i64 1,v.a,v.b,v.c,.slice A v.pre.length c,.slice none 0 0])∧Below w.heap.size w w':=by
 have HB0:Hid (Below w.heap.size w ((w.alloc (v,A,c,B,d)).alloc true)):=((Below.refl _ _).alloc (Nat.le_refl _) _).alloc (by simp) _
 have J0:Hid (At6B ((w.alloc (v,A,c,B,d)).alloc true) (w.heap.size+1) (.int .i64 0) (.int .u64 0) (.int .u64 0) (.int .u64 0) (.slice none 0 0) (.slice none 0 0)):=by
  have:=At6B.new (w.alloc (v,A,c,B,d)) 41 (.int .i64 0) (.int .u64 0) (.int .u64 0) (.int .u64 0) (.slice none 0 0) (.slice none 0 0)
  rw [size_alloc] at this; exact this
 go_enter Tryz.func98,Tryz.ntmps98
 go_wp2_with fail
 generalize ((w.alloc (v,A,c,B,d)).alloc true)=W at HB0 J0 ⊢
 refine (ncut_any 1 v A c B d W).mono ?_
 rintro e w1 ⟨rfl,hb⟩
 have B1:=Lib.hid (HB0.out.trans (hb.mono HB0.out.size))
 have J1:=Lib.hid (J0.out.kept hb J0.out.1)
 clear hb J0 HB0
 have K3:=Lib.hid (J1.out.set6 (.int .i64 1) v.a v.b v.c (.slice A v.pre.length c) (.slice none 0 0))
 have B3:=Lib.hid (below_set6 B1.out (b:=w.heap.size+1) (by omega) (.int .i64 1) v.a v.b v.c (.slice A v.pre.length c) (.slice none 0 0))
 obtain ⟨z1,z2,y0,y1,y2,y3,y4,y5⟩:=J1.out
 go_wp2
 change bodyPost _ _ _ _ _ (Span.set6 w1 (w.heap.size+1) (.int .i64 1) v.a v.b v.c (.slice A v.pre.length c) (.slice none 0 0))
 generalize Span.set6 w1 (w.heap.size+1) (.int .i64 1) v.a v.b v.c (.slice A v.pre.length c) (.slice none 0 0)=W5 at K3 B3 ⊢
 clear z1 z2 y0 y1 y2 y3 y4 y5
 obtain ⟨z1,z2,y0,y1,y2,y3,y4,y5⟩:=K3.out
 exact bodyPost_ret (v:=.agg #[.int .i64 1,v.a,v.b,v.c,.slice A v.pre.length c,.slice none 0 0]) (by simp [results,Tryz.results98,go_sem,y0,y1,y2,y3,y4,y5]) rfl ⟨rfl,B3.out⟩
theorem between_any (x y:RCut) (w:World) (hx:Span.Lies w x) (hy:Span.Lies w y) :
  Calls Tryz.prog 97 #[.agg #[x.kind,x.v.a,x.v.b,x.v.c,.slice x.A x.v.pre.length x.c,.slice x.B x.v.build.length x.d],.agg #[y.kind,y.v.a,y.v.b,y.v.c,.slice y.A y.v.pre.length y.c,.slice y.B y.v.build.length y.d]] w (SetIn w 1 (NormalOf [⟨x.cut,y.cut⟩])):=by
 have HB0:Hid (Below w.heap.size w ((w.alloc x).alloc y)):=((Below.refl _ _).alloc (Nat.le_refl _) _).alloc (by simp) _
 have HS0:Hid (LiesS ((w.alloc x).alloc y) ⟨x,y⟩):=⟨hx.kept HB0.out,hy.kept HB0.out⟩
 clear hx hy
 go_enter Tryz.func97,Tryz.ntmps97
 go_upto_region 1 with (fail)
 have X0:=At6B.new w 41 x.kind x.v.a x.v.b x.v.c (.slice x.A x.v.pre.length x.c) (.slice x.B x.v.build.length x.d)
 have X1:Hid (At6B ((w.alloc x).alloc y) w.heap.size x.kind x.v.a x.v.b x.v.c (.slice x.A x.v.pre.length x.c) (.slice x.B x.v.build.length x.d)):=X0.kept ((Below.refl _ _).alloc (Nat.le_refl _) _) X0.1
 have Y1:Hid (At6B ((w.alloc x).alloc y) (w.heap.size+1) y.kind y.v.a y.v.b y.v.c (.slice y.A y.v.pre.length y.c) (.slice y.B y.v.build.length y.d)):=by
  have:=At6B.new (w.alloc x) 41 y.kind y.v.a y.v.b y.v.c (.slice y.A y.v.pre.length y.c) (.slice y.B y.v.build.length y.d)
  rw [size_alloc] at this; exact this
 clear X0
 generalize ((w.alloc x).alloc y)=W at HB0 HS0 X1 Y1 ⊢
 obtain ⟨a1,a2,x0,x1,x2,x3,x4,x5⟩:=X1.out
 obtain ⟨b1,b2,y0,y1,y2,y3,y4,y5⟩:=Y1.out
 have R1:=Lib.hid (SpRow.one W ⟨x,y⟩ HS0.out)
 have B1:Hid (Below w.heap.size w (W.alloc (.cells (RSp.mk x y).vals.toArray 43))):=HB0.out.alloc HB0.out.size _
 go_wp2_with fail
 refine (normal_in (some ⟨W.heap.size,0,none⟩) 1 1 [⟨x,y⟩] _ R1.out (by omega)).mono ?_
 intro e w3 h3
 have HS:=Lib.hid (h3.mono B1.out)
 obtain ⟨A3,n3,c3,out,rfl,q1,q2,q3,q4,q5,q6,q7⟩:=HS.out
 clear h3
 go_wp2
 go_ret
 exact HS.out
end Go.Proofs.YtgfbflnhjpbceaaGreatDoor.Nrm
namespace Go.Proofs.YtgfbflnhjpbceaaGreatDoor.Nrm
open Go.RowKit Num Ident Semver
open Range (Rng noRng goodR goodL fits wt wtL RV RAt OpsTab Keep KeepS LtB zeroRV LenOk)
mutual
def tot:Rng→Nat
 | .mk _ v l=>1+v.pre.length+v.build.length+totL l
def totL:List Rng→Nat
 | []=>0
 | r :: rs=>tot r+totL rs
end
theorem tot_eq (r:Rng):tot r=1+r.ver.pre.length+r.ver.build.length+totL r.subs:=by obtain ⟨k,v,l⟩:=r; rfl
theorem totL_take:∀ (l:List Rng) (k:Nat),k<l.length→totL (l.take (k+1))=totL (l.take k)+tot (l.getD k noRng)
 | [],k,h=>absurd h (Nat.not_lt_zero _)
 | r :: rs,0,_=>by show tot r+totL (rs.take 0)=0+tot r; rw [List.take_zero]; show tot r+0=_; omega
 | r :: rs,k+1,h=>by
  show tot r+totL (rs.take (k+1))=tot r+totL (rs.take k)+tot (rs.getD k noRng)
  rw [totL_take rs k (by simpa using h)]; omega
theorem good_modest {r:Rng} {d:Nat} (h:goodR r d=true):r.ver.pre.length≤16∧r.ver.build.length≤16:=by
 obtain ⟨k,v,l⟩:=r
 rw [Range.goodR_eq,Bool.and_eq_true,Bool.and_eq_true] at h
 have h2:=h.1.2
 show v.pre.length≤16∧v.build.length≤16
 cases ho:Range.ofVersion k with
 | true =>
  rw [Range.fits_ver ho,Bool.and_eq_true] at h2
  have h3:=h2.1
  unfold goodV at h3
  rw [Bool.and_eq_true,Bool.and_eq_true] at h3
  have a:=Span.good_len true v.pre 0 (by omega) h3.2.1
  have b:=Span.good_len false v.build 0 (by omega) h3.2.2
  omega
 | false =>
  cases hs:sameV v noVer with
  | false=>rw [Range.fits_un ho hs] at h2; cases h2
  | true=>rw [Span.sameV_none hs]; exact ⟨by decide,by decide⟩
theorem good_sub {r:Rng} {d j:Nat} (h:goodR r d=true) (hj:j<r.subs.length):∃ d',goodR (r.subs.getD j noRng) d'=true:=by
 obtain ⟨k,v,l⟩:=r
 rw [Range.goodR_eq,Bool.and_eq_true] at h
 exact ⟨_,Range.goodL_at.1 h.2 j hj⟩
def Tells (r:Rng) (most z:Int):Prop:=(∃ d,goodR r d=true)→0≤most→most≤1000→0≤z∧z≤most+33∧(z≤most→(tot r:Int)≤z)
theorem great_full:∀ (m:Nat) (r:Rng) (x:RV) (B:Nat) (most:Int) (w:World),wt r≤m→LenOk r→Range.Lies w (LtB B) r x→B≤w.heap.size →
  Calls Tryz.prog 9 #[x.agg,.int .i64 most] w fun e w'=>∃ z:Int,e=.returned (.int .i64 z)∧Tells r most z∧Below w.heap.size w w'
 | 0,r,x,B,d,w,hm,_,hx,hB=>by rw [Range.wt_eq] at hm; omega
 | m+1,r,x,B,most,w,hm,hln0,hx,hB=>by
  have IH:=Lib.hid (fun r x most w=>great_full m r x B most w)
  have hs:=hx.says
  obtain ⟨f,hln,_,_⟩:=hs.subs
  have HB:Hid (Below w.heap.size w (w.alloc x)):=(Below.refl _ _).alloc (Nat.le_refl _) _
  have HRA:Hid (RAt (w.alloc x) w.heap.size x):=RAt.new w _ x
  have HL:=Lib.hid (hx.keep (KeepS.of_below (S:=LtB B) HB.out))
  rw [Range.wt_eq] at hm
  have hlo:=hln0.here
  have HLO:=Lib.hid hln0
  have HT:Hid (tot r=1+x.v.pre.length+x.v.build.length+totL (r.subs.take x.n)):=by
   unfold Hid
   rw [tot_eq,← hln,List.take_length,hs.ver]
  have HM:Hid ((∃ d,goodR r d=true)→x.v.pre.length≤16∧x.v.build.length≤16):=fun ⟨d,h⟩=>by have:=good_modest h; rw [hs.ver] at this; exact this
  have hnx:x.n≤9223372036854775807:=by rw [← hln]; exact hlo
  have HLN:=Lib.hid hln
  clear hs hx hln hln0 hlo
  unfold RV.agg
  go_enter Tryz.func9,Tryz.ntmps9
  go_upto_region 1 with (fail)
  generalize w.alloc x=W at HB HRA HL ⊢
  obtain ⟨y1,y2,c0,c1,c2,c3,c4,c5,c6⟩:=HRA.out
  have HN0:Hid (x.v.pre.length≤16∧x.v.build.length≤16→wrap64 (wrap64 (1+(x.v.pre.length:Int))+(x.v.build.length:Int))=1+x.v.pre.length+x.v.build.length):=fun h=>by unfold wrap64; omega
  go_wp2
  generalize wrap64 (wrap64 (1+(x.v.pre.length:Int))+(x.v.build.length:Int))=n0 at HN0 ⊢
  generalize wrap64 (1+(x.v.pre.length:Int))=n1
  clear c0 c1 c2 c3 c4 c5 c6 y1 y2
  go_loopw [5,6] (fun nv iv W'=>∃ (n:Int) (k:Nat),nv=.int .i64 n∧k≤x.n∧iv=.int .i64 k∧Hid (Below W.heap.size W W')∧Hid ((∃ d,goodR r d=true)→0≤most→most≤1000→0≤n∧n≤most+33∧(n≤most→((1+x.v.pre.length+x.v.build.length+totL (r.subs.take k):Nat):Int)≤n))) (fun _ iv _=>x.n - (intOf iv).toNat)
  case atStart=>exact ⟨n0,0,rfl,Nat.zero_le _,rfl,Below.refl _ _,fun hg h0 h1=>by
   have hm:=HM.out hg
   have:=HN0.out hm
   refine ⟨by omega,by omega,fun _=>?_⟩
   rw [List.take_zero]
   show ((1+x.v.pre.length+x.v.build.length+0:Nat):Int)≤n0
   omega⟩
  case round =>
   obtain ⟨n,k,rfl,hk,rfl,HB3,HQ⟩:=hrel
   have HR3:=Lib.hid (HRA.out.kept HB3.out HRA.out.1)
   obtain ⟨y1,y2,c0,c1,c2,c3,c4,c5,c6⟩:=HR3.out
   by_cases hlt:k<x.n
   ·by_cases hnm:n≤most
    ·obtain ⟨b,o,c,hLe,hSb,hcl,hcy⟩:=HL.out.says.subs.one hlt
     have hll:k<r.subs.length:=by rw [HLN.out]; exact hlt
     have hmem:r.subs.getD k noRng ∈ r.subs:=by
      rw [List.getD_eq_getElem?_getD,List.getElem?_eq_getElem (by omega)]; exact List.getElem_mem _
     have hwt:wt (r.subs.getD k noRng)≤m:=by have:=Range.wt_mem hmem; omega
     have HTK:=Lib.hid (totL_take r.subs k hll)
     have HSub:Hid ((∃ d,goodR r d=true)→∃ d,goodR (r.subs.getD k noRng) d=true):=fun ⟨d,h⟩=>good_sub h hll
     have hlo:=HLO.out.sub hmem
     generalize r.subs.getD k noRng=q at hcy hwt HTK HSub hlo
     have hcw:=(hcl.keep (KeepS.of_below (S:=LtB B) HB3.out) hSb).cells
     obtain ⟨e0,e1,e2,e3,e4,e5,e6⟩:=hcw
     rw [hLe] at c6 ⊢
     clear hLe
     have HLc:Hid (Range.Lies wr (LtB B) q c):=hcy.keep (KeepS.of_below (S:=LtB B) HB3.out)
     have hBr:B≤wr.heap.size:=Nat.le_trans hB (Nat.le_trans HB.out.size HB3.out.size)
     clear hcl hcy hmem
     go_wp2_with fail
     refine (IH.out q c (wrap64 (most - n)) wr hwt hlo HLc.out hBr).mono ?_
     rintro e W3 ⟨z,rfl,hz,hb⟩
     have HB4:=Lib.hid (HB3.out.trans (hb.mono HB3.out.size))
     have HZ:=Lib.hid hz
     clear hb hz c0 c1 c2 c3 c4 c5 c6 e0 e1 e2 e3 e4 e5 e6 y1 y2 HB3 HR3
     go_wp2
     refine ⟨⟨wrap64 (n+z),k+1,rfl,by omega,by go_num,HB4.out,fun hg h0 h1=>?_⟩,by simp [intOf]; omega⟩
     have q1:=HQ.out hg h0 h1
     have hw1:wrap64 (most - n)=most - n:=by unfold wrap64; omega
     have q2:=HZ.out
     rw [hw1] at q2
     have q3:=q2 (HSub.out hg) (by omega) (by omega)
     have hw2:wrap64 (n+z)=n+z:=by unfold wrap64; omega
     rw [hw2,HTK.out]
     refine ⟨by omega,by omega,fun h=>?_⟩
     have a:=q1.2.2 hnm
     have b:=q3.2.2 (by omega)
     omega
    ·go_wp2
     go_ret
     exact ⟨n,rfl,fun hg h0 h1=>⟨(HQ.out hg h0 h1).1,(HQ.out hg h0 h1).2.1,fun h=>absurd h (by omega)⟩,HB.out.trans (HB3.out.mono HB.out.size)⟩
   ·obtain rfl:k=x.n:=by omega
    go_wp2
    go_ret
    exact ⟨n,rfl,fun hg h0 h1=>⟨(HQ.out hg h0 h1).1,(HQ.out hg h0 h1).2.1,fun h=>by rw [HT.out]; exact (HQ.out hg h0 h1).2.2 h⟩,HB.out.trans (HB3.out.mono HB.out.size)⟩
theorem Tells.small {r:Rng} {most z:Int} (h:Tells r most z) (hm:0≤most∧most≤1000) (hz:¬ most<z):(∃ d,goodR r d=true)→(tot r:Int)≤most:=fun hg=>by
 have:=(h hg hm.1 hm.2).2.2 (by omega)
 omega
mutual
theorem wt_tot:∀ r:Rng,wt r≤tot r
 | .mk k v l=>by
  show 1+wtL l≤1+v.pre.length+v.build.length+totL l
  have:=wt_totL l
  omega
theorem wt_totL:∀ l:List Rng,wtL l≤totL l
 | []=>Nat.le_refl _
 | r :: rs=>by
  show wt r+wtL rs≤tot r+totL rs
  have:=wt_tot r
  have:=wt_totL rs
  omega
end
end Go.Proofs.YtgfbflnhjpbceaaGreatDoor.Nrm
