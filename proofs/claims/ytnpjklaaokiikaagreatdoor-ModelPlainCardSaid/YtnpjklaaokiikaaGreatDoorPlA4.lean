/-
  What the theorem of the last text needs of these: IdNumeric, IdRef, IdJoin, SvMem, SvCame, SvPlain, IdWalks, IdCmp, RgMath. Conditions: as each theorem states.
-/
import Derived.Test.YtnpjklaaokiikaaGreatDoorPlA1
import Derived.Test.YtnpjklaaokiikaaGreatDoorPlA2
import Derived.Test.YtnpjklaaokiikaaGreatDoorPlA3
import Derived.Lib.Join
import Derived.Deep.Fields
import Derived.Lib.ItoaLen
import Derived.Test.YtnpjklaaokiikaaGreatDoorShelfTrim
set_option maxRecDepth 100000
set_option maxHeartbeats 25600000
namespace Go.Proofs.YtnpjklaaokiikaaGreatDoor.Ident
open Go.RowKit Num

theorem digit_any (x:Int) (w:World) (h0:0≤x) (h1:x≤255) :
  Calls Tryz.prog 214 #[.int .u8 x] w fun e w'=>e=.returned (.bool (digB x))∧w=w':=by
 by_cases ha:48≤x
 ·by_cases hb:x≤57
  ·have HF:=Lib.hid (digB_yes ⟨ha,hb⟩)
   go_enter Tryz.func214,Tryz.ntmps214
   go_wp2
   go_ret
   exact ⟨by rw [HF.out]; rfl,rfl⟩
  ·have HF:=Lib.hid (digB_no (x:=x) (by omega))
   go_enter Tryz.func214,Tryz.ntmps214
   go_wp2
   go_ret
   exact ⟨by rw [HF.out]; rfl,rfl⟩
 ·have HF:=Lib.hid (digB_no (x:=x) (by omega))
  go_enter Tryz.func214,Tryz.ntmps214
  go_wp2
  go_ret
  exact ⟨by rw [HF.out]; rfl,rfl⟩
def NumcJ (w:World) (s:ByteArray) (a':Act) (w':World):Prop :=
 w=w'∧∃ (k:Nat) (u4 u5 u6 u7 u8 u9 u10 u11 u12 u13 u14 u15 u16 u17 u18 u19 u20 u21 u22 u23:Value),k≤s.size∧(∀ j,j<k→isDig (s.data.toList.getD j 0)=true)∧a'={ tmps:=#[.string s,undef,.bool false,.int .i64 k,u4,u5,u6,u7,u8,u9,u10,u11,u12,u13,u14,u15,u16,u17,u18,u19,u20,u21,u22,u23],defers:=[] }
def NumcM (n:Nat) (a':Act) (_:World):Nat:=n - (intOf (a'.tmps.getD 3 undef)).toNat
theorem numeric_any (s:ByteArray) (w:World) (hs:s.size≤maxLen) :
  Calls Tryz.prog 212 #[.string s] w fun e w'=>e=.returned (.bool (numeric s.data.toList))∧w=w':=by
 unfold maxLen at hs
 have HL:=Lib.hid (Lib.size_eq s)
 go_enter Tryz.func212,Tryz.ntmps212
 go_wp2
 refine wp_scope_back 0 (NumcJ w s) (NumcM s.size) rfl ?_ ?_
 ·rintro a' w' ⟨rfl,k,u4,u5,u6,u7,u8,u9,u10,u11,u12,u13,u14,u15,u16,u17,u18,u19,u20,u21,u22,u23,hk,hd,rfl⟩
  have HD:=Lib.hid hd; clear hd
  by_cases hlt:k<s.size
  ·have hbd:=byteAt_bd s.data.toList k
   have HX:=Lib.hid (at_text s k hlt)
   have HI:Hid (isDig (s.data.toList.getD k 0)=digB (byteAt s.data.toList k)):=(digB_at _).symm
   rw [← HX.out] at hbd HI
   obtain ⟨hx0,hx1⟩:=hbd
   go_wp2_with fail
   refine (digit_any _ _ hx0 hx1).mono ?_
   rintro e w' ⟨rfl,rfl⟩
   cases h1:digB (s[k].toNat:Int)
   ·have HS:Hid (run s.data.toList=k):=run_stop _ k (by rw [← HL.out]; omega) HD.out (.inr (by rw [HI.out]; exact h1))
    have HF:Hid (numeric s.data.toList=false):=(numeric_no _).2 fun hh=>by rw [HS.out,← HL.out] at hh; omega
    have H1:=Lib.hid h1; clear h1
    have hne:((k:Int) == (s.size:Int))=false:=by simp; omega
    by_cases h0:0<k
    ·go_wp2
     simp only [Exit.jump]
     go_ret
     exact ⟨by rw [HF.out]; rfl,rfl⟩
    ·go_wp2
     simp only [Exit.jump]
     go_ret
     exact ⟨by rw [HF.out]; rfl,rfl⟩
   ·have HN:Hid (∀ j,j<k+1→isDig (s.data.toList.getD j 0)=true):=fun j hj=>by
     rcases Nat.lt_or_ge j k with hj1 | hj1
     ·exact HD.out j hj1
     ·obtain rfl:j=k:=by omega
      rw [HI.out]; exact h1
    have H1:=Lib.hid h1; clear h1
    go_wp2
    go_step3
    rw [show ((k:Int)+1)=((k+1:Nat):Int) from rfl]
    refine ⟨rfl,⟨rfl,k+1,_,_,_,_,_,_,_,_,_,_,_,_,_,_,_,_,_,_,_,_,by omega,HN.out,rfl⟩,?_⟩
    simp [NumcM,intOf]; omega
  ·obtain rfl:k=s.size:=by omega
   have HS:Hid (run s.data.toList=s.size):=run_stop _ s.size (by rw [← HL.out]; omega) HD.out (.inl HL.out)
   by_cases h0:0<s.size
   ·have HF:Hid (numeric s.data.toList=true):=(numeric_iff _).2 ⟨by rw [← HL.out]; exact h0,by rw [HS.out,HL.out]⟩
    go_wp2
    simp only [Exit.jump]
    go_ret
    exact ⟨by rw [HF.out]; rfl,rfl⟩
   ·have HF:Hid (numeric s.data.toList=false):=(numeric_no _).2 fun hh=>h0 (by rw [HL.out]; exact hh.1)
    go_wp2
    simp only [Exit.jump]
    go_ret
    exact ⟨by rw [HF.out]; rfl,rfl⟩
 ·intro HP
  go_wp2
  go_step3
  rename_i hK
  exact hK _ _ (HP.out _ _ ⟨rfl,0,_,_,_,_,_,_,_,_,_,_,_,_,_,_,_,_,_,_,_,_,by omega,(fun j hj=>by omega),rfl⟩)
end Go.Proofs.YtnpjklaaokiikaaGreatDoor.Ident
namespace Go.Proofs.YtnpjklaaokiikaaGreatDoor.Ident
open Go.RowKit Num

theorem idB_yes1 {x:Int} (h:48≤x∧x≤57):idB x=true:=by unfold idB; rw [digB_yes h]; rfl
theorem idB_yes2 {x:Int} (h:(65≤x∧x≤90)∨(97≤x∧x≤122)):idB x=true:=by unfold idB; rw [letB_yes h]; simp
theorem idB_yes3:idB 45=true:=by decide
theorem idB_no {x:Int} (h1:¬ (48≤x∧x≤57)) (h2:¬ ((65≤x∧x≤90)∨(97≤x∧x≤122))) (h3:x≠45):idB x=false:=by
 unfold idB; rw [digB_no h1,letB_no h2]; simp [h3]

theorem ref_byte_any (x:Int) (w:World) (h0:0≤x) (h1:x≤255) :
  Calls Tryz.prog 190 #[.int .u8 x] w fun e w'=>e=.returned (.bool (idB x))∧w=w':=by
 by_cases ha:48≤x
 ·by_cases hb:x≤57
  ·have HF:=Lib.hid (idB_yes1 ⟨ha,hb⟩)
   go_enter Tryz.func190,Tryz.ntmps190
   go_wp2
   go_ret
   exact ⟨by rw [HF.out]; rfl,rfl⟩
  ·have h45:(x == 45)=false:=by simp; omega
   by_cases hc:65≤x
   ·by_cases hd:x≤90
    ·have HF:=Lib.hid (idB_yes2 (.inl ⟨hc,hd⟩))
     go_enter Tryz.func190,Tryz.ntmps190
     go_wp2
     go_ret
     exact ⟨by rw [HF.out]; rfl,rfl⟩
    ·by_cases he:97≤x
     ·by_cases hf:x≤122
      ·have HF:=Lib.hid (idB_yes2 (.inr ⟨he,hf⟩))
       go_enter Tryz.func190,Tryz.ntmps190
       go_wp2
       go_ret
       exact ⟨by rw [HF.out]; rfl,rfl⟩
      ·have HF:=Lib.hid (idB_no (x:=x) (by omega) (by omega) (by omega))
       go_enter Tryz.func190,Tryz.ntmps190
       go_wp2
       go_ret
       exact ⟨by rw [HF.out]; rfl,rfl⟩
     ·have HF:=Lib.hid (idB_no (x:=x) (by omega) (by omega) (by omega))
      go_enter Tryz.func190,Tryz.ntmps190
      go_wp2
      go_ret
      exact ⟨by rw [HF.out]; rfl,rfl⟩
   ·have he:¬ 97≤x:=by omega
    have HF:=Lib.hid (idB_no (x:=x) (by omega) (by omega) (by omega))
    go_enter Tryz.func190,Tryz.ntmps190
    go_wp2
    go_ret
    exact ⟨by rw [HF.out]; rfl,rfl⟩
 ·have hc:¬ 65≤x:=by omega
  have he:¬ 97≤x:=by omega
  by_cases h45:x=45
  ·subst h45
   have HF:=Lib.hid idB_yes3
   clear ha hc he h0 h1
   go_enter Tryz.func190,Tryz.ntmps190
   go_wp2
   go_ret
   exact ⟨by rw [HF.out]; rfl,rfl⟩
  ·have HF:=Lib.hid (idB_no (x:=x) (by omega) (by omega) h45)
   have hb45:(x == 45)=false:=by simp [h45]
   clear h45
   go_enter Tryz.func190,Tryz.ntmps190
   go_wp2
   go_ret
   exact ⟨by rw [HF.out]; rfl,rfl⟩

theorem ref_numeric_all (s:ByteArray) (w:World) (hs:s.size≤maxLen) :
  Calls Tryz.prog 200 #[.string s] w fun e w'=>e=.returned (.bool (numeric s.data.toList))∧w=w':=by
 unfold maxLen at hs
 have LS:=Lib.hid (Lib.size_eq s)
 go_enter Tryz.func200,Tryz.ntmps200
 go_wp2
 go_loop [3] (fun t=>∃ k:Nat,k≤s.size∧t=.int .i64 k∧Hid (∀ j,j<k→isDig (s.data.toList.getD j 0)=true)) (fun t=>s.size - (intOf t).toNat)
 case atStart=>exact ⟨0,by omega,rfl,fun j h=>by omega⟩
 case round =>
  obtain ⟨k,hk,rfl,HD⟩:=hrel
  by_cases hlt:k<s.size
  ·have HX:=Lib.hid (at_text s k hlt)
   have HI:=Lib.hid (isDig_at s.data.toList k)
   have HN:Hid (¬ (48≤(s[k].toNat:Int)∧(s[k].toNat:Int)≤57)→numeric s.data.toList=false):=fun hn=>(numeric_no _).2 fun hh=>hn (by
    have:=run_dig s.data.toList k (by rw [hh.2,← LS.out]; exact hlt)
    rw [HI.out,← HX.out] at this; exact this)
   by_cases h1:48≤(s[k].toNat:Int)
   ·by_cases h2:(s[k].toNat:Int)≤57
    ·go_wp2
     go_round
     case rel =>
      refine ⟨k+1,by omega,by go_num,fun j hj=>?_⟩
      rcases Nat.lt_or_ge j k with hj1 | hj1
      ·exact HD.out j hj1
      ·obtain rfl:j=k:=by omega
       exact HI.out.2 (by rw [← HX.out]; exact ⟨h1,h2⟩)
     case measure=>simp [intOf]; omega
    ·go_wp2
     go_ret
     exact ⟨by rw [HN.out (by omega)]; rfl,rfl⟩
   ·go_wp2
    go_ret
    exact ⟨by rw [HN.out (by omega)]; rfl,rfl⟩
  ·obtain rfl:k=s.size:=by omega
   have HR:Hid (run s.data.toList=s.data.toList.length):=run_stop _ _ (Nat.le_refl _) (by rw [← LS.out]; exact HD.out) (.inl rfl)
   by_cases h0:s.size=0
   ·have hem:=(empty_iff s).2 h0
    have hem2:(!s.toList.isEmpty)=false:=by rw [hem]; rfl
    have HF:Hid (numeric s.data.toList=false):=(numeric_no _).2 fun hh=>by have:=hh.1; rw [← LS.out] at this; omega
    have H0:=Lib.hid h0; clear h0
    go_wp2
    go_ret
    exact ⟨by rw [HF.out]; rfl,rfl⟩
   ·have hem:=(empty_no s).2 h0
    have hem2:(!s.toList.isEmpty)=true:=by rw [hem]; rfl
    have HF:Hid (numeric s.data.toList=true):=(numeric_iff _).2 ⟨by rw [← LS.out]; omega,HR.out⟩
    go_wp2
    go_ret
    exact ⟨by rw [HF.out]; rfl,rfl⟩


end Go.Proofs.YtnpjklaaokiikaaGreatDoor.Ident
namespace Go.Proofs.YtnpjklaaokiikaaGreatDoor.Ident
open Go.RowKit Num

def joined (xs:List (List UInt8)):List UInt8:=Lib.join xs [46]
theorem joined_nil:joined []=[]:=rfl
theorem joined_one (x:List UInt8):joined [x]=x:=Lib.join_one x [46]
theorem joined_cons (x y:List UInt8) (r:List (List UInt8)):joined (x :: y :: r)=x ++ 46 :: joined (y :: r):=by
 unfold joined
 rw [Lib.join_cons,Lib.join_cons]; simp [Lib.joinTail]
theorem joined_le:∀ (xs:List (List UInt8)),(∀ x ∈ xs,x.length≤300)→(joined xs).length≤301 * xs.length
 | [],_=>by simp [joined_nil]
 | [x],h=>by rw [joined_one]; have:=h x (by simp); simp; omega
 | x :: y :: r,h=>by
  rw [joined_cons]
  have h1:=h x (by simp)
  have h2:=joined_le (y :: r) (fun z hz=>h z (by simp [hz]))
  simp only [List.length_append,List.length_cons] at h2 ⊢
  omega
theorem go_ids {pre:Bool} (x t w:List UInt8) (acc:List (List UInt8)) (n:Nat) (h:∀ b ∈ x,isId b=true):go pre (x ++ t) w acc n=go pre t (w ++ x) acc (n+x.length):=by
 induction x generalizing w n with
 | nil=>simp
 | cons b x ih =>
  rw [List.cons_append,go_id (h b (by simp)),ih _ _ (fun c hc=>h c (by simp [hc])),List.append_assoc,List.singleton_append,List.length_cons]
  congr 1; omega
end Go.Proofs.YtnpjklaaokiikaaGreatDoor.Ident
namespace Go.Proofs.YtnpjklaaokiikaaGreatDoor.Semver
open Go.RowKit Num Ident

def At7 (W:World) (b:Nat) (u0 u1 u2 u3 u4 u5 u6:Value):Prop:=b<W.heap.size∧(∀ o,W.frozen? ⟨b,o,none⟩=false)∧W.cell? ⟨b,0,none⟩=some u0∧W.cell? ⟨b,1,none⟩=some u1∧W.cell? ⟨b,2,none⟩=some u2∧W.cell? ⟨b,3,none⟩=some u3∧W.cell? ⟨b,4,none⟩=some u4∧W.cell? ⟨b,5,none⟩=some u5∧W.cell? ⟨b,6,none⟩=some u6
theorem At7.new (w:World) (t:TypeId) (u0 u1 u2 u3 u4 u5 u6:Value):At7 (w.alloc (.cells #[u0,u1,u2,u3,u4,u5,u6] t)) w.heap.size u0 u1 u2 u3 u4 u5 u6:=by
 unfold At7
 refine ⟨by simp,fun o=>by simp [go_sem],?_,?_,?_,?_,?_,?_,?_⟩ <;> simp [go_sem]
theorem At7.kept {W W':World} {b B:Nat} {u0 u1 u2 u3 u4 u5 u6:Value} (h:At7 W b u0 u1 u2 u3 u4 u5 u6) (hb:Below B W W') (hB:b<B):At7 W' b u0 u1 u2 u3 u4 u5 u6:=by
 obtain ⟨h1,h2,c0,c1,c2,c3,c4,c5,c6⟩:=h
 exact ⟨Nat.lt_of_lt_of_le h1 hb.size,fun o=>(hb.frozen (p:=⟨b,o,none⟩) hB).trans (h2 o),(hb.cell (p:=⟨b,0,none⟩) hB).trans c0,(hb.cell (p:=⟨b,1,none⟩) hB).trans c1,(hb.cell (p:=⟨b,2,none⟩) hB).trans c2,(hb.cell (p:=⟨b,3,none⟩) hB).trans c3,(hb.cell (p:=⟨b,4,none⟩) hB).trans c4,(hb.cell (p:=⟨b,5,none⟩) hB).trans c5,(hb.cell (p:=⟨b,6,none⟩) hB).trans c6⟩
theorem set7 {w:World} {A:Option Addr} {n:Nat} {xs:List (List UInt8)} (h:SRow w A n xs) {b:Nat} {u0 u1 u2 u3 u4 u5 u6:Value} (k:At7 w b u0 u1 u2 u3 u4 u5 u6)
  (s0:∀ s,u0≠.string s) (s1:∀ s,u1≠.string s) (s2:∀ s,u2≠.string s) (s3:∀ s,u3≠.string s) (s4:∀ s,u4≠.string s) (s5:∀ s,u5≠.string s) (s6:∀ s,u6≠.string s) (v0 v1 v2 v3 v4 v5 v6:Value) :
  SRow (((((((w.setCell ⟨b,0,none⟩ v0).setCell ⟨b,1,none⟩ v1).setCell ⟨b,2,none⟩ v2).setCell ⟨b,3,none⟩ v3).setCell ⟨b,4,none⟩ v4).setCell ⟨b,5,none⟩ v5).setCell ⟨b,6,none⟩ v6) A n xs:=by
 obtain ⟨_,_,c0,c1,c2,c3,c4,c5,c6⟩:=k
 refine SRow.set (SRow.set (SRow.set (SRow.set (SRow.set (SRow.set (SRow.set h c0 s0 v0) (u:=u1) ?_ s1 v1) (u:=u2) ?_ s2 v2) (u:=u3) ?_ s3 v3) (u:=u4) ?_ s4 v4) (u:=u5) ?_ s5 v5) (u:=u6) ?_ s6 v6
 ·exact (cell_beside _ _ _ _ _ (by omega)).trans (c1)
 ·exact (cell_beside _ _ _ _ _ (by omega)).trans ((cell_beside _ _ _ _ _ (by omega)).trans (c2))
 ·exact (cell_beside _ _ _ _ _ (by omega)).trans ((cell_beside _ _ _ _ _ (by omega)).trans ((cell_beside _ _ _ _ _ (by omega)).trans (c3)))
 ·exact (cell_beside _ _ _ _ _ (by omega)).trans ((cell_beside _ _ _ _ _ (by omega)).trans ((cell_beside _ _ _ _ _ (by omega)).trans ((cell_beside _ _ _ _ _ (by omega)).trans (c4))))
 ·exact (cell_beside _ _ _ _ _ (by omega)).trans ((cell_beside _ _ _ _ _ (by omega)).trans ((cell_beside _ _ _ _ _ (by omega)).trans ((cell_beside _ _ _ _ _ (by omega)).trans ((cell_beside _ _ _ _ _ (by omega)).trans (c5)))))
 ·exact (cell_beside _ _ _ _ _ (by omega)).trans ((cell_beside _ _ _ _ _ (by omega)).trans ((cell_beside _ _ _ _ _ (by omega)).trans ((cell_beside _ _ _ _ _ (by omega)).trans ((cell_beside _ _ _ _ _ (by omega)).trans ((cell_beside _ _ _ _ _ (by omega)).trans (c6))))))

theorem At3.set1 {W:World} {b:Nat} {x y z:Value} (h:At3 W b x y z) (v:Value):At3 (W.setCell ⟨b,1,none⟩ v) b x v z:=by
 obtain ⟨h1,h2,c0,c1,c2⟩:=h
 refine ⟨by simpa using h1,fun o=>by simp [go_sem,h2],?_,?_,?_⟩ <;> simp [go_sem,c0,c1,c2]
theorem At3.set2 {W:World} {b:Nat} {x y z:Value} (h:At3 W b x y z) (v:Value):At3 (W.setCell ⟨b,2,none⟩ v) b x y v:=by
 obtain ⟨h1,h2,c0,c1,c2⟩:=h
 refine ⟨by simpa using h1,fun o=>by simp [go_sem,h2],?_,?_,?_⟩ <;> simp [go_sem,c0,c1,c2]


end Go.Proofs.YtnpjklaaokiikaaGreatDoor.Semver
namespace Go.Proofs.YtnpjklaaokiikaaGreatDoor.Came
open Go.ChangeShapes Go.WideShapes Go.RowKit Go.Deep


theorem field_read {H:Type} {enc:TypeId × Value→H} {W:World} {n:Nat} {z:Value} {y:DataW H × List MemPlace} (h:DataW.trod enc Tryz.prog W 0 (fun _=>true) true n 31 [z]=some y):∃ a:Nat,z=.int .u64 a∧a<18446744073709551616:=by
 obtain ⟨m,hm,_,hw⟩:=DataW.trod_int Tryz.underlying31 h
 have hb:0≤m∧m≤18446744073709551615:=by simpa [Lit.wf,IntKind.min,IntKind.max,IntKind.signed,IntKind.bits] using hw
 obtain ⟨a,rfl⟩:=Int.eq_ofNat_of_zero_le hb.1
 simp at hm
 exact ⟨a,hm,by omega⟩

end Go.Proofs.YtnpjklaaokiikaaGreatDoor.Came
namespace Go.Proofs.YtnpjklaaokiikaaGreatDoor.Semver
open Go.RowKit Num Ident

def heldB (x y z:Nat):Bool:=decide (x≤maxField∧y≤maxField∧z≤maxField)
theorem heldB_yes {x y z:Nat} (hx:x≤maxField) (hy:y≤maxField) (hz:z≤maxField):heldB x y z=true:=decide_eq_true ⟨hx,hy,hz⟩
theorem heldB_no {x y z:Nat} (h:¬ (x≤maxField∧y≤maxField∧z≤maxField)):heldB x y z=false:=decide_eq_false h
def goodV (v:Ver):Bool:=heldB v.a v.b v.c && (goodFrom true v.pre 0 && goodFrom false v.build 0)
theorem field_le {x:Nat} (h:(x:Int)≤9223372036854775807):x≤maxField:=by unfold maxField; omega
theorem field_no {x:Nat} (h:¬ (x:Int)≤9223372036854775807):¬ x≤maxField:=by unfold maxField; omega
def sameV (u v:Ver):Bool:=decide (u.a=v.a∧u.b=v.b∧u.c=v.c) && (sameB u.pre v.pre && sameB u.build v.build)
theorem sameV_self (v:Ver):sameV v v=true:=by unfold sameV; rw [(sameB_iff _ _).2 rfl,(sameB_iff _ _).2 rfl]; simp
def rowText (m:UInt8) (xs:List (List UInt8)):List UInt8:=if xs.length=0 then [] else m :: joined xs
def vtext (v:Ver):List UInt8:=Lib.decDigits v.a ++ [46] ++ Lib.decDigits v.b ++ [46] ++ Lib.decDigits v.c ++ rowText 45 v.pre ++ rowText 43 v.build
theorem rowText_none {m:UInt8} {xs:List (List UInt8)} (h:xs.length=0):rowText m xs=[]:=by unfold rowText; rw [if_pos h]
theorem rowText_some {m:UInt8} {xs:List (List UInt8)} (h:xs.length≠0):rowText m xs=[m] ++ joined xs:=by unfold rowText; rw [if_neg h]; rfl
theorem short_joined {xs:List (List UInt8)} (h:shortB xs=true):(joined xs).length≤12040:=by
 rw [shortB_iff] at h
 have:=joined_le xs h.2
 omega
theorem rowText_le {m:UInt8} {xs:List (List UInt8)} (h:shortB xs=true):(rowText m xs).length≤12041:=by
 unfold rowText
 split
 ·simp
 ·have:=short_joined h
  simp; exact this
theorem dec_le (u:Nat) (h:u<18446744073709551616):(Lib.decDigits u).length≤20:=by rw [Lib.decDigits_length]; exact Lib.nDigits_le20 u h
theorem sameV_no {u v:Ver} (h:¬ (u.a=v.a∧u.b=v.b∧u.c=v.c)):sameV u v=false:=by unfold sameV; rw [decide_eq_false h]; rfl
end Go.Proofs.YtnpjklaaokiikaaGreatDoor.Semver
namespace Go.Proofs.YtnpjklaaokiikaaGreatDoor.Ident
open Go.RowKit Num

theorem letter_any (x:Int) (w:World) (h0:0≤x) (h1:x≤255) :
  Calls Tryz.prog 215 #[.int .u8 x] w fun e w'=>e=.returned (.bool (letB x))∧w=w':=by
 by_cases ha:65≤x
 ·by_cases hb:x≤90
  ·have HF:=Lib.hid (letB_yes (.inl ⟨ha,hb⟩))
   go_enter Tryz.func215,Tryz.ntmps215
   go_wp2
   go_ret
   exact ⟨by rw [HF.out]; rfl,rfl⟩
  ·by_cases hc:97≤x
   ·by_cases hd:x≤122
    ·have HF:=Lib.hid (letB_yes (.inr ⟨hc,hd⟩))
     go_enter Tryz.func215,Tryz.ntmps215
     go_wp2
     go_ret
     exact ⟨by rw [HF.out]; rfl,rfl⟩
    ·have HF:=Lib.hid (letB_no (x:=x) (by omega))
     go_enter Tryz.func215,Tryz.ntmps215
     go_wp2
     go_ret
     exact ⟨by rw [HF.out]; rfl,rfl⟩
   ·have HF:=Lib.hid (letB_no (x:=x) (by omega))
    go_enter Tryz.func215,Tryz.ntmps215
    go_wp2
    go_ret
    exact ⟨by rw [HF.out]; rfl,rfl⟩
 ·have hc:¬ 97≤x:=by omega
  have HF:=Lib.hid (letB_no (x:=x) (by omega))
  go_enter Tryz.func215,Tryz.ntmps215
  go_wp2
  go_ret
  exact ⟨by rw [HF.out]; rfl,rfl⟩
def LenJ (w:World) (A:Option Addr) (n c:Nat) (l:List UInt8) (a':Act) (w':World):Prop :=
 w=w'∧∃ (k:Nat) (u4 u5 u6 u7 u8 u9 u10 u11 u12 u13 u14 u15 u16 u17 u18 u19 u20 u21 u22 u23 u24 u25 u26 u27 u28 u29 u30 u31:Value),k≤n∧(∀ j,j<k→isId (l.getD j 0)=true)∧a'={ tmps:=#[.slice A n c,undef,.int .i64 0,.int .i64 k,u4,u5,u6,u7,u8,u9,u10,u11,u12,u13,u14,u15,u16,u17,u18,u19,u20,u21,u22,u23,u24,u25,u26,u27,u28,u29,u30,u31],defers:=[] }
def LenM (n:Nat) (a':Act) (_:World):Nat:=n - (intOf (a'.tmps.getD 3 undef)).toNat
theorem length_any (A:Option Addr) (n c:Nat) (l:List UInt8) (w:World) (h:Row w A n l) :
  Calls Tryz.prog 176 #[.slice A n c] w fun e w'=>e=.returned (.int .i64 (lead l))∧w=w':=by
 obtain ⟨hl,hm,hc⟩:=h
 unfold maxLen at hm
 have HC:=Lib.hid hc; clear hc
 have HL:=Lib.hid hl; clear hl
 go_enter Tryz.func176,Tryz.ntmps176
 go_wp2
 refine wp_scope_back 0 (LenJ w A n c l) (LenM n) rfl ?_ ?_
 ·rintro a' w' ⟨rfl,k,u4,u5,u6,u7,u8,u9,u10,u11,u12,u13,u14,u15,u16,u17,u18,u19,u20,u21,u22,u23,u24,u25,u26,u27,u28,u29,u30,u31,hk,hd,rfl⟩
  have HD:=Lib.hid hd; clear hd
  by_cases hlt:k<n
  ·obtain ⟨b,o,rfl,hb,hcell⟩:=HC.out (by omega)
   have hx:=hcell k hlt
   clear hcell HC
   have hbd:=byteAt_bd l k
   have HI:Hid (isId (l.getD k 0)=idB (byteAt l k)):=(idB_at _).symm
   generalize byteAt l k=x at hx hbd HI
   obtain ⟨hx0,hx1⟩:=hbd
   have HN:Hid (idB x=true→∀ j,j<k+1→isId (l.getD j 0)=true):=fun hi j hj=>by
    rcases Nat.lt_or_ge j k with hj1 | hj1
    ·exact HD.out j hj1
    ·obtain rfl:j=k:=by omega
     rw [HI.out]; exact hi
   have HS:Hid (idB x=false→lead l=k):=fun hn=>lead_stop l k (by rw [HL.out]; omega) HD.out (.inr (by rw [HI.out]; exact hn))
   go_wp2_with fail
   refine (digit_any _ _ hx0 hx1).mono ?_
   rintro e w' ⟨rfl,rfl⟩
   cases h1:digB x
   ·have H1:=Lib.hid h1; clear h1
    go_wp2_with fail
    refine (letter_any _ _ hx0 hx1).mono ?_
    rintro e w' ⟨rfl,rfl⟩
    cases h2:letB x
    ·have H2:=Lib.hid h2; clear h2
     by_cases h3:x=45
     ·have hb3:(x == 45)=true:=by simp [h3]
      have H3:=Lib.hid hb3
      have H4:=Lib.hid h3; clear h3
      go_wp2
      go_step3
      rw [show ((k:Int)+1)=((k+1:Nat):Int) from rfl]
      refine ⟨rfl,⟨rfl,k+1,_,_,_,_,_,_,_,_,_,_,_,_,_,_,_,_,_,_,_,_,_,_,_,_,_,_,_,_,by omega,HN.out (by unfold idB; rw [H3.out]; simp),rfl⟩,?_⟩
      simp [LenM,intOf]; omega
     ·have hb3:(x == 45)=false:=by simp [h3]
      have H3:=Lib.hid hb3
      clear h3
      go_wp2
      simp only [Exit.jump]
      go_ret
      exact ⟨ret_int (by rw [HS.out (by unfold idB; rw [H1.out,H2.out,H3.out]; rfl)]),rfl⟩
    ·have H2:=Lib.hid h2; clear h2
     go_wp2
     go_step3
     rw [show ((k:Int)+1)=((k+1:Nat):Int) from rfl]
     refine ⟨rfl,⟨rfl,k+1,_,_,_,_,_,_,_,_,_,_,_,_,_,_,_,_,_,_,_,_,_,_,_,_,_,_,_,_,by omega,HN.out (by unfold idB; rw [H2.out]; simp),rfl⟩,?_⟩
     simp [LenM,intOf]; omega
   ·have H1:=Lib.hid h1; clear h1
    go_wp2
    go_step3
    rw [show ((k:Int)+1)=((k+1:Nat):Int) from rfl]
    refine ⟨rfl,⟨rfl,k+1,_,_,_,_,_,_,_,_,_,_,_,_,_,_,_,_,_,_,_,_,_,_,_,_,_,_,_,_,by omega,HN.out (by unfold idB; rw [H1.out]; rfl),rfl⟩,?_⟩
    simp [LenM,intOf]; omega
  ·have HS:Hid (lead l=k):=lead_stop l k (by rw [HL.out]; omega) HD.out (.inl (by rw [HL.out]; omega))
   go_wp2
   simp only [Exit.jump]
   go_ret
   exact ⟨ret_int (by rw [HS.out]),rfl⟩
 ·intro HP
  go_wp2
  go_step3
  rename_i hK
  exact hK _ _ (HP.out _ _ ⟨rfl,0,_,_,_,_,_,_,_,_,_,_,_,_,_,_,_,_,_,_,_,_,_,_,_,_,_,_,_,_,by omega,(fun j hj=>by omega),rfl⟩)
theorem fault_any (s:ByteArray) (i:Nat) (pre:Bool) (w:World) (hs:s.size≤maxLen) (hi:i≤maxLen) :
  Calls Tryz.prog 175 #[.string s,.int .i64 i,.bool pre] w fun e w'=>e=.returned (.int .i64 (fault s.data.toList i pre))∧Below w.heap.size w w':=by
 have HS:=Lib.hid hs
 unfold maxLen at hs hi
 have HL:=Lib.hid (Lib.size_eq s)
 by_cases h0:s.size=0
 ·have HF:=Lib.hid (fault_5 (s:=s.data.toList) i pre (by rw [← HL.out]; exact h0))
  have hem:=(empty_iff s).2 h0
  have H0:=Lib.hid h0; clear h0
  go_enter Tryz.func175,Tryz.ntmps175
  go_wp2
  go_ret
  exact ⟨by rw [HF.out]; rfl,Below.refl _ _⟩
 ·have hem:=(empty_no s).2 h0
  have H0:Hid (s.data.toList.length≠0):=by unfold Hid; rw [← HL.out]; exact h0
  clear h0
  by_cases h1:255<s.size
  ·have HF:=Lib.hid (fault_4 (s:=s.data.toList) (i:=i) pre H0.out (.inl (by rw [← HL.out]; exact h1)))
   go_enter Tryz.func175,Tryz.ntmps175
   go_wp2
   go_ret
   exact ⟨by rw [HF.out]; rfl,Below.refl _ _⟩
  ·by_cases h2:16≤i
   ·have HF:=Lib.hid (fault_4 (s:=s.data.toList) (i:=i) pre H0.out (.inr h2))
    go_enter Tryz.func175,Tryz.ntmps175
    go_wp2
    go_ret
    exact ⟨by rw [HF.out]; rfl,Below.refl _ _⟩
   ·have H12:Hid (¬ (255<s.data.toList.length∨16≤i)):=by unfold Hid; rw [← HL.out]; omega
    cases pre
    ·have HF:=Lib.hid (fault_0 (s:=s.data.toList) (i:=i) (pre:=false) H0.out H12.out (by simp))
     go_enter Tryz.func175,Tryz.ntmps175
     go_wp2
     go_ret
     exact ⟨by rw [HF.out]; rfl,Below.refl _ _⟩
    ·cases h3:numeric s.data.toList
     ·have HF:=Lib.hid (fault_0 (s:=s.data.toList) (i:=i) (pre:=true) H0.out H12.out (by simp [h3]))
      have H3:=Lib.hid h3; clear h3
      go_enter Tryz.func175,Tryz.ntmps175
      go_wp2_with fail
      refine (numeric_any s _ HS.out).mono ?_
      rintro e w' ⟨rfl,rfl⟩
      rw [H3.out]
      go_wp2
      go_ret
      exact ⟨by rw [HF.out]; rfl,Below.refl _ _⟩
     ·cases h4:isNum s.data.toList
      ·have HF:=Lib.hid (fault_3 (s:=s.data.toList) (i:=i) (pre:=true) H0.out H12.out ⟨rfl,h3,h4⟩)
       have H3:=Lib.hid h3; clear h3
       have H4:=Lib.hid h4; clear h4
       go_enter Tryz.func175,Tryz.ntmps175
       go_wp2_with fail
       refine (numeric_any s _ HS.out).mono ?_
       rintro e w' ⟨rfl,rfl⟩
       rw [H3.out]
       go_wp2_with fail
       refine (is_any s _ HS.out).mono ?_
       rintro e w1 ⟨rfl,hb1⟩
       rw [H4.out]
       go_wp2
       go_ret
       exact ⟨by rw [HF.out]; rfl,hb1⟩
      ·have HF:=Lib.hid (fault_0 (s:=s.data.toList) (i:=i) (pre:=true) H0.out H12.out (by simp [h4]))
       have H3:=Lib.hid h3; clear h3
       have H4:=Lib.hid h4; clear h4
       go_enter Tryz.func175,Tryz.ntmps175
       go_wp2_with fail
       refine (numeric_any s _ HS.out).mono ?_
       rintro e w' ⟨rfl,rfl⟩
       rw [H3.out]
       go_wp2_with fail
       refine (is_any s _ HS.out).mono ?_
       rintro e w1 ⟨rfl,hb1⟩
       rw [H4.out]
       go_wp2
       go_ret
       exact ⟨by rw [HF.out]; rfl,hb1⟩
end Go.Proofs.YtnpjklaaokiikaaGreatDoor.Ident
namespace Go.Proofs.YtnpjklaaokiikaaGreatDoor.Ident
open Go.RowKit Num

theorem trim_le (l:List UInt8):(Lib.trimLeftB l 48).length≤l.length:=(List.dropWhile_sublist _).length_le

theorem numeral_any (s:ByteArray) (w:World) :
  Calls Tryz.prog 255 #[.string s] w fun e w'=>e=.returned (.string (mk (numeral s.data.toList)))∧w=w':=by
 obtain ⟨t,ht⟩:∃ t:ByteArray,(⟨(Lib.trimLeftB s.data.toList 48).toArray⟩:ByteArray)=t:=⟨_,rfl⟩
 have HT:=Lib.hid ht
 have hz:t.size=(Lib.trimLeftB s.data.toList 48).length:=by rw [← ht]; rfl
 have HK:Hid (∀ W,Calls Tryz.prog 275 #[.string s,.string ⟨#[48]⟩] W fun e w'=>e=.returned (.string t)∧w'=W):=fun W=>by
  have:=Tryz.strings_TrimLeft_one s 48 (by decide) W
  rw [ht] at this
  exact this
 clear ht
 by_cases h0:t.size=0
 ·have HF:Hid (numeral s.data.toList=[48]):=by unfold Hid numeral; rw [if_pos (by rw [← hz]; exact h0)]
  have hem:=(empty_iff t).2 h0
  clear h0 hz
  go_enter Tryz.func255,Tryz.ntmps255
  go_wp2_with fail
  refine (HK.out _).mono ?_
  rintro e w' ⟨rfl,rfl⟩
  go_wp2
  go_ret
  exact ⟨by rw [HF.out]; rfl,rfl⟩
 ·have HF:Hid (numeral s.data.toList=Lib.trimLeftB s.data.toList 48):=by unfold Hid numeral; rw [if_neg (by rw [← hz]; exact h0)]
  have hem:=(empty_no t).2 h0
  clear h0 hz
  go_enter Tryz.func255,Tryz.ntmps255
  go_wp2_with fail
  refine (HK.out _).mono ?_
  rintro e w' ⟨rfl,rfl⟩
  go_wp2
  go_ret
  exact ⟨by rw [HF.out,← HT.out]; rfl,rfl⟩

theorem numeral_le (l:List UInt8) (h:0<l.length):(numeral l).length≤l.length:=by
 unfold numeral
 split
 ·simp; omega
 ·exact trim_le l

theorem numbers_anyD (s t:ByteArray) (w:World) (hs:s.size≤maxLen) (ht:t.size≤maxLen) (ha:numeric s.data.toList=true) (hb:numeric t.data.toList=true) :
  Calls Tryz.prog 233 #[.string s,.string t] w fun e w'=>e=.returned (.int .i64 (cmpId s.data.toList t.data.toList))∧BelowD w.heap.size w w':=by
 have HF:Hid (cmpId s.data.toList t.data.toList=if ordN (val s.data.toList) (val t.data.toList)=0 then ordN s.data.toList.length t.data.toList.length else ordN (val s.data.toList) (val t.data.toList)):=by
  unfold Hid cmpId; rw [if_pos ha,if_pos hb]
 have HL:=Lib.hid (Lib.size_eq s)
 have HM:=Lib.hid (Lib.size_eq t)
 rw [numeric_iff] at ha hb
 have z1:(mk (numeral s.data.toList)).size≤maxLen:=by have:=numeral_le _ ha.1; rw [mk_size]; rw [HL.out] at hs; omega
 have z2:(mk (numeral t.data.toList)).size≤maxLen:=by have:=numeral_le _ hb.1; rw [mk_size]; rw [HM.out] at ht; omega
 have HC:Hid (∀ W,Calls Tryz.prog 254 #[.string (mk (numeral s.data.toList)),.string (mk (numeral t.data.toList))] W fun e w'=>e=.returned (.int .i64 (ordN (val s.data.toList) (val t.data.toList)))∧BelowD W.heap.size W w'):=fun W=>by
  have:=Num.compare_anyD (mk (numeral s.data.toList)) (mk (numeral t.data.toList)) W z1 z2
  rw [mk_list,mk_list,cmpNum_yes (numeral_num (all_of_run ha.2)) (numeral_num (all_of_run hb.2)),numeral_val,numeral_val] at this
  exact this
 clear z1 z2 ha hb
 unfold maxLen at hs ht
 generalize val s.data.toList=x at HC HF
 generalize val t.data.toList=y at HC HF
 rw [← HL.out,← HM.out] at HF
 rcases ordN_cases x y with ⟨_,e⟩ | ⟨_,e⟩ | ⟨_,e⟩
 ·rw [e] at HC HF
  have HF2:Hid (cmpId s.data.toList t.data.toList=-1):=by have:=HF.out; rwa [if_neg (by omega)] at this
  clear e HF
  go_enter Tryz.func233,Tryz.ntmps233
  go_wp2_with fail
  refine (numeral_any s _).mono ?_
  rintro e w' ⟨rfl,rfl⟩
  go_wp2_with fail
  refine (numeral_any t _).mono ?_
  rintro e w' ⟨rfl,rfl⟩
  go_wp2_with fail
  refine (HC.out _).mono ?_
  rintro e w1 ⟨rfl,hb1⟩
  go_wp2
  go_ret
  exact ⟨by rw [HF2.out]; rfl,hb1⟩
 ·rw [e] at HC HF
  have HF2:Hid (cmpId s.data.toList t.data.toList=ordN s.size t.size):=by have:=HF.out; rwa [if_pos rfl] at this
  clear e HF
  go_enter Tryz.func233,Tryz.ntmps233
  go_wp2_with fail
  refine (numeral_any s _).mono ?_
  rintro e w' ⟨rfl,rfl⟩
  go_wp2_with fail
  refine (numeral_any t _).mono ?_
  rintro e w' ⟨rfl,rfl⟩
  go_wp2_with fail
  refine (HC.out _).mono ?_
  rintro e w1 ⟨rfl,hb1⟩
  go_wp2_with fail
  refine (cmp_any _ _ _).mono ?_
  rintro e w' ⟨rfl,rfl⟩
  go_wp2
  go_ret
  exact ⟨by rw [HF2.out]; rfl,hb1⟩
 ·rw [e] at HC HF
  have HF2:Hid (cmpId s.data.toList t.data.toList=1):=by have:=HF.out; rwa [if_neg (by omega)] at this
  clear e HF
  go_enter Tryz.func233,Tryz.ntmps233
  go_wp2_with fail
  refine (numeral_any s _).mono ?_
  rintro e w' ⟨rfl,rfl⟩
  go_wp2_with fail
  refine (numeral_any t _).mono ?_
  rintro e w' ⟨rfl,rfl⟩
  go_wp2_with fail
  refine (HC.out _).mono ?_
  rintro e w1 ⟨rfl,hb1⟩
  go_wp2
  go_ret
  exact ⟨by rw [HF2.out]; rfl,hb1⟩

theorem cmpId_left {a b:List UInt8} (ha:numeric a=true) (hb:numeric b=false):cmpId a b=-1:=by
 unfold cmpId; rw [if_pos ha,if_neg (by simp [hb])]
theorem cmpId_right {a b:List UInt8} (ha:numeric a=false) (hb:numeric b=true):cmpId a b=1:=by
 unfold cmpId; rw [if_neg (by simp [ha]),if_pos hb]
theorem cmpId_none {a b:List UInt8} (ha:numeric a=false) (hb:numeric b=false):cmpId a b=Lib.compareBytes a b:=by
 unfold cmpId; rw [if_neg (by simp [ha]),if_neg (by simp [hb])]

theorem idcmp_anyD (s t:ByteArray) (w:World) (hs:s.size≤maxLen) (ht:t.size≤maxLen) :
  Calls Tryz.prog 199 #[.string s,.string t] w fun e w'=>e=.returned (.int .i64 (cmpId s.data.toList t.data.toList))∧BelowD w.heap.size w w':=by
 have HS:=Lib.hid hs; clear hs
 have HT:=Lib.hid ht; clear ht
 cases ha:numeric s.data.toList
 ·cases hb:numeric t.data.toList
  ·have HF:=Lib.hid (cmpId_none ha hb)
   have HA:=Lib.hid ha; clear ha
   have HB:=Lib.hid hb; clear hb
   go_enter Tryz.func199,Tryz.ntmps199
   go_wp2_with fail
   refine (numeric_any s _ HS.out).mono ?_
   rintro e w' ⟨rfl,rfl⟩
   rw [HA.out]
   go_wp2_with fail
   refine (numeric_any t _ HT.out).mono ?_
   rintro e w' ⟨rfl,rfl⟩
   rw [HB.out]
   go_wp2_with fail
   refine (strcmp_any _ _ _).mono ?_
   rintro e w' ⟨rfl,rfl⟩
   go_wp2
   go_ret
   exact ⟨by rw [HF.out]; rfl,BelowD.refl _ _⟩
  ·have HF:=Lib.hid (cmpId_right ha hb)
   have HA:=Lib.hid ha; clear ha
   have HB:=Lib.hid hb; clear hb
   go_enter Tryz.func199,Tryz.ntmps199
   go_wp2_with fail
   refine (numeric_any s _ HS.out).mono ?_
   rintro e w' ⟨rfl,rfl⟩
   rw [HA.out]
   go_wp2_with fail
   refine (numeric_any t _ HT.out).mono ?_
   rintro e w' ⟨rfl,rfl⟩
   rw [HB.out]
   go_wp2
   go_ret
   exact ⟨by rw [HF.out]; rfl,BelowD.refl _ _⟩
 ·cases hb:numeric t.data.toList
  ·have HF:=Lib.hid (cmpId_left ha hb)
   have HA:=Lib.hid ha; clear ha
   have HB:=Lib.hid hb; clear hb
   go_enter Tryz.func199,Tryz.ntmps199
   go_wp2_with fail
   refine (numeric_any s _ HS.out).mono ?_
   rintro e w' ⟨rfl,rfl⟩
   rw [HA.out]
   go_wp2_with fail
   refine (numeric_any t _ HT.out).mono ?_
   rintro e w' ⟨rfl,rfl⟩
   rw [HB.out]
   go_wp2
   go_ret
   exact ⟨by rw [HF.out]; rfl,BelowD.refl _ _⟩
  ·have HC:=Lib.hid (fun W=>numbers_anyD s t W HS.out HT.out ha hb)
   have HA:=Lib.hid ha; clear ha
   have HB:=Lib.hid hb; clear hb
   go_enter Tryz.func199,Tryz.ntmps199
   go_wp2_with fail
   refine (numeric_any s _ HS.out).mono ?_
   rintro e w' ⟨rfl,rfl⟩
   rw [HA.out]
   go_wp2_with fail
   refine (numeric_any t _ HT.out).mono ?_
   rintro e w' ⟨rfl,rfl⟩
   rw [HB.out]
   go_wp2_with fail
   refine (HC.out _).mono ?_
   rintro e w1 ⟨rfl,hb1⟩
   go_wp2
   go_ret
   exact ⟨rfl,hb1⟩
end Go.Proofs.YtnpjklaaokiikaaGreatDoor.Ident
namespace Go.Proofs.YtnpjklaaokiikaaGreatDoor.Range
open Num Ident Semver

inductive Rng where
 | mk (kind:Int) (v:Ver) (l:List Rng)
def Rng.kind:Rng→Int
 | .mk k _ _=>k
def Rng.ver:Rng→Ver
 | .mk _ v _=>v
def Rng.subs:Rng→List Rng
 | .mk _ _ l=>l
def noRng:Rng:=.mk 0 noVer []
instance:Inhabited Rng:=⟨noRng⟩

def blankB (b:UInt8):Bool:=b == 32 || b == 9
def blanks:List UInt8→List UInt8
 | []=>[]
 | b :: s=>if blankB b then blanks s else b :: s
def stands (t s:List UInt8):Bool:=t.isPrefixOf s
def oneOf (some s:List UInt8):Bool:=match s with
 | []=>false
 | b :: _=>decide (b ∈ some)
def lackN (s:List UInt8):Nat:=if s=[] then 5 else 3
def digits:List UInt8:=[48,49,50,51,52,53,54,55,56,57]
def starts:List UInt8:=[40,33,42,62,60,61,94,126,48,49,50,51,52,53,54,55,56,57]
def ops:List (List UInt8):=[[62,61],[62],[60,61],[60],[61],[33,61],[94],[126]]
def opFrom (s:List UInt8):List (List UInt8)→Int→Int × List UInt8
 | [],_=>(5,[])
 | t :: r,k=>if stands t s then (k,t) else opFrom s r (k+1)
def opOf (s:List UInt8):Int × List UInt8:=opFrom s ops 1
abbrev Out:=Nat × List UInt8 × Rng
def verAt (kind:Int) (s:List UInt8):Out :=
 if oneOf digits s=true then
  if (vparse s 0).1≠0 then ((vparse s 0).1,s.drop (vparse s 0).2.1,noRng) else (0,blanks (s.drop (vparse s 0).2.1),.mk kind (vparse s 0).2.2 [])
 else (lackN s,s,noRng)
def whole (kind:Int) (acc:List Rng) (r:Rng):Rng:=if acc=[] then r else .mk kind noVer (acc ++ [r])
def sev (pf:List UInt8→Out) (ff:List UInt8→Option (List UInt8)) (kind:Int):Nat→List Rng→List UInt8→Out
 | 0,_,s=>(99,s,noRng)
 | n+1,acc,s=>if (pf s).1≠0 then ((pf s).1,(pf s).2.1,noRng) else
  match ff (pf s).2.1 with
  | some s'=>sev pf ff kind n (acc ++ [(pf s).2.2]) s'
  | none=>(0,(pf s).2.1,whole kind acc (pf s).2.2)
def furE (s:List UInt8):Option (List UInt8):=if stands [124,124] s=true then some (blanks (s.drop 2)) else none
def furO (s:List UInt8):Option (List UInt8):=if stands [44] s=true then some (blanks (s.drop 1)) else if oneOf starts s=true then some s else none
def everyF (pf:List UInt8→Out) (s:List UInt8):Out:=sev pf furO 9 (s.length+1) [] s
def exprF (pf:List UInt8→Out) (s:List UInt8):Out:=sev (everyF pf) furE 10 (s.length+1) [] s
def shutF (t:Out):Out:=if t.1≠0 then (t.1,t.2.1,noRng) else if stands [41] t.2.1=true then (0,blanks (t.2.1.drop 1),t.2.2) else (lackN t.2.1,t.2.1,noRng)
def notF (t:Out):Out:=if t.1≠0 then (t.1,t.2.1,noRng) else (0,t.2.1,.mk 11 noVer [t.2.2])
def oneF (sub:Option (List UInt8→Out)) (s:List UInt8):Out :=
 if stands [42] s=true then (0,blanks (s.drop 1),noRng)
 else if stands [40] s=true then (match sub with
  | none=>(8,s,noRng)
  | some f=>shutF (exprF f (blanks (s.drop 1))))
 else if (opOf s).2=[]∧stands [33] s=true then (match sub with
  | none=>(8,s,noRng)
  | some f=>notF (f (blanks (s.drop 1))))
 else verAt (opOf s).1 (blanks (s.drop (opOf s).2.length))
def pone:Nat→List UInt8→Out
 | 0=>oneF none
 | k+1=>oneF (some (pone k))

def bracketed (outer kind:Int):Bool:=decide (kind=10∨kind=9∧outer≠10)
def ofVersion (kind:Int):Bool:=decide (1≤kind∧kind≤8)
def opens (outer kind:Int):Nat:=(if outer=11 then 1 else 0)+(if bracketed outer kind=true then 1 else 0)
def fits (kind:Int) (v:Ver) (n:Nat):Bool :=
 if ofVersion kind=true then goodV v && decide (n=0)
 else if sameV v noVer=false then false
 else if kind=0 then decide (n=0) else if kind=9∨kind=10 then decide (2≤n) else if kind=11 then decide (n=1) else false
mutual
def goodR:Rng→Nat→Bool
 | .mk kind v l,deep=>decide (deep≤64) && fits kind v l.length && goodL kind l deep
def goodL (outer:Int):List Rng→Nat→Bool
 | [],_=>true
 | r :: rs,deep=>goodR r (deep+opens outer r.kind) && goodL outer rs deep
end
def markR (kind:Int) (v:Ver):List UInt8 :=
 if kind=0 then [42] else if kind=9∨kind=10 then [] else if kind=11 then [33] else if ofVersion kind=true then ops.getD (kind - 1).toNat [] ++ vtext v else vtext v
def aheadR (outer kind:Int) (told:Nat):List UInt8 :=
 if outer=11∧kind=5 then [32] else if told=0 then [] else if outer=10 then [32,124,124,32] else [44,32]
def openR (outer kind:Int):List UInt8:=if bracketed outer kind=true then [40] else []
def shutR (outer kind:Int):List UInt8:=if bracketed outer kind=true then [41] else []
def most (kind:Int) (n:Nat):Nat:=if kind=9∨kind=10 then n else if kind=11 then min 1 n else 0
mutual
def textR:Rng→List UInt8
 | .mk kind v l=>markR kind v ++ textL kind (most kind l.length) l 0
def textL (outer:Int) (m:Nat):List Rng→Nat→List UInt8
 | [],_=>[]
 | r :: rs,i=>if i<m then aheadR outer r.kind i ++ (openR outer r.kind ++ textR r ++ shutR outer r.kind) ++ textL outer m rs (i+1) else []
end
theorem goodR_eq (kind:Int) (v:Ver) (l:List Rng) (deep:Nat):goodR (.mk kind v l) deep=(decide (deep≤64) && fits kind v l.length && goodL kind l deep):=rfl
theorem goodL_cons (outer:Int) (r:Rng) (rs:List Rng) (deep:Nat):goodL outer (r :: rs) deep=(goodR r (deep+opens outer r.kind) && goodL outer rs deep):=rfl
end Go.Proofs.YtnpjklaaokiikaaGreatDoor.Range
