/-
  What the theorem of the last text needs of these: ShWords, ShLineAt, ShApp, ShRestR, ShRestN. Conditions: as each theorem states.
-/
import Derived.Test.YtgakcdcfblgagaaDoorJoA1
import Derived.Test.YtgakcdcfblgagaaDoorJoA2
import Derived.Test.YtgakcdcfblgagaaDoorJoA12
import Derived.Test.YtgakcdcfblgagaaDoorJoA14
import Derived.Test.YtgakcdcfblgagaaDoorJoA15
import Derived.Maps.OwnSet
import Derived.Maps.OwnOps
import Derived.WalkSpells
set_option maxRecDepth 100000
set_option maxHeartbeats 25600000
namespace Go.Proofs.YtgakcdcfblgagaaDoor.Sheet
open Go.RowKit Num Ident Semver Fr
open KR (AtV)
open Go.Maps (Keyed IsMap)

theorem strKeyed:Keyed Tryd.prog 9:=Go.Maps.string_keyed Tryd.underlying9
theorem strKey {s:ByteArray} (h:s.size≤maxLen):keyOf Tryd.prog 9 (.string s)=some (.string s.data.toList):=Go.WideMaps.keyOf_string_mk Tryd.underlying9 h
def fnElem (v:Value):Option (DataW Value × List MemPlace):=some (.held v,[])
abbrev Words:=List UInt8→Option (Nat × Array Value)
def WordsAt (W:World) (mb:Nat) (f:Words):Prop :=
 ∃ (D:DataW Value) (m:Nat),m≤100∧W.ownsMap Tryd.prog 9 fnElem mb m D∧IsMap D∧(∀ s,Maps.has D (.string s)=(f s).isSome)∧∀ s g lb,f s=some (g,lb)→∀ z,D.atKey (.string s) z=.held (.func (.func g) #[] lb)
theorem WordsAt.but {T:Nat→Prop} {W W':World} {mb:Nat} {f:Words} (h:WordsAt W mb f) (hb:But T W W') (hn:¬ T mb):WordsAt W' mb f:=by
 obtain ⟨D,m,h0,h1,h2⟩:=h
 exact ⟨D,m,h0,map_but h1 hb hn,h2⟩
theorem WordsAt.kept {W W':World} {mb:Nat} {f:Words} (h:WordsAt W mb f) (hb:Below W.heap.size W W'):WordsAt W' mb f :=
 h.but (But.of_same hb fun _=>False) fun g=>g
theorem zeroFn (w:World):(zeroValue 72).run Tryd.prog w=.ok .nilFunc w:=by kernel_rfl
theorem WordsAt.look {W:World} {mb:Nat} {f:Words} (h:WordsAt W mb f) {s:List UInt8} (hs:s.length≤maxLen) :
  (Instr.lookup 67 (.map (some mb)) (.string (Ident.mk s)) true).run Tryd.prog W=.ok (.tuple #[(match f s with | some (g,lb)=>.func (.func g) #[] lb | none=>.nilFunc),.bool (f s).isSome]) W:=by
 obtain ⟨D,m,_,hown,hmap,hhas,hat⟩:=h
 have hk:keyOf Tryd.prog 9 (.string (Ident.mk s))=some (.string s):=by have:=strKey (s:=Ident.mk s) (by rw [mk_size]; exact hs); rwa [mk_list] at this
 obtain ⟨v,ps,hrun,hv⟩:=hown.look_ok (t:=67) (e:=72) strKeyed Tryd.underlying67 (z:=.nilFunc) (zeroFn W) (zd:=.held .nilFunc) (zp:=[]) rfl hk
 have hv:(DataW.held v,([]:List MemPlace))=(D.atKey (.string s) (.held .nilFunc),ps):=Option.some.inj hv
 replace hv:DataW.held v=D.atKey (.string s) (.held .nilFunc):=congrArg Prod.fst hv
 rw [hrun,hhas]
 cases hf:f s with
 | some q =>
  obtain ⟨g,lb⟩:=q
  rw [hat s g lb hf] at hv
  rw [DataW.held.inj hv]
 | none =>
  have hno:Maps.has D (.string s)=false:=by rw [hhas,hf]; rfl
  rw [Go.Maps.atKey_of_not_has hno] at hv
  rw [DataW.held.inj hv]
theorem words_add {D:DataW Value} {f:Words} {s:List UInt8} {g:Nat} {lb:Array Value} (hm:IsMap D) (hh:∀ n,Maps.has D (.string n)=(f n).isSome) (ha:∀ n g lb,f n=some (g,lb)→∀ z,D.atKey (.string n) z=.held (.func (.func g) #[] lb)) :
  IsMap (D.put (.string s) (.held (.func (.func g) #[] lb)))∧(∀ n,Maps.has (D.put (.string s) (.held (.func (.func g) #[] lb))) (.string n)=(if n=s then some (g,lb) else f n).isSome)∧∀ n g' lb',(if n=s then some (g,lb) else f n)=some (g',lb')→∀ z,(D.put (.string s) (.held (.func (.func g) #[] lb))).atKey (.string n) z=.held (.func (.func g') #[] lb'):=by
 refine ⟨hm.put _ _,fun n=>?_,fun n g' lb' h z=>?_⟩
 ·by_cases e:n=s
  ·rw [e,Go.Maps.has_put_same hm (show WideAt.IsKeyLit (.string s) from by simp [WideAt.IsKeyLit])]; simp
  ·rw [Go.Maps.has_put_other (fun e2=>e (by injection e2)),hh,if_neg e]
 ·by_cases e:n=s
  ·rw [if_pos e] at h
   injection h with h
   injection h with h1 h2
   subst h1
   subst h2
   rw [e,Go.Maps.atKey_put_same hm (show WideAt.IsKeyLit (.string s) from by simp [WideAt.IsKeyLit])]
  ·rw [if_neg e] at h
   rw [Go.Maps.atKey_put_other (fun e2=>e (by injection e2)),ha n g' lb' h]
theorem skip_empty {t:List UInt8} (h:t=[]):skipB t=true:=by subst h; rfl
theorem skip_head {t:List UInt8} (h:t≠[]):skipB t=(byteAt t 0 == 35):=by
 cases t with
 | nil=>exact absurd rfl h
 | cons c t =>
  unfold skipB
  have e1:((c :: t) == [])=false:=rfl
  rw [e1,Bool.false_or]
  simp only [List.head?_cons,byteAt,List.getD_cons_zero]
  by_cases hc:c=35
  ·subst hc; rfl
  ·have h1:(some c == some (35:UInt8))=false:=by simp [hc]
   have h2:(((c.toNat:Nat):Int) == 35)=false:=by
    rw [beq_eq_false_iff_ne]
    intro e
    exact hc (UInt8.toNat_inj.1 (by simp; omega))
   rw [h1,h2]
theorem take_any (mb lb b o n c:Nat) (l:List UInt8) (k:Nat) (f:Words) (w:World) (R:Ending→World→Prop) (h:Ln w lb b o n c l k) (hw:WordsAt w mb f)
  (h0:skipB (l.drop k)=true→∀ W,Below w.heap.size w W→R (.returned (.int .i64 0)) W)
  (h1:skipB (l.drop k)=false→f (wordOf (l.drop k))=none→∀ W,Below w.heap.size w W→R (.returned (.int .i64 13)) W)
  (h2:skipB (l.drop k)=false→∀ g lbs,f (wordOf (l.drop k))=some (g,lbs)→(∀ args w,(callFunc g args).run Tryd.prog w=.ok (.enter g args) w)∧∀ W,Below w.heap.size w W→Calls Tryd.prog g (#[.pointer (some ⟨lb,0,none⟩)] ++ lbs) W fun e w'=>(∃ q:Int,e=.returned (.int .i64 q))∧R e w') :
  Calls Tryd.prog 29 #[.map (some mb),.pointer (some ⟨lb,0,none⟩)] w R:=by
 have H:=Lib.hid h
 have HW:=Lib.hid hw
 have hk:=h.kn
 have hln:l.length=n:=h.row.1
 have H0:=Lib.hid h0
 have H1:=Lib.hid h1
 have H2:=Lib.hid h2
 clear h hw h0 h1 h2
 have c0:=H.out.at_.at_ 0 _ rfl
 have c1:=H.out.at_.at_ 1 _ rfl
 have lt:=H.out.at_.lt
 have hkn2:(0:Int)≤(k:Int):=by omega
 have HE:=Lib.hid (fun W (hB:Below w.heap.size w W)=>ends_any lb b o n c l k W (H.out.kept hB))
 have HS0:Hid (Below w.heap.size w w.drew):=(Below.refl _ _).drew
 by_cases he:k=n
 ·have HSK:Hid (skipB (l.drop k)=true):=skip_empty (List.drop_eq_nil_of_le (by omega))
  have hd:decide (k=n)=true:=decide_eq_true he
  rw [hd] at HE
  clear hd he c0 c1
  go_enter Tryd.func29,Tryd.ntmps29
  go_wp2_with fail
  refine wp_region_held_drew (S:=fun w'=>Below w.heap.size w w') (by kernel_rfl) HS0.out (fun hHeld=>?_)
  generalize w.drew=wd at HS0 hHeld ⊢
  refine tk 0 rfl (.pointer (some ⟨lb,0,none⟩)) ?_
  refine cl 1 rfl fun K hK=>?_
  go_simp
  refine (HE.out wd HS0.out).mono ?_
  rintro e w2 ⟨rfl,hb⟩
  have HB2:Hid (Below w.heap.size w w2):=HS0.out.trans (hb.mono HS0.out.size)
  refine hK.out _ _ HB2.out (fun hHeld2=>?_)
  clear hK K hb
  try simp only [Act.put,p1,p2,p3]
  refine tk 2 rfl (.bool true) ?_
  refine sk 3 rfl ?_
  refine sk 4 rfl ?_
  refine sk 5 rfl ?_
  refine sk 6 rfl ?_
  refine sk 7 rfl ?_
  refine sk 8 rfl ?_
  refine sk 9 rfl ?_
  refine sk 10 rfl ?_
  refine sk 11 rfl ?_
  refine sk 12 rfl ?_
  refine sk 13 rfl ?_
  refine tk 14 rfl (.bool true) ?_
  refine wpAnyH_done (by kernel_rfl) ?_ _
  clear hHeld hHeld2
  go_wp2
  exact H0.out HSK.out _ HB2.out
 ·have hd:decide (k=n)=false:=decide_eq_false he
  have hkn:k<n:=by omega
  rw [hd] at HE
  obtain ⟨x,hx⟩:∃ x,byteAt l k=x:=⟨_,rfl⟩
  have hne:l.drop k≠[]:=fun e=>by
   have:=List.drop_eq_nil_iff.1 e
   omega
  have HSK:Hid (skipB (l.drop k)=(x == 35)):=by
   unfold Hid
   rw [skip_head hne,← hx]
   have e:byteAt (l.drop k) 0=byteAt l k:=by simp [byteAt,List.getD]
   rw [e]
  obtain ⟨b',o',ea,hbl,hcell⟩:=H.out.row.2.2 (by omega)
  injection ea with ea
  injection ea with ea1 ea2
  subst ea1
  subst ea2
  have cx:=hcell k hkn
  rw [hx] at cx
  clear hcell hx hne
  have hks:(k:Int)<(n:Int):=by omega
  clear hd he
  go_enter Tryd.func29,Tryd.ntmps29
  go_wp2_with fail
  refine wp_region_held_drew (S:=fun w'=>Below w.heap.size w w') (by kernel_rfl) HS0.out (fun hHeld=>?_)
  generalize w.drew=wd at HS0 hHeld ⊢
  refine tk 0 rfl (.pointer (some ⟨lb,0,none⟩)) ?_
  refine cl 1 rfl fun K hK=>?_
  go_simp
  refine (HE.out wd HS0.out).mono ?_
  rintro e w2 ⟨rfl,hb⟩
  have HB2:Hid (Below w.heap.size w w2):=HS0.out.trans (hb.mono HS0.out.size)
  refine hK.out _ _ HB2.out (fun hHeld2=>?_)
  clear hK K hb
  try simp only [Act.put,p1,p2,p3]
  refine tk 2 rfl (.bool false) ?_
  refine tk 3 rfl (.pointer (some ⟨lb,0,none⟩)) ?_
  refine tk 4 rfl (.pointer (some ⟨lb,0,none⟩)) ?_
  refine tk 5 rfl (.pointer (some ⟨lb,0,none⟩)) ?_
  refine tk 6 rfl (.slice (some ⟨b,o,none⟩) n c) ?_ (hv:=fun w' hS'=>by (have z0:=(hS'.cell (p:=⟨lb,0,none⟩) lt).trans c0); go_simp)
  refine tk 7 rfl (.pointer (some ⟨lb,0,none⟩)) ?_
  refine tk 8 rfl (.pointer (some ⟨lb,0,none⟩)) ?_
  refine tk 9 rfl (.pointer (some ⟨lb,1,none⟩)) ?_
  refine tk 10 rfl (.int .i64 k) ?_ (hv:=fun w' hS'=>by (have z0:=(hS'.cell (p:=⟨lb,1,none⟩) lt).trans c1); go_simp)
  refine tk 11 rfl (.pointer (some ⟨b,o+k,none⟩)) ?_
  refine tk 12 rfl (.int .u8 x) ?_ (hv:=fun w' hS'=>by (have z0:=(hS'.cell (p:=⟨b,o+k,none⟩) hbl).trans cx); go_simp)
  refine tk 13 rfl (.bool (x == 35)) ?_
  refine tk 14 rfl (.bool (x == 35)) ?_
  refine wpAnyH_done (by kernel_rfl) ?_ _
  clear hHeld hHeld2 c0 c1 cx
  cases hx:x == 35 with
  | true =>
   rw [hx] at HSK
   go_wp2
   exact H0.out HSK.out _ HB2.out
  | false =>
   rw [hx] at HSK
   have HP:=Lib.hid (part_any lb b o n c l k w2 (H.out.kept HB2.out))
   have hwl:(wordOf (l.drop k)).length≤maxLen:=by
    have h1:=word_le (l.drop k)
    have h2:=H.out.row.2.1
    rw [List.length_drop] at h1
    omega
   have HLK:=Lib.hid (fun W hB=>(HW.out.kept (W':=W) hB).look hwl)
   obtain ⟨s,hs⟩:∃ s,wordOf (l.drop k)=s:=⟨_,rfl⟩
   rw [hs] at HP HLK H1 H2
   clear hs hwl hx
   go_wp2_with fail
   refine HP.out.mono ?_
   rintro e w3 ⟨A',c',rfl,hr,hb⟩
   have HB3:Hid (Below w.heap.size w w3):=HB2.out.trans (hb.mono HB2.out.size)
   have hconv:=run_text hr c'
   have hlook:=HLK.out w3 HB3.out
   clear hb hr
   cases hf:f s with
   | none =>
    rw [hf] at hlook
    have HF:=Lib.hid hf
    have hlook:(Instr.lookup 67 (.map (some mb)) (.string (Ident.mk s)) true).run Tryd.prog w3=.ok (.tuple #[.nilFunc,.bool false]) w3:=hlook
    clear hf
    go_wp2
    exact H1.out HSK.out HF.out _ HB3.out
   | some q =>
    obtain ⟨g,lbs⟩:=q
    rw [hf] at hlook
    have hlook:(Instr.lookup 67 (.map (some mb)) (.string (Ident.mk s)) true).run Tryd.prog w3=.ok (.tuple #[.func (.func g) #[] lbs,.bool true]) w3:=hlook
    obtain ⟨eg,hkeep⟩:=H2.out HSK.out g lbs hf
    have HK3:=Lib.hid (hkeep w3 HB3.out)
    clear hf hkeep
    go_wp2_with (go_at_fn g; refine HK3.out.mono ?_; rintro e w' ⟨⟨q,rfl⟩,hR⟩)
    first
     | exact hR
     | (go_wp2; exact hR)
     | (go_ret; exact hR)
end Go.Proofs.YtgakcdcfblgagaaDoor.Sheet
namespace Go.Proofs.YtgakcdcfblgagaaDoor.Sheet
open Go.RowKit Num Ident Semver Fr
open KR (AtV)

theorem lineOf_all {s:List UInt8} (h:(10:UInt8) ∉ s):lineOf s=s:=while_none h
theorem lineOf_lt {s:List UInt8} (h:(10:UInt8) ∈ s):(lineOf s).length<s.length:=by
 rcases Nat.lt_or_ge (lineOf s).length s.length with q | q
 ·exact q
 ·have e:lineOf s=s:=(List.takeWhile_prefix _).eq_of_length_le q
  unfold lineOf at e
  rw [← e] at h
  exact absurd rfl (while_mem h)
theorem lineAt_any (b o n c k:Nat) (l:List UInt8) (w:World) (h:Row w (some ⟨b,o,none⟩) n l) (hk:k<n) (hc:n≤c) (hm:c≤maxLen) :
  Calls Tryd.prog 28 #[.slice (some ⟨b,o,none⟩) n c,.int .i64 k] w fun e w'=>e=.returned (.agg #[.slice (some ⟨b,o,none⟩) (k+(lineOf (l.drop k)).length) c,.int .i64 k])∧Below w.heap.size w w':=by
 unfold maxLen at hm
 obtain ⟨o',hA⟩:∃ o',(if c=k then some (⟨b,o,none⟩:Addr) else (some (⟨b,o,none⟩:Addr)).map (fun x=>x.add k))=some ⟨b,o',none⟩:=by
  split
  ·exact ⟨o,rfl⟩
  ·exact ⟨o+k,by rw [Option.map_some,add_none]⟩
 have hln:l.length=n:=h.1
 have H1:Hid (Below w.heap.size w (w.alloc (.cells #[.slice none 0 0,.int .i64 0] 87))):=(Below.refl _ _).alloc (Nat.le_refl _) _
 have HR2:=Lib.hid ((Ident.Row.from_ h k c (Nat.le_of_lt hk) hc hA).kept H1.out)
 have HCON:=Lib.hid (indexByte_any b o' (n - k) (c - k) (l.drop k) 10 _ HR2.out)
 have hle:=lineOf_le (l.drop k)
 rw [List.length_drop,hln] at hle
 have hck:¬ c=k:=by omega
 have hnk:¬ n<k:=by omega
 have hcn:¬ c<n:=by omega
 rw [if_neg hck,Option.map_some,add_none] at hA
 have hoo:o'=o+k:=by injection hA with hA; injection hA with _ hA; exact hA.symm
 subst hoo
 clear h hA
 obtain ⟨m,hm0⟩:∃ m,(lineOf (l.drop k)).length=m:=⟨_,rfl⟩
 have hmw:((l.drop k).takeWhile (· != (10:UInt8))).length=m:=hm0
 rw [hmw] at HCON
 rw [hm0] at hle
 rw [hm0]
 by_cases h10:(10:UInt8) ∈ l.drop k
 ·rw [if_pos h10] at HCON
  have hlt:=lineOf_lt h10
  rw [hm0,List.length_drop,hln] at hlt
  obtain ⟨j,hj⟩:∃ j,k+m=j:=⟨_,rfl⟩
  have hcj:¬ c<j:=by omega
  have hwk:IntKind.i64.wrap ((k:Int)+(m:Int))=(j:Int):=by rw [IntKind.wrap_i64]; omega
  rw [hj]
  clear h10 hm0 hmw hj
  go_enter Tryd.func28,Tryd.ntmps28
  go_wp2_with fail
  refine HCON.out.mono ?_
  rintro e w' ⟨rfl,rfl⟩
  go_wp2
  exact bodyPost_ret (v:=.agg #[.slice (some ⟨b,o,none⟩) j c,.int .i64 k]) (by simp [results,Tryd.results28,go_sem]) rfl ⟨rfl,(Below.refl _ _).alloc (Nat.le_refl _) _⟩
 ·rw [if_neg h10] at HCON
  have hme:m=n - k:=by
   rw [← hm0,lineOf_all h10,List.length_drop,hln]
  have hkm:k+m=n:=by omega
  rw [hkm]
  clear h10 hm0 hmw hkm hme
  go_enter Tryd.func28,Tryd.ntmps28
  go_wp2_with fail
  refine HCON.out.mono ?_
  rintro e w' ⟨rfl,rfl⟩
  go_wp2
  exact bodyPost_ret (v:=.agg #[.slice (some ⟨b,o,none⟩) n c,.int .i64 k]) (by simp [results,Tryd.results28,go_sem]) rfl ⟨rfl,(Below.refl _ _).alloc (Nat.le_refl _) _⟩
end Go.Proofs.YtgakcdcfblgagaaDoor.Sheet
namespace Go.Proofs.YtgakcdcfblgagaaDoor.Sheet
open Go.RowKit Num Ident Semver Fr
open KR (KRow AtV)
open Model (PDep PRel PPack MDep MVer MRel MPack MPin DepOk VerOk RelOk PackOk PinOk DRow RRow PRow)

theorem run_append_at {α:Type} [Inhabited α] {vals:α→List Value} {k bytes:Nat} {T E:TypeId} {z:Value} (hT:Tryd.prog.underlying T=some (.slice E)) (hI:(Tryd.prog.info? E).map (fun i=>(i.zero,i.size,i.bytes))=some (some z,k,bytes)) (hz:z.cells.size=k) (hk:∀ x,(vals x).length=k) (hk0:0<k) (h1:∀ x,∀ u ∈ vals x,u.oneCell'=true)
  (w:World) (ty:TypeId) (base:Nat) (v:Value) (n:Nat) (l:List α) (hown:w.ownsRow base E k v n (l.flatMap vals)) (ad:Addr) (c:Nat) (x:α) (hx:∀ j u,(vals x)[j]?=some u→w.cell? (ad.add j)=some u) (hm:n+1≤maxLen) (hb:(n+1) * bytes≤140737488355328) (hbase:base≤w.heap.size) :
  ∃ v' w',(Builtin.append_ #[T,T] ty #[v,.slice (some ad) 1 c]).run Tryd.prog w=.ok v' w'∧w'.ownsRow base E k v' (n+1) ((l ++ [x]).flatMap vals)∧w.grownBy w' v.ownBlock∧(v'.ownBlock=v.ownBlock∨v'.ownBlock=some w.heap.size):=by
 obtain ⟨i,hi,hzi,hs,hby⟩:=info_parts hI
 obtain ⟨v',w',h3,h4,h5,_,h6⟩:=run_append_own_at (P:=Tryd.prog) w base T ty E i z k bytes hT hi hzi hs hby hz hk0 v n _ hown ad 1 c (vals x)
  (by rw [hk]; omega) hx (h1 x) hm hb hbase
 exact ⟨v',w',h3,by rw [List.flatMap_append]; simpa using h4,h5,h6⟩
theorem relInfo:(Tryd.prog.info? 47).map (fun i=>(i.zero,i.size,i.bytes))=some (some (.agg #[.int .u64 0,.int .u64 0,.int .u64 0,.slice none 0 0,.slice none 0 0,.bool false,.slice none 0 0,.slice none 0 0]),8,128):=by kernel_rfl
theorem packInfo:(Tryd.prog.info? 41).map (fun i=>(i.zero,i.size,i.bytes))=some (some (.agg #[.string ⟨#[]⟩,.slice none 0 0]),2,40):=by kernel_rfl
theorem pinInfo:(Tryd.prog.info? 60).map (fun i=>(i.zero,i.size,i.bytes))=some (some (.agg #[.string ⟨#[]⟩,.int .u64 0,.int .u64 0,.int .u64 0,.slice none 0 0,.slice none 0 0]),6,88):=by kernel_rfl
theorem rel_one (r:MRel):∀ u ∈ r.vals,u.oneCell'=true:=by
 intro u hu
 simp only [MRel.vals,MVer.vals,List.cons_append,List.nil_append,List.mem_cons,List.mem_nil_iff,or_false] at hu
 rcases hu with rfl | rfl | rfl | rfl | rfl | rfl | rfl | rfl <;> rfl
theorem pack_one (r:MPack):∀ u ∈ r.vals,u.oneCell'=true:=by
 intro u hu
 simp only [MPack.vals,List.mem_cons,List.mem_nil_iff,or_false] at hu
 rcases hu with rfl | rfl <;> rfl
theorem pin_mono {w:World} {S S':Nat→Prop} {p:MPin} (h:PinOk w S p) (hS:∀ b,S b→b<w.heap.size→S' b):PinOk w S' p:=⟨h.short,h.ver.mono hS⟩
theorem pinlen (p:MPin):p.vals.length=6:=rfl
theorem pin_one (r:MPin):∀ u ∈ r.vals,u.oneCell'=true:=by
 intro u hu
 simp only [MPin.vals,MVer.vals,List.mem_cons,List.mem_nil_iff,or_false] at hu
 rcases hu with rfl | rfl | rfl | rfl | rfl | rfl <;> rfl
structure Slot {α:Type} (vals:α→List Value) (k:Nat) (E:TypeId) (W:World) (B qb qo:Nat) (v:Value) (m:Nat) (xs:List α):Prop where
 cell:W.cell? ⟨qb,qo,none⟩=some v
 fr:W.frozen? ⟨qb,qo,none⟩=false
 own:W.ownsRow B E k v m (xs.flatMap vals)
 lt:qb<W.heap.size
 base:B≤W.heap.size
 ne:∀ g,v.ownBlock=some g→g≠qb
theorem Slot.oth {α:Type} {vals:α→List Value} {k:Nat} {E:TypeId} {W W':World} {B qb qo:Nat} {v:Value} {m:Nat} {xs:List α} {T:Nat→Prop} (h:Slot vals k E W B qb qo v m xs) (hb:But T W W') (h1:¬ T qb) (h2:∀ g,v.ownBlock=some g→¬ T g):Slot vals k E W' B qb qo v m xs :=
 ⟨(hb.cell h.lt h1).trans h.cell,(hb.frozen h.lt h1).trans h.fr,own_but h.own hb h2,Nat.lt_of_lt_of_le h.lt hb.size,Nat.le_trans h.base hb.size,h.ne⟩
def Kept {α:Type} (vals:α→List Value) (k:Nat) (E:TypeId) (Ok:World→(Nat→Prop)→α→Prop) (Is:α→Prop) (w:World) (lb B qb qo:Nat) (v:Value) (m:Nat) (xs:List α) (w':World):Prop :=
 ∃ (x:α) (v':Value) (W1 Wa:World),Is x∧Ok W1 (fun g=>w.heap.size≤g∧g<W1.heap.size) x∧But (fun g=>g=lb) w W1∧W1.grownBy Wa v.ownBlock∧Wa.ownsRow B E k v' (m+1) ((xs ++ [x]).flatMap vals)∧(v'.ownBlock=v.ownBlock∨v'.ownBlock=some W1.heap.size)∧w'=Wa.setCell ⟨qb,qo,none⟩ v'
end Go.Proofs.YtgakcdcfblgagaaDoor.Sheet
namespace Go.Proofs.YtgakcdcfblgagaaDoor.Sheet
open Go.RowKit Num Ident Semver Fr
open KR (AtV)
open Range (Rng noRng RV KeepS LtB InS From FitV pread OpsTab)
open Name (isName)
theorem pread_le (l:List UInt8):(pread l).2.1≤l.length:=by
 unfold pread Range.pparse
 split <;> (try split) <;> simp <;> (try split) <;> simp
theorem opsTab_oth {T:Nat→Prop} {w w':World} (h:OpsTab w) (hb:But T w w') (hn:¬ T 1):OpsTab w':=fun i hi=>(hb.cell (Range.block_lt (h i hi)) hn).trans (h i hi)

theorem restR_any (lb b o n c:Nat) (l:List UInt8) (k:Nat) (w:World) (h:Ln w lb b o n c l k) (hn:n≤16777216) (ht:OpsTab w) (hgl:1<lb) :
  Calls Tryd.prog 21 #[.pointer (some ⟨lb,0,none⟩),.func (.func 22) #[] #[]] w fun e w'=>∃ (x:RV) (f:Nat),e=.returned (.tuple #[x.agg,.int .i64 f])∧f=(if (l.drop k).drop ((wordOf (l.drop k)).length+1)=[] then 5 else (pread ((l.drop k).drop ((wordOf (l.drop k)).length+1))).1)∧(f=0→Range.Lies w' (From w.heap.size) (pread ((l.drop k).drop ((wordOf (l.drop k)).length+1))).2.2 x)∧But (fun g=>g=lb) w w'∧LnE w' lb b o n c:=by
 have hln:l.length=n:=h.row.1
 have H0:Hid (Below w.heap.size w (w.alloc ())):=(Below.refl _ _).alloc (Nat.le_refl _) _
 have hl0:=h.kept H0.out
 have HL0:=Lib.hid hl0
 have HR0:Hid (AtV (w.alloc ()) w.heap.size [.int .i64 0,.int .u64 0,.int .u64 0,.int .u64 0,.slice none 0 0,.slice none 0 0,.slice none 0 0]):=AtV.new w _ _
 have hcon:=next_any lb b o n c l k _ hl0
 have HEM:=Lib.hid (nextAt_end (l:=l) h.kn')
 obtain ⟨s,hs⟩:∃ s,(l.drop k).drop ((wordOf (l.drop k)).length+1)=s:=⟨_,rfl⟩
 have HDR:Hid (l.drop (nextAt l k)=s):=by unfold Hid; rw [nextAt_drop l k,hs]
 rw [hs] at HEM ⊢
 obtain ⟨F,hF⟩:∃ F,(if s=[] then 5 else (pread s).1)=F:=⟨_,rfl⟩
 obtain ⟨rr,hrr⟩:∃ rr,(pread s).2.2=rr:=⟨_,rfl⟩
 have HF:=Lib.hid hF
 have HRR:=Lib.hid hrr
 rw [hF,hrr]
 clear hF hrr
 clear hs
 have hlt:=h.at_.lt
 have hbl:=h.hb
 have hcm:=h.cm
 unfold maxLen at hcm
 have HT:=Lib.hid (ht.keep (Range.Keep.of_below H0.out))
 clear ht
 have hle:=(nextAt_le (l:=l) h.kn').2
 rw [hln] at HEM hle
 have HLL:Hid (∀ W',But (fun g=>g=lb) (w.alloc ()) W'→But (fun g=>g=lb) w W'):=fun W' q=>(But.of_same H0.out _).trans q fun i e=>.inl e
 clear hl0 h
 obtain ⟨rb,hrb⟩:∃ rb,w.heap.size=rb:=⟨_,rfl⟩
 have HRB:=Lib.hid hrb
 have hlr:lb<rb:=by omega
 have hne1:lb≠rb:=by omega
 have hne2:b≠rb:=by omega
 go_enter Tryd.func21,Tryd.ntmps21
 go_wp2_with fail
 generalize w.alloc ()=w0 at H0 HL0 HR0 HLL hcon HT ⊢
 rw [hrb] at HR0
 clear hrb
 obtain ⟨k',hk'⟩:∃ k',nextAt l k=k':=⟨_,rfl⟩
 rw [hk'] at hcon HEM hle
 rw [hk'] at HDR
 clear hk'
 by_cases he:k'=n
 ·have hs0:=HEM.out.1 he
  rw [if_pos he] at hcon
  clear he
  refine hcon.mono ?_
  rintro e w1 ⟨rfl,hb,hl⟩
  have HB:=Lib.hid hb
  have HL:=Lib.hid hl
  have HR1:=Lib.hid (atv_oth HR0.out hb (fun e=>hne1 e.symm))
  clear hb hl hcon
  have r0:=HR1.out.at_ 0 _ rfl
  have f0:=HR1.out.fr 0
  have r1:=HR1.out.at_ 1 _ rfl
  have f1:=HR1.out.fr 1
  have r2:=HR1.out.at_ 2 _ rfl
  have f2:=HR1.out.fr 2
  have r3:=HR1.out.at_ 3 _ rfl
  have f3:=HR1.out.fr 3
  have r4:=HR1.out.at_ 4 _ rfl
  have f4:=HR1.out.fr 4
  have r5:=HR1.out.at_ 5 _ rfl
  have f5:=HR1.out.fr 5
  have r6:=HR1.out.at_ 6 _ rfl
  have f6:=HR1.out.fr 6
  go_wp2
  have hB1:=HLL.out w1 HB.out
  have hF:F=5:=by rw [← HF.out,if_pos hs0]
  exact bodyPost_ret (v:=.tuple #[.agg #[.int .i64 0,.int .u64 0,.int .u64 0,.int .u64 0,.slice none 0 0,.slice none 0 0,.slice none 0 0],.int .i64 5]) (by simp [results,Tryd.results21,go_sem,r0,r1,r2,r3,r4,r5,r6]) rfl ⟨Range.zeroRV 0,5,rfl,hF.symm,(fun e=>by cases e),(((((((hB1.set rb 0 (.int .i64 0) (.inr (Nat.le_of_eq HRB.out))).set rb 1 (.int .u64 0) (.inr (Nat.le_of_eq HRB.out))).set rb 2 (.int .u64 0) (.inr (Nat.le_of_eq HRB.out))).set rb 3 (.int .u64 0) (.inr (Nat.le_of_eq HRB.out))).set rb 4 (.slice none 0 0) (.inr (Nat.le_of_eq HRB.out))).set rb 5 (.slice none 0 0) (.inr (Nat.le_of_eq HRB.out))).set rb 6 (.slice none 0 0) (.inr (Nat.le_of_eq HRB.out))),(LnE.of HL.out).oth (T:=fun g=>g=rb) (((((((((But.refl (fun g=>g=rb) w1).set rb 0 (.int .i64 0) (.inl rfl)).set rb 1 (.int .u64 0) (.inl rfl)).set rb 2 (.int .u64 0) (.inl rfl)).set rb 3 (.int .u64 0) (.inl rfl)).set rb 4 (.slice none 0 0) (.inl rfl)).set rb 5 (.slice none 0 0) (.inl rfl)).set rb 6 (.slice none 0 0) (.inl rfl))) hne1⟩
 ·have hs0:s≠[]:=fun e=>he (HEM.out.2 e)
  rw [if_neg he] at hcon
  clear he
  refine hcon.mono ?_
  rintro e w1 ⟨rfl,hb,hl⟩
  have HB:=Lib.hid hb
  have HL:=Lib.hid hl
  have HR1:=Lib.hid (atv_oth HR0.out hb (fun e=>hne1 e.symm))
  have HT1:=Lib.hid (opsTab_oth HT.out hb (Nat.ne_of_lt hgl))
  clear hb hl hcon
  have hk':=HL.out.kn
  have hnc:=HL.out.nc
  obtain ⟨o',hA⟩:∃ o',(if c=k' then some (⟨b,o,none⟩:Addr) else (some (⟨b,o,none⟩:Addr)).map (fun x=>x.add k'))=some ⟨b,o',none⟩:=by
   split
   ·exact ⟨o,rfl⟩
   ·exact ⟨o+k',by rw [Option.map_some,add_none]⟩
  have HRW:Hid (Row w1 (some ⟨b,o',none⟩) (n - k') s):=by
   unfold Hid
   rw [← HDR.out]
   exact Ident.Row.from_ HL.out.row k' c hk' hnc hA
  have HSL:Hid (s.length=n - k'):=HRW.out.1
  have hnk:¬ n<k':=by omega
  have hcn:¬ c<n:=by omega
  have c0:=HL.out.at_.at_ 0 _ rfl
  have c1:=HL.out.at_.at_ 1 _ rfl
  have lt:=HL.out.at_.lt
  have H0:Hid (But (fun g=>g=rb) w1 w1.drew):=(But.refl _ _).drew
  have HRd:Hid (AtV w1.drew rb [.int .i64 0,.int .u64 0,.int .u64 0,.int .u64 0,.slice none 0 0,.slice none 0 0,.slice none 0 0]):=HR1.out.kept (Below.refl _ _).drew HR1.out.lt
  obtain ⟨⟨f',q,r⟩,hp⟩:∃ t,pread s=t:=⟨_,rfl⟩
  have hFf:F=f':=by rw [← HF.out,if_neg hs0,hp]
  have hrr:rr=r:=by rw [← HRR.out,hp]
  have hq:q≤n - k':=by have:=pread_le s; rw [hp] at this; rw [← HSL.out]; exact this
  subst hFf
  subst hrr
  have hsl:=HSL.out
  have HRN:Hid (∀ W,OpsTab W→Calls Tryd.prog 22 #[.string (Ident.mk s)] W (Range.ParPost W (F,q,rr))):=fun W h=>by
   have:=Range.read_any (Ident.mk s) W (by rw [mk_size]; omega) h
   rw [mk_list,hp] at this
   exact this
  clear hp
  have HTd:=Lib.hid (opsTab_oth HT1.out H0.out (by have:=hgl; omega))
  have HCV:Hid (∀ W',But (fun g=>g=rb) w1 W'→(convert 22 9 (.slice (some ⟨b,o',none⟩) (n - k') (c - k'))).run Tryd.prog W'=.ok (.string (Ident.mk s)) W'):=fun W' q=>run_text (row_oth HRW.out q hne2) (c - k')
  go_wp2
  refine wp_region_held_drew (S:=fun w'=>But (fun g=>g=rb) w1 w') (by kernel_rfl) H0.out (fun hHeld=>?_)
  generalize w1.drew=wd at H0 HRd HTd hHeld ⊢
  refine tk 0 rfl (.func (.func 22) #[] #[]) ?_
  refine tk 1 rfl (.pointer (some ⟨lb,0,none⟩)) ?_
  refine tk 2 rfl (.pointer (some ⟨lb,0,none⟩)) ?_
  refine tk 3 rfl (.pointer (some ⟨lb,0,none⟩)) ?_
  refine tk 4 rfl (.slice (some ⟨b,o,none⟩) n c) ?_ (hv:=fun w' hS'=>by (have z0:=(hS'.cell lt hne1).trans c0); go_simp)
  refine tk 5 rfl (.pointer (some ⟨lb,0,none⟩)) ?_
  refine tk 6 rfl (.pointer (some ⟨lb,0,none⟩)) ?_
  refine tk 7 rfl (.pointer (some ⟨lb,1,none⟩)) ?_
  refine tk 8 rfl (.int .i64 k') ?_ (hv:=fun w' hS'=>by (have z0:=(hS'.cell lt hne1).trans c1); go_simp)
  refine tk 9 rfl (.slice (some ⟨b,o',none⟩) (n - k') (c - k')) ?_ (hv:=fun w' hS'=>by rw [← hA]; go_simp)
  refine tk 10 rfl (.string (Ident.mk s)) ?_ (hv:=fun w' hS'=>by (have z0:=HCV.out w' hS'); go_simp)
  refine cl 11 rfl fun K hK=>?_
  go_simp
  refine (HRN.out _ HTd.out).mono ?_
  rintro e w2 ⟨x,rfl,hx,hb⟩
  have H2:Hid (But (fun g=>g=rb) w1 w2):=H0.out.trans (But.of_same hb (fun _=>False)) fun i g=>g.elim
  have HR2:=Lib.hid (HRd.out.kept hb HRd.out.lt)
  have hz2:=hb.size
  have HX:=Lib.hid hx
  clear hx
  unfold Range.RV.agg
  refine hK.out _ _ H2.out (fun hHeld2=>?_)
  clear hK K hb
  try simp only [Act.put,p1,p2,p3]
  refine tk 12 rfl (.tuple #[.agg #[x.kind,x.v.a,x.v.b,x.v.c,.slice x.A x.v.pre.length x.c,.slice x.B x.v.build.length x.d,.slice x.L x.n x.e],.int .i64 q,.int .i64 F]) ?_
  refine tk 13 rfl x ?_
  refine tk 14 rfl (.int .i64 q) ?_
  refine tk 15 rfl (.int .i64 F) ?_
  have r0:=HR2.out.at_ 0 _ rfl
  have f0:=HR2.out.fr 0
  have r1:=HR2.out.at_ 1 _ rfl
  have f1:=HR2.out.fr 1
  have r2:=HR2.out.at_ 2 _ rfl
  have f2:=HR2.out.fr 2
  have r3:=HR2.out.at_ 3 _ rfl
  have f3:=HR2.out.fr 3
  have r4:=HR2.out.at_ 4 _ rfl
  have f4:=HR2.out.fr 4
  have r5:=HR2.out.at_ 5 _ rfl
  have f5:=HR2.out.fr 5
  have r6:=HR2.out.at_ 6 _ rfl
  have f6:=HR2.out.fr 6
  refine cl 16 rfl fun K hK=>?_
  go_simp
  have H3:Hid (But (fun g=>g=rb) w1 (((((((w2.setCell ⟨rb,0,none⟩ x.kind).setCell ⟨rb,1,none⟩ x.v.a).setCell ⟨rb,2,none⟩ x.v.b).setCell ⟨rb,3,none⟩ x.v.c).setCell ⟨rb,4,none⟩ (.slice x.A x.v.pre.length x.c)).setCell ⟨rb,5,none⟩ (.slice x.B x.v.build.length x.d)).setCell ⟨rb,6,none⟩ (.slice x.L x.n x.e))):=(((((((H2.out.set rb 0 x.kind (.inl rfl)).set rb 1 x.v.a (.inl rfl)).set rb 2 x.v.b (.inl rfl)).set rb 3 x.v.c (.inl rfl)).set rb 4 (.slice x.A x.v.pre.length x.c) (.inl rfl)).set rb 5 (.slice x.B x.v.build.length x.d) (.inl rfl)).set rb 6 (.slice x.L x.n x.e) (.inl rfl))
  have HV3:Hid (AtV (((((((w2.setCell ⟨rb,0,none⟩ x.kind).setCell ⟨rb,1,none⟩ x.v.a).setCell ⟨rb,2,none⟩ x.v.b).setCell ⟨rb,3,none⟩ x.v.c).setCell ⟨rb,4,none⟩ (.slice x.A x.v.pre.length x.c)).setCell ⟨rb,5,none⟩ (.slice x.B x.v.build.length x.d)).setCell ⟨rb,6,none⟩ (.slice x.L x.n x.e)) rb [.int .i64 x.kind,.int .u64 x.v.a,.int .u64 x.v.b,.int .u64 x.v.c,.slice x.A x.v.pre.length x.c,.slice x.B x.v.build.length x.d,.slice x.L x.n x.e]):=(atv_set (atv_set (atv_set (atv_set (atv_set (atv_set (atv_set HR2.out 0 x.kind (by simp)) 1 x.v.a (by simp)) 2 x.v.b (by simp)) 3 x.v.c (by simp)) 4 (.slice x.A x.v.pre.length x.c) (by simp)) 5 (.slice x.B x.v.build.length x.d) (by simp)) 6 (.slice x.L x.n x.e) (by simp))
  have HB23:Hid (But (fun g=>g=rb) w2 (((((((w2.setCell ⟨rb,0,none⟩ x.kind).setCell ⟨rb,1,none⟩ x.v.a).setCell ⟨rb,2,none⟩ x.v.b).setCell ⟨rb,3,none⟩ x.v.c).setCell ⟨rb,4,none⟩ (.slice x.A x.v.pre.length x.c)).setCell ⟨rb,5,none⟩ (.slice x.B x.v.build.length x.d)).setCell ⟨rb,6,none⟩ (.slice x.L x.n x.e))):=((((((((But.refl (fun g=>g=rb) w2).set rb 0 x.kind (.inl rfl)).set rb 1 x.v.a (.inl rfl)).set rb 2 x.v.b (.inl rfl)).set rb 3 x.v.c (.inl rfl)).set rb 4 (.slice x.A x.v.pre.length x.c) (.inl rfl)).set rb 5 (.slice x.B x.v.build.length x.d) (.inl rfl)).set rb 6 (.slice x.L x.n x.e) (.inl rfl))
  refine hK.out _ _ H3.out (fun hHeld3=>?_)
  clear hK K
  try simp only [Act.put,p1,p2,p3]
  refine tk 17 rfl (.int .i64 q) ?_
  refine tk 18 rfl (.int .i64 F) ?_
  refine wpAnyH_done (by kernel_rfl) ?_ _
  clear hHeld hHeld2 hHeld3 r0 f0 r1 f1 r2 f2 r3 f3 r4 f4 r5 f5 r6 f6
  generalize (((((((w2.setCell ⟨rb,0,none⟩ x.kind).setCell ⟨rb,1,none⟩ x.v.a).setCell ⟨rb,2,none⟩ x.v.b).setCell ⟨rb,3,none⟩ x.v.c).setCell ⟨rb,4,none⟩ (.slice x.A x.v.pre.length x.c)).setCell ⟨rb,5,none⟩ (.slice x.B x.v.build.length x.d)).setCell ⟨rb,6,none⟩ (.slice x.L x.n x.e))=w3 at H3 HV3 HB23 ⊢
  have d1:=(H3.out.cell lt hne1).trans c1
  have g1:=(H3.out.frozen lt hne1).trans (HL.out.at_.fr 1)
  have r0:=HV3.out.at_ 0 _ rfl
  have f0:=HV3.out.fr 0
  have r1:=HV3.out.at_ 1 _ rfl
  have f1:=HV3.out.fr 1
  have r2:=HV3.out.at_ 2 _ rfl
  have f2:=HV3.out.fr 2
  have r3:=HV3.out.at_ 3 _ rfl
  have f3:=HV3.out.fr 3
  have r4:=HV3.out.at_ 4 _ rfl
  have f4:=HV3.out.fr 4
  have r5:=HV3.out.at_ 5 _ rfl
  have f5:=HV3.out.fr 5
  have r6:=HV3.out.at_ 6 _ rfl
  have f6:=HV3.out.fr 6
  have HB3:Hid (But (fun g=>g=lb) w w3):=(HLL.out w1 HB.out).trans H3.out fun i e=>.inr (by rw [e]; exact Nat.le_of_eq HRB.out)
  have HE3:=Lib.hid ((LnE.of HL.out).oth H3.out hne1)
  clear c0 c1
  obtain ⟨j,hj⟩:∃ j,k'+q=j:=⟨_,rfl⟩
  have hwj:IntKind.i64.wrap ((k':Int)+(q:Int))=(j:Int):=by rw [IntKind.wrap_i64]; omega
  have hrl:rb<wd.heap.size:=HRd.out.lt
  have hll:lb<wd.heap.size:=Nat.lt_of_lt_of_le lt H0.out.size
  clear hj
  go_wp2
  exact bodyPost_ret (v:=.tuple #[.agg #[x.kind,x.v.a,x.v.b,x.v.c,.slice x.A x.v.pre.length x.c,.slice x.B x.v.build.length x.d,.slice x.L x.n x.e],.int .i64 F]) (by simp [results,Tryd.results21,go_sem,r0,r1,r2,r3,r4,r5,r6]) rfl ⟨x,F,rfl,rfl,fun _=>(HX.out.keep (keep_oth (T:=fun g=>g=rb∨g=lb) (S:=From wd.heap.size) (((((((((HB23.out.mono (T':=fun g=>g=rb∨g=lb) fun g e=>.inl e).set lb 1 (.int .i64 j) (.inl (.inr rfl))).set rb 0 x.kind (.inl (.inl rfl))).set rb 1 x.v.a (.inl (.inl rfl))).set rb 2 x.v.b (.inl (.inl rfl))).set rb 3 x.v.c (.inl (.inl rfl))).set rb 4 (.slice x.A x.v.pre.length x.c) (.inl (.inl rfl))).set rb 5 (.slice x.B x.v.build.length x.d) (.inl (.inl rfl))).set rb 6 (.slice x.L x.n x.e) (.inl (.inl rfl))) (fun g hg d=>by have hg:wd.heap.size≤g:=hg; rcases d with d | d <;> omega))).mono (fun g hg _=>by have hg:wd.heap.size≤g:=hg; have hg2:w.heap.size≤wd.heap.size:=(by have:=HRB.out; omega); exact Nat.le_trans hg2 hg),((((((((HB3.out.set lb 1 (.int .i64 j) (.inl rfl)).set rb 0 x.kind (.inr (Nat.le_of_eq HRB.out))).set rb 1 x.v.a (.inr (Nat.le_of_eq HRB.out))).set rb 2 x.v.b (.inr (Nat.le_of_eq HRB.out))).set rb 3 x.v.c (.inr (Nat.le_of_eq HRB.out))).set rb 4 (.slice x.A x.v.pre.length x.c) (.inr (Nat.le_of_eq HRB.out))).set rb 5 (.slice x.B x.v.build.length x.d) (.inr (Nat.le_of_eq HRB.out))).set rb 6 (.slice x.L x.n x.e) (.inr (Nat.le_of_eq HRB.out))),(HE3.out.setq (j:Int)).oth (T:=fun g=>g=rb) (((((((((But.refl (fun g=>g=rb) (w3.setCell ⟨lb,1,none⟩ (.int .i64 j))).set rb 0 x.kind (.inl rfl)).set rb 1 x.v.a (.inl rfl)).set rb 2 x.v.b (.inl rfl)).set rb 3 x.v.c (.inl rfl)).set rb 4 (.slice x.A x.v.pre.length x.c) (.inl rfl)).set rb 5 (.slice x.B x.v.build.length x.d) (.inl rfl)).set rb 6 (.slice x.L x.n x.e) (.inl rfl))) hne1⟩
end Go.Proofs.YtgakcdcfblgagaaDoor.Sheet
namespace Go.Proofs.YtgakcdcfblgagaaDoor.Sheet
open Go.RowKit Num Ident Semver Fr
open KR (AtV)
open Name (isName)

theorem restN_any (lb b o n c:Nat) (l:List UInt8) (k:Nat) (w:World) (h:Ln w lb b o n c l k) (hn:n≤16777216) :
  Calls Tryd.prog 54 #[.pointer (some ⟨lb,0,none⟩),.func (.func 44) #[] #[]] w fun e w'=>∃ (x:List UInt8) (f:Nat),e=.returned (.tuple #[.string (Ident.mk x),.int .i64 f])∧f=(if (l.drop k).drop ((wordOf (l.drop k)).length+1)=[] then 5 else if isName ((l.drop k).drop ((wordOf (l.drop k)).length+1))=false then 12 else 0)∧(f=0→x=(l.drop k).drop ((wordOf (l.drop k)).length+1))∧But (fun g=>g=lb) w w'∧LnE w' lb b o n c:=by
 have hln:l.length=n:=h.row.1
 have hcon:=next_any lb b o n c l k _ h
 have HEM:=Lib.hid (nextAt_end (l:=l) h.kn')
 have hcm:=h.cm
 unfold maxLen at hcm
 have hle:=(nextAt_le (l:=l) h.kn').2
 rw [hln] at HEM hle
 obtain ⟨s,hs⟩:∃ s,(l.drop k).drop ((wordOf (l.drop k)).length+1)=s:=⟨_,rfl⟩
 have HDR:Hid (l.drop (nextAt l k)=s):=by unfold Hid; rw [nextAt_drop l k,hs]
 rw [hs] at HEM ⊢
 obtain ⟨F,hF⟩:∃ F,(if s=[] then 5 else if isName s=false then 12 else 0)=F:=⟨_,rfl⟩
 have HF:=Lib.hid hF
 rw [hF]
 clear hF hs h
 go_enter Tryd.func54,Tryd.ntmps54
 go_wp2_with fail
 obtain ⟨k',hk'⟩:∃ k',nextAt l k=k':=⟨_,rfl⟩
 rw [hk'] at hcon HEM hle
 rw [hk'] at HDR
 clear hk'
 by_cases he:k'=n
 ·have hs0:=HEM.out.1 he
  rw [if_pos he] at hcon
  clear he
  refine hcon.mono ?_
  rintro e w1 ⟨rfl,hb,hl⟩
  have HB:=Lib.hid hb
  have HL:=Lib.hid hl
  clear hb hl hcon
  go_wp2
  go_ret2
  have hF:F=5:=by rw [← HF.out,if_pos hs0]
  exact ⟨[],5,rfl,hF.symm,(fun e=>by cases e),HB.out,LnE.of HL.out⟩
 ·have hs0:s≠[]:=fun e=>he (HEM.out.2 e)
  rw [if_neg he] at hcon
  clear he
  refine hcon.mono ?_
  rintro e w1 ⟨rfl,hb,hl⟩
  have HB:=Lib.hid hb
  have HL:=Lib.hid hl
  clear hb hl hcon
  have hk':=HL.out.kn
  have hnc:=HL.out.nc
  obtain ⟨o',hA⟩:∃ o',(if c=k' then some (⟨b,o,none⟩:Addr) else (some (⟨b,o,none⟩:Addr)).map (fun x=>x.add k'))=some ⟨b,o',none⟩:=by
   split
   ·exact ⟨o,rfl⟩
   ·exact ⟨o+k',by rw [Option.map_some,add_none]⟩
  have HRW:Hid (Row w1 (some ⟨b,o',none⟩) (n - k') s):=by
   unfold Hid
   rw [← HDR.out]
   exact Ident.Row.from_ HL.out.row k' c hk' hnc hA
  have HSL:Hid (s.length=n - k'):=HRW.out.1
  have hnk:¬ n<k':=by omega
  have hcn:¬ c<n:=by omega
  have c0:=HL.out.at_.at_ 0 _ rfl
  have c1:=HL.out.at_.at_ 1 _ rfl
  have lt:=HL.out.at_.lt
  have H0:Hid (Below w1.heap.size w1 w1.drew):=(Below.refl _ _).drew
  have HCV:Hid (∀ W',Below w1.heap.size w1 W'→(convert 22 9 (.slice (some ⟨b,o',none⟩) (n - k') (c - k'))).run Tryd.prog W'=.ok (.string (Ident.mk s)) W'):=fun W' q=>run_text (HRW.out.kept q) (c - k')
  obtain ⟨q,hq0⟩:∃ q:Nat,q=0:=⟨_,rfl⟩
  have hq:q≤n - k':=by omega
  have hsl:=HSL.out
  have hFf:(if isName s=false then 12 else 0)=F:=by rw [← HF.out,if_neg hs0]
  obtain ⟨nm,hnm⟩:∃ nm,(if isName s=true then s else [])=nm:=⟨_,rfl⟩
  have HNM:Hid (F=0→nm=s):=fun h0=>by
   rw [← hnm]
   rw [h0] at hFf
   cases hn:isName s with
   | true=>rfl
   | false=>rw [hn] at hFf; cases hFf
  have HRN:Hid (∀ W,Calls Tryd.prog 44 #[.string (Ident.mk s)] W fun e w'=>e=.returned (.tuple #[.string (Ident.mk nm),.int .i64 q,.int .i64 F])∧Below W.heap.size W w'):=fun W=>(whole_any s W (by unfold maxLen; omega)).mono fun e w' h=>⟨by
   rw [h.1,← hnm,← hFf,hq0]
   cases isName s <;> rfl,h.2⟩
  clear hnm hFf hq0
  go_wp2
  refine wp_region_held_drew (S:=fun w'=>Below w1.heap.size w1 w') (by kernel_rfl) H0.out (fun hHeld=>?_)
  generalize w1.drew=wd at H0 hHeld ⊢
  refine tk 0 rfl (.func (.func 44) #[] #[]) ?_
  refine tk 1 rfl (.pointer (some ⟨lb,0,none⟩)) ?_
  refine tk 2 rfl (.pointer (some ⟨lb,0,none⟩)) ?_
  refine tk 3 rfl (.pointer (some ⟨lb,0,none⟩)) ?_
  refine tk 4 rfl (.slice (some ⟨b,o,none⟩) n c) ?_ (hv:=fun w' hS'=>by (have z0:=(hS'.cell (p:=⟨lb,0,none⟩) lt).trans c0); go_simp)
  refine tk 5 rfl (.pointer (some ⟨lb,0,none⟩)) ?_
  refine tk 6 rfl (.pointer (some ⟨lb,0,none⟩)) ?_
  refine tk 7 rfl (.pointer (some ⟨lb,1,none⟩)) ?_
  refine tk 8 rfl (.int .i64 k') ?_ (hv:=fun w' hS'=>by (have z0:=(hS'.cell (p:=⟨lb,1,none⟩) lt).trans c1); go_simp)
  refine tk 9 rfl (.slice (some ⟨b,o',none⟩) (n - k') (c - k')) ?_ (hv:=fun w' hS'=>by rw [← hA]; go_simp)
  refine tk 10 rfl (.string (Ident.mk s)) ?_ (hv:=fun w' hS'=>by (have z0:=HCV.out w' hS'); go_simp)
  refine cl 11 rfl fun K hK=>?_
  go_simp
  refine (HRN.out _).mono ?_
  rintro e w2 ⟨rfl,hb⟩
  have H2:Hid (Below w1.heap.size w1 w2):=H0.out.trans (hb.mono H0.out.size)
  refine hK.out _ _ H2.out (fun hHeld2=>?_)
  clear hK K hb
  try simp only [Act.put,p1,p2,p3]
  refine tk 12 rfl (.tuple #[.string (Ident.mk nm),.int .i64 q,.int .i64 F]) ?_
  refine tk 13 rfl (.string (Ident.mk nm)) ?_
  refine tk 14 rfl (.int .i64 q) ?_
  refine tk 15 rfl (.int .i64 F) ?_
  refine tk 16 rfl (.string (Ident.mk nm)) ?_
  refine tk 17 rfl (.int .i64 q) ?_
  refine tk 18 rfl (.int .i64 F) ?_
  refine wpAnyH_done (by kernel_rfl) ?_ _
  clear hHeld hHeld2
  have HL2:=Lib.hid (HL.out.kept H2.out)
  have d1:=HL2.out.at_.at_ 1 _ rfl
  have g1:=HL2.out.at_.fr 1
  have HB3:Hid (But (fun g=>g=lb) w w2):=HB.out.trans (But.of_same H2.out (fun _=>False)) fun i g=>g.elim
  clear c0 c1
  obtain ⟨j,hj⟩:∃ j,k'+q=j:=⟨_,rfl⟩
  have hwj:IntKind.i64.wrap ((k':Int)+(q:Int))=(j:Int):=by rw [IntKind.wrap_i64]; omega
  clear hj
  go_wp2
  go_ret2
  exact ⟨nm,F,rfl,rfl,(fun h0=>HNM.out h0),HB3.out.set lb 1 (.int .i64 j) (.inl rfl),(LnE.of HL2.out).setq (j:Int)⟩
end Go.Proofs.YtgakcdcfblgagaaDoor.Sheet
