/-
  What the theorem of the last text needs of these: ShBytes, ShSlots, ShLine, ShAtv, ShName2. Conditions: as each theorem states.
-/
import Derived.Test.YtgakcdcfblgagaaDoorJoA1
import Derived.Test.YtgakcdcfblgagaaDoorJoA2
import Derived.Test.YtgakcdcfblgagaaDoorJoA3
import Derived.Test.YtgakcdcfblgagaaDoorJoA8
import Derived.Test.YtgakcdcfblgagaaDoorJoA14
import Derived.Test.YtgakcdcfblgagaaDoorShelfBytes
set_option maxRecDepth 100000
set_option maxHeartbeats 25600000
namespace Go.Proofs.YtgakcdcfblgagaaDoor.Sheet
open Go.RowKit Num Ident Semver

theorem index_while (c:UInt8):∀ l:List UInt8,Lib.indexByte l c=if c ∈ l then ((l.takeWhile (· != c)).length:Int) else -1
 | []=>rfl
 | b :: l=>by
  unfold Lib.indexByte
  by_cases h:b=c
  ·subst h
   simp
  ·rw [if_neg (by simpa using h),index_while c l]
   have e:(b :: l).takeWhile (· != c)=b :: l.takeWhile (· != c):=by rw [List.takeWhile_cons,if_pos (by rw [bne_iff_ne]; exact h)]
   rw [e]
   by_cases hc:c ∈ l
   ·rw [if_pos hc,if_pos (List.mem_cons_of_mem _ hc)]
    have:(((l.takeWhile (· != c)).length:Int) == -1)=false:=beq_eq_false_iff_ne.2 (by omega)
    rw [this]
    simp
   ·rw [if_neg hc,if_pos (by rfl),if_neg (show c ∉ b :: l from fun q=>by
     rcases List.mem_cons.1 q with q | q
     ·exact h q.symm
     ·exact hc q)]
theorem nums_cell {w:World} {b o n:Nat} {l:List UInt8} (h:Row w (some ⟨b,o,none⟩) n l):∀ i,i<n→w.cell? ((⟨b,o,none⟩:Addr).add i)=some (.int .u8 ((Range.nums l).getD i 0)):=fun i hi=>by
 obtain ⟨b',o',e,_,hc⟩:=h.2.2 (by omega)
 injection e with e
 injection e with e1 e2
 subst e1
 subst e2
 rw [add_none,hc i hi]
 have hl:i<l.length:=by rw [h.1]; exact hi
 simp [byteAt,Range.nums,List.getD,hl]
theorem indexByte_any (b o n c:Nat) (l:List UInt8) (cv:UInt8) (w:World) (h:Row w (some ⟨b,o,none⟩) n l) :
  Calls Tryd.prog 49 #[.slice (some ⟨b,o,none⟩) n c,.int .u8 cv.toNat] w fun e w'=>e=.returned (.int .i64 (if cv ∈ l then ((l.takeWhile (· != cv)).length:Int) else -1))∧w'=w:=by
 have:=Tryd.bytes_IndexByte_at ⟨b,o,none⟩ n c (Range.nums l) (cv.toNat:Int) w (by rw [Range.nums_len,h.1]) (nums_cell h)
 rw [Range.nums_back,show ((cv.toNat:Int)).toNat.toUInt8=cv by simp,index_while] at this
 exact this
theorem index_any (b o n c b2 d:Nat) (l:List UInt8) (cv:UInt8) (w:World) (h:Row w (some ⟨b,o,none⟩) n l) (h2:w.cell? ⟨b2,0,none⟩=some (.int .u8 cv.toNat)) :
  Calls Tryd.prog 65 #[.slice (some ⟨b,o,none⟩) n c,.slice (some ⟨b2,0,none⟩) 1 d] w fun e w'=>e=.returned (.int .i64 (if cv ∈ l then ((l.takeWhile (· != cv)).length:Int) else -1))∧w'=w:=by
 have:=Tryd.bytes_Index_one_at ⟨b,o,none⟩ n c b2 0 d (Range.nums l) (cv.toNat:Int) w (by rw [Range.nums_len,h.1]) (nums_cell h) h2
 rw [Range.nums_back,show ((cv.toNat:Int)).toNat.toUInt8=cv by simp,index_while] at this
 exact this
theorem cut_any (b o n c b2 d:Nat) (l:List UInt8) (w:World) (h:Row w (some ⟨b,o,none⟩) n l) (hc:n≤c) (h2:w.cell? ⟨b2,0,none⟩=some (.int .u8 32)) :
  Calls Tryd.prog 58 #[.slice (some ⟨b,o,none⟩) n c,.slice (some ⟨b2,0,none⟩) 1 d] w fun e w'=>∃ u v,e=.returned (.tuple #[.slice (some ⟨b,o,none⟩) (wordOf l).length c,u,v])∧Below w.heap.size w w':=by
 have hcon:=index_any b o n c b2 d l 32 w h h2
 have hl:l.length=n:=h.1
 have hm:n≤9223372036854775807:=h.2.1
 obtain ⟨m,hm0⟩:∃ m,(wordOf l).length=m:=⟨_,rfl⟩
 have hml:m≤n:=by rw [← hm0,← hl]; exact word_le l
 have hw:(l.takeWhile (· != (32:UInt8))).length=m:=hm0
 rw [hm0]
 rw [hw] at hcon
 by_cases h32:(32:UInt8) ∈ l
 ·rw [if_pos h32] at hcon
  have hlt:m<n:=by
   rw [← hw,← hl]
   rcases Nat.lt_or_ge (l.takeWhile (· != (32:UInt8))).length l.length with q | q
   ·exact q
   ·have e:l.takeWhile (· != (32:UInt8))=l:=(List.takeWhile_prefix _).eq_of_length_le q
    rw [← e] at h32
    exact absurd rfl (while_mem h32)
  clear h h2 h32 hw hm0
  go_enter Tryd.func58,Tryd.ntmps58
  go_wp2_with fail
  refine hcon.mono ?_
  rintro e w' ⟨rfl,rfl⟩
  obtain ⟨A2,hA2⟩:∃ A2,(if c=m+1 then some (⟨b,o,none⟩:Addr) else (some (⟨b,o,none⟩:Addr)).map (fun x=>x.add (m+1)))=A2:=⟨_,rfl⟩
  have H0:Hid (Below w'.heap.size w' w'.drew):=(Below.refl _ _).drew
  have hmc:m+1≤c:=by omega
  have hcm:¬ c<m:=by omega
  have hnm:¬ n<m+1:=by omega
  have hm9:m<9223372036854775807:=by omega
  have h0m:(0:Int)≤(m:Int)+1:=by omega
  have hwm:IntKind.i64.wrap ((m:Int)+1)=(m:Int)+1:=by rw [IntKind.wrap_i64]; omega
  have hmn1:(m:Int)+1≤(n:Int):=by omega
  go_wp2
  refine wp_region_held_drew (S:=fun w2=>Below w'.heap.size w' w2) (by kernel_rfl) H0.out (fun hHeld=>?_)
  generalize w'.drew=wd at H0 hHeld ⊢
  refine tk 0 rfl (.slice (some ⟨b,o,none⟩) n c) ?_
  refine tk 1 rfl (.int .i64 m) ?_
  refine tk 2 rfl (.slice (some ⟨b,o,none⟩) m c) ?_
  refine tk 3 rfl (.slice (some ⟨b,o,none⟩) n c) ?_
  refine tk 4 rfl (.int .i64 m) ?_
  refine tk 5 rfl (.slice (some ⟨b2,0,none⟩) 1 d) ?_
  refine tk 6 rfl (.int .i64 1) ?_
  refine tk 7 rfl (.int .i64 ((m:Int)+1)) ?_
  refine tk 8 rfl (.slice A2 (n - (m+1)) (c - (m+1))) ?_ (hv:=fun w' hS'=>by rw [← hA2]; go_simp)
  refine tk 9 rfl (.slice (some ⟨b,o,none⟩) m c) ?_
  refine tk 10 rfl (.slice A2 (n - (m+1)) (c - (m+1))) ?_
  refine tk 11 rfl (.bool true) ?_
  refine wpAnyH_done (by kernel_rfl) ?_ _
  go_wp2
  go_ret3
  exact ⟨_,_,rfl,H0.out⟩
 ·rw [if_neg h32] at hcon
  have hmn:m=n:=by
   rw [← hw,while_none h32,hl]
  subst hmn
  clear h h2 h32 hw hm0
  go_enter Tryd.func58,Tryd.ntmps58
  go_wp2_with fail
  refine hcon.mono ?_
  rintro e w' ⟨rfl,rfl⟩
  go_wp2
  go_ret3
  exact ⟨_,_,rfl,Below.refl _ _⟩
end Go.Proofs.YtgakcdcfblgagaaDoor.Sheet
namespace Go.Proofs.YtgakcdcfblgagaaDoor.Sheet
open Go.RowKit Num Ident Semver Fr
open KR (KRow AtV)
open Model (PDep PRel PPack MDep MVer MRel MPack DepOk VerOk RelOk PackOk DRow RRow PRow)
theorem lastPack_none (A:Option Addr) (c:Nat) (w:World):Calls Tryd.prog 51 #[.slice A 0 c] w fun e w'=>e=.returned (.pointer none)∧Below w.heap.size w w':=by
 go_enter Tryd.func51,Tryd.ntmps51
 go_wp2
 go_ret
 exact ⟨rfl,Below.refl _ _⟩
theorem lastPack_some (g n c:Nat) (w:World) (hn:n<9223372036854775807):Calls Tryd.prog 51 #[.slice (some ⟨g,0,none⟩) (n+1) c] w fun e w'=>e=.returned (.pointer (some ⟨g,n * 2,none⟩))∧Below w.heap.size w w':=by
 have hb:(((n+1:Nat):Int) == 0)=false:=beq_eq_false_iff_ne.2 (by omega)
 have h1:((n+1:Nat):Int) - 1=(n:Int):=by omega
 go_enter Tryd.func51,Tryd.ntmps51
 go_wp2
 go_ret
 exact ⟨rfl,Below.refl _ _⟩
theorem lastRelease_none (A:Option Addr) (c:Nat) (w:World):Calls Tryd.prog 52 #[.slice A 0 c] w fun e w'=>e=.returned (.pointer none)∧Below w.heap.size w w':=by
 go_enter Tryd.func52,Tryd.ntmps52
 go_wp2
 go_ret
 exact ⟨rfl,Below.refl _ _⟩
theorem lastRelease_some (g n c:Nat) (w:World) (hn:n<9223372036854775807):Calls Tryd.prog 52 #[.slice (some ⟨g,0,none⟩) (n+1) c] w fun e w'=>e=.returned (.pointer (some ⟨g,n * 8,none⟩))∧Below w.heap.size w w':=by
 have hb:(((n+1:Nat):Int) == 0)=false:=beq_eq_false_iff_ne.2 (by omega)
 have h1:((n+1:Nat):Int) - 1=(n:Int):=by omega
 go_enter Tryd.func52,Tryd.ntmps52
 go_wp2
 go_ret
 exact ⟨rfl,Below.refl _ _⟩
section
variable {W:World} {B M xb:Nat} {S:Nat→Prop} {A:Option Addr} {c:Nat} {ps:List MPack} {rs:List MRel}
theorem releases_none {q:Option MRel} (h:Tree W B M xb S A c ps none rs q):Calls Tryd.prog 32 #[.pointer (some ⟨xb,0,none⟩)] W fun e w'=>e=.returned (.pointer none)∧Below W.heap.size W w':=by
 have hp:=h.emp rfl
 have c0:=h.cell.at_ 0 _ rfl
 subst hp
 have c0:W.cell? ⟨xb,0,none⟩=some (.slice A 0 c):=c0
 clear h
 go_enter Tryd.func32,Tryd.ntmps32
 go_wp2_with fail
 refine (lastPack_none A c W).mono ?_
 rintro e w' ⟨rfl,hb⟩
 have HB:=Lib.hid hb
 clear hb
 go_wp2
 go_ret
 exact ⟨rfl,HB.out⟩
theorem releases_some {p:MPack} {q:Option MRel} {g:Nat} (h:Tree W B M xb S A c ps (some p) rs q) (hA:A=some ⟨g,0,none⟩):Calls Tryd.prog 32 #[.pointer (some ⟨xb,0,none⟩)] W fun e w'=>e=.returned (.pointer (some ⟨g,ps.length * 2+1,none⟩))∧Below W.heap.size W w':=by
 have c0:=h.cell.at_ 0 _ rfl
 have hm:=(own_caps h.own).2.1
 have hle:=(own_caps h.own).1
 have hl:(ps ++ (some p).toList).length=ps.length+1:=by simp
 subst hA
 rw [hl] at c0 hle
 unfold maxLen at hm
 generalize ps.length=n at c0 hle ⊢
 clear h hl
 go_enter Tryd.func32,Tryd.ntmps32
 go_wp2_with fail
 refine (lastPack_some g n c W (by omega)).mono ?_
 rintro e w' ⟨rfl,hb⟩
 have HB:=Lib.hid hb
 clear hb
 go_wp2
 go_ret
 exact ⟨rfl,HB.out⟩
theorem of3_any (g o:Nat) (w:World):Calls Tryd.prog 35 #[.pointer (some ⟨g,o,none⟩)] w fun e w'=>e=.returned (.pointer (some ⟨g,o+6,none⟩))∧Below w.heap.size w w':=by
 go_enter Tryd.func35,Tryd.ntmps35
 go_wp2
 go_ret
 exact ⟨rfl,Below.refl _ _⟩
theorem deps3_none {q:Option MRel} (h:Tree W B M xb S A c ps none rs q):Calls Tryd.prog 34 #[.pointer (some ⟨xb,0,none⟩),.func (.func 35) #[] #[]] W fun e w'=>e=.returned (.pointer none)∧Below W.heap.size W w':=by
 have hcon:=releases_none h
 clear h
 go_enter Tryd.func34,Tryd.ntmps34
 go_wp2_with fail
 refine hcon.mono ?_
 rintro e w' ⟨rfl,hb⟩
 have HB:=Lib.hid hb
 clear hb hcon
 go_wp2
 go_ret
 exact ⟨rfl,HB.out⟩
theorem deps3_norel {p:MPack} (h:Tree W B M xb S A c ps (some p) rs none) (hrs:rs=[]):Calls Tryd.prog 34 #[.pointer (some ⟨xb,0,none⟩),.func (.func 35) #[] #[]] W fun e w'=>e=.returned (.pointer none)∧Below W.heap.size W w':=by
 obtain ⟨g,hA,_,_,hgW,_,hc⟩:=h.at_pack
 have hcon:=releases_some h hA
 have c1:=hc 1 _ rfl
 have hl:p.rels.length=0:=by rw [(h.lst p rfl).rels,hrs]; rfl
 rw [hl] at c1
 generalize ps.length * 2=n at hcon c1
 clear h hc hrs
 go_enter Tryd.func34,Tryd.ntmps34
 go_wp2_with fail
 refine hcon.mono ?_
 rintro e w' ⟨rfl,hb⟩
 have HB:=Lib.hid hb
 have d1:=(hb.cell (p:=⟨g,n+1,none⟩) hgW).trans c1
 clear hb hcon c1
 go_wp2_with fail
 refine (lastRelease_none _ _ w').mono ?_
 rintro e w2 ⟨rfl,hb⟩
 have HB2:=Lib.hid (HB.out.trans (hb.mono HB.out.size))
 clear hb
 go_wp2
 go_ret
 exact ⟨rfl,HB2.out⟩
theorem deps3_some {p:MPack} {r:MRel} {gR:Nat} (h:Tree W B M xb S A c ps (some p) rs (some r)) (hR:p.R=some ⟨gR,0,none⟩):Calls Tryd.prog 34 #[.pointer (some ⟨xb,0,none⟩),.func (.func 35) #[] #[]] W fun e w'=>e=.returned (.pointer (some ⟨gR,rs.length * 8+6,none⟩))∧Below W.heap.size W w':=by
 obtain ⟨g,hA,_,_,hgW,_,hc⟩:=h.at_pack
 have hcon:=releases_some h hA
 have c1:=hc 1 _ rfl
 have hl:p.rels.length=rs.length+1:=by rw [(h.lst p rfl).rels]; simp
 have hm:=(own_caps (h.lst p rfl).own).2.1
 have hle:=(own_caps (h.lst p rfl).own).1
 rw [hl] at c1 hle
 rw [hR] at c1
 unfold maxLen at hm
 generalize ps.length * 2=n at hcon c1
 generalize rs.length=j at c1 hle ⊢
 generalize p.rc=rc at c1 hle hm
 clear h hc hl hR
 go_enter Tryd.func34,Tryd.ntmps34
 go_wp2_with fail
 refine hcon.mono ?_
 rintro e w' ⟨rfl,hb⟩
 have HB:=Lib.hid hb
 have d1:=(hb.cell (p:=⟨g,n+1,none⟩) hgW).trans c1
 clear hb hcon c1
 go_wp2_with fail
 refine (lastRelease_some gR j rc w' (by omega)).mono ?_
 rintro e w2 ⟨rfl,hb⟩
 have HB2:=Lib.hid (HB.out.trans (hb.mono HB.out.size))
 clear hb
 go_wp2_with (go_at_call 35; refine (of3_any gR (j * 8) w2).mono ?_; rintro e w3 ⟨rfl,hb⟩)
 have HB3:=Lib.hid (HB2.out.trans (hb.mono HB2.out.size))
 clear hb
 go_wp2
 go_ret
 exact ⟨rfl,HB3.out⟩
theorem of4_any (g o:Nat) (w:World):Calls Tryd.prog 37 #[.pointer (some ⟨g,o,none⟩)] w fun e w'=>e=.returned (.pointer (some ⟨g,o+7,none⟩))∧Below w.heap.size w w':=by
 go_enter Tryd.func37,Tryd.ntmps37
 go_wp2
 go_ret
 exact ⟨rfl,Below.refl _ _⟩
theorem deps4_none {q:Option MRel} (h:Tree W B M xb S A c ps none rs q):Calls Tryd.prog 34 #[.pointer (some ⟨xb,0,none⟩),.func (.func 37) #[] #[]] W fun e w'=>e=.returned (.pointer none)∧Below W.heap.size W w':=by
 have hcon:=releases_none h
 clear h
 go_enter Tryd.func34,Tryd.ntmps34
 go_wp2_with fail
 refine hcon.mono ?_
 rintro e w' ⟨rfl,hb⟩
 have HB:=Lib.hid hb
 clear hb hcon
 go_wp2
 go_ret
 exact ⟨rfl,HB.out⟩
theorem deps4_norel {p:MPack} (h:Tree W B M xb S A c ps (some p) rs none) (hrs:rs=[]):Calls Tryd.prog 34 #[.pointer (some ⟨xb,0,none⟩),.func (.func 37) #[] #[]] W fun e w'=>e=.returned (.pointer none)∧Below W.heap.size W w':=by
 obtain ⟨g,hA,_,_,hgW,_,hc⟩:=h.at_pack
 have hcon:=releases_some h hA
 have c1:=hc 1 _ rfl
 have hl:p.rels.length=0:=by rw [(h.lst p rfl).rels,hrs]; rfl
 rw [hl] at c1
 generalize ps.length * 2=n at hcon c1
 clear h hc hrs
 go_enter Tryd.func34,Tryd.ntmps34
 go_wp2_with fail
 refine hcon.mono ?_
 rintro e w' ⟨rfl,hb⟩
 have HB:=Lib.hid hb
 have d1:=(hb.cell (p:=⟨g,n+1,none⟩) hgW).trans c1
 clear hb hcon c1
 go_wp2_with fail
 refine (lastRelease_none _ _ w').mono ?_
 rintro e w2 ⟨rfl,hb⟩
 have HB2:=Lib.hid (HB.out.trans (hb.mono HB.out.size))
 clear hb
 go_wp2
 go_ret
 exact ⟨rfl,HB2.out⟩
theorem deps4_some {p:MPack} {r:MRel} {gR:Nat} (h:Tree W B M xb S A c ps (some p) rs (some r)) (hR:p.R=some ⟨gR,0,none⟩):Calls Tryd.prog 34 #[.pointer (some ⟨xb,0,none⟩),.func (.func 37) #[] #[]] W fun e w'=>e=.returned (.pointer (some ⟨gR,rs.length * 8+7,none⟩))∧Below W.heap.size W w':=by
 obtain ⟨g,hA,_,_,hgW,_,hc⟩:=h.at_pack
 have hcon:=releases_some h hA
 have c1:=hc 1 _ rfl
 have hl:p.rels.length=rs.length+1:=by rw [(h.lst p rfl).rels]; simp
 have hm:=(own_caps (h.lst p rfl).own).2.1
 have hle:=(own_caps (h.lst p rfl).own).1
 rw [hl] at c1 hle
 rw [hR] at c1
 unfold maxLen at hm
 generalize ps.length * 2=n at hcon c1
 generalize rs.length=j at c1 hle ⊢
 generalize p.rc=rc at c1 hle hm
 clear h hc hl hR
 go_enter Tryd.func34,Tryd.ntmps34
 go_wp2_with fail
 refine hcon.mono ?_
 rintro e w' ⟨rfl,hb⟩
 have HB:=Lib.hid hb
 have d1:=(hb.cell (p:=⟨g,n+1,none⟩) hgW).trans c1
 clear hb hcon c1
 go_wp2_with fail
 refine (lastRelease_some gR j rc w' (by omega)).mono ?_
 rintro e w2 ⟨rfl,hb⟩
 have HB2:=Lib.hid (HB.out.trans (hb.mono HB.out.size))
 clear hb
 go_wp2_with (go_at_call 37; refine (of4_any gR (j * 8) w2).mono ?_; rintro e w3 ⟨rfl,hb⟩)
 have HB3:=Lib.hid (HB2.out.trans (hb.mono HB2.out.size))
 clear hb
 go_wp2
 go_ret
 exact ⟨rfl,HB3.out⟩
theorem own1_any {cx:Nat} (hc:AtV W cx [.pointer (some ⟨xb,0,none⟩)]):Calls Tryd.prog 30 #[.pointer (some ⟨cx,0,none⟩)] W fun e w'=>e=.returned (.pointer (some ⟨xb,0,none⟩))∧Below W.heap.size W w':=by
 have c0:=hc.at_ 0 _ rfl
 clear hc
 go_enter Tryd.func30,Tryd.ntmps30
 go_wp2
 go_ret
 exact ⟨rfl,Below.refl _ _⟩
theorem own2_of {cx:Nat} {u:Option Addr} (hc:AtV W cx [.pointer (some ⟨xb,0,none⟩)]) (hcon:Calls Tryd.prog 32 #[.pointer (some ⟨xb,0,none⟩)] W fun e w'=>e=.returned (.pointer u)∧Below W.heap.size W w'):Calls Tryd.prog 31 #[.pointer (some ⟨cx,0,none⟩)] W fun e w'=>e=.returned (.pointer u)∧Below W.heap.size W w':=by
 have c0:=hc.at_ 0 _ rfl
 clear hc
 go_enter Tryd.func31,Tryd.ntmps31
 go_wp2_with fail
 refine hcon.mono ?_
 rintro e w' ⟨rfl,hb⟩
 have HB:=Lib.hid hb
 clear hb hcon
 go_wp2
 go_ret
 exact ⟨rfl,HB.out⟩
theorem own3_of {cx:Nat} {u:Option Addr} (hc:AtV W cx [.pointer (some ⟨xb,0,none⟩)]) (hcon:Calls Tryd.prog 34 #[.pointer (some ⟨xb,0,none⟩),.func (.func 35) #[] #[]] W fun e w'=>e=.returned (.pointer u)∧Below W.heap.size W w'):Calls Tryd.prog 33 #[.pointer (some ⟨cx,0,none⟩)] W fun e w'=>e=.returned (.pointer u)∧Below W.heap.size W w':=by
 have c0:=hc.at_ 0 _ rfl
 clear hc
 go_enter Tryd.func33,Tryd.ntmps33
 go_wp2_with fail
 refine hcon.mono ?_
 rintro e w' ⟨rfl,hb⟩
 have HB:=Lib.hid hb
 clear hb hcon
 go_wp2
 go_ret
 exact ⟨rfl,HB.out⟩
theorem own4_of {cx:Nat} {u:Option Addr} (hc:AtV W cx [.pointer (some ⟨xb,0,none⟩)]) (hcon:Calls Tryd.prog 34 #[.pointer (some ⟨xb,0,none⟩),.func (.func 37) #[] #[]] W fun e w'=>e=.returned (.pointer u)∧Below W.heap.size W w'):Calls Tryd.prog 36 #[.pointer (some ⟨cx,0,none⟩)] W fun e w'=>e=.returned (.pointer u)∧Below W.heap.size W w':=by
 have c0:=hc.at_ 0 _ rfl
 clear hc
 go_enter Tryd.func36,Tryd.ntmps36
 go_wp2_with fail
 refine hcon.mono ?_
 rintro e w' ⟨rfl,hb⟩
 have HB:=Lib.hid hb
 clear hb hcon
 go_wp2
 go_ret
 exact ⟨rfl,HB.out⟩
end
end Go.Proofs.YtgakcdcfblgagaaDoor.Sheet
namespace Go.Proofs.YtgakcdcfblgagaaDoor.Sheet
open Go.RowKit Num Ident Semver Fr
open KR (AtV)

theorem set_but (W:World) (lb i:Nat) (v:Value):But (fun g=>g=lb) W (W.setCell ⟨lb,i,none⟩ v):=(But.refl _ _).set lb i v (.inl rfl)
structure Ln (W:World) (lb b o n c:Nat) (l:List UInt8) (k:Nat):Prop where
 at_:AtV W lb [.slice (some ⟨b,o,none⟩) n c,.int .i64 k]
 row:Row W (some ⟨b,o,none⟩) n l
 hb:b<lb
 kn:k≤n
 nc:n≤c
 cm:c≤maxLen
theorem Ln.kept {W W':World} {lb b o n c k:Nat} {l:List UInt8} (h:Ln W lb b o n c l k) (hb:Below W.heap.size W W'):Ln W' lb b o n c l k :=
 ⟨h.at_.kept hb h.at_.lt,h.row.kept hb,h.hb,h.kn,h.nc,h.cm⟩
theorem Ln.kn' {W:World} {lb b o n c k:Nat} {l:List UInt8} (h:Ln W lb b o n c l k):k≤l.length:=by rw [h.row.1]; exact h.kn
theorem Ln.set {W:World} {lb b o n c k:Nat} {l:List UInt8} (h:Ln W lb b o n c l k) (k':Nat) (hk:k'≤n):Ln (W.setCell ⟨lb,1,none⟩ (.int .i64 k')) lb b o n c l k':=by
 have c0:=h.at_.at_ 0 _ rfl
 have c1:=h.at_.at_ 1 _ rfl
 refine ⟨⟨by simpa using h.at_.lt,fun o=>by simp [go_sem,h.at_.fr],fun i u hu=>?_⟩,?_,h.hb,hk,h.nc,h.cm⟩
 ·match i with
  | 0 =>
   have e:Value.slice (some ⟨b,o,none⟩) n c=u:=by simpa using hu
   subst e; simp [go_sem,c0]
  | 1 =>
   have e:Value.int .i64 k'=u:=by simpa using hu
   subst e; simp [go_sem,c1]
  | i+2=>simp at hu
 ·obtain ⟨h1,h2,h3⟩:=h.row
  refine ⟨h1,h2,fun h0=>?_⟩
  obtain ⟨b',o',e,hlt,hc⟩:=h3 h0
  injection e with e
  injection e with e1 e2
  subst e1
  subst e2
  exact ⟨b,o,rfl,by simpa using hlt,fun j hj=>((set_but W lb 1 (.int .i64 k')).cell hlt (Nat.ne_of_lt h.hb)).trans (hc j hj)⟩
theorem ends_any (lb b o n c:Nat) (l:List UInt8) (k:Nat) (w:World) (h:Ln w lb b o n c l k) :
  Calls Tryd.prog 50 #[.pointer (some ⟨lb,0,none⟩)] w fun e w'=>e=.returned (.bool (decide (k=n)))∧Below w.heap.size w w':=by
 have c0:=h.at_.at_ 0 _ rfl
 have c1:=h.at_.at_ 1 _ rfl
 have hb:((k:Int) == (n:Int))=decide (k=n):=by
  by_cases e:k=n
  ·subst e; simp
  ·rw [decide_eq_false e]; exact beq_eq_false_iff_ne.2 (by omega)
 have H:=Lib.hid h
 clear h
 go_enter Tryd.func50,Tryd.ntmps50
 have lt:=H.out.at_.lt
 have H0:Hid (Below w.heap.size w w.drew):=(Below.refl _ _).drew
 go_wp2
 refine wp_region_held_drew (S:=fun w'=>Below w.heap.size w w') (by kernel_rfl) H0.out (fun hHeld=>?_)
 generalize w.drew=wd at H0 hHeld ⊢
 refine tk 0 rfl (.pointer (some ⟨lb,0,none⟩)) ?_
 refine tk 1 rfl (.pointer (some ⟨lb,0,none⟩)) ?_
 refine tk 2 rfl (.pointer (some ⟨lb,1,none⟩)) ?_
 refine tk 3 rfl (.int .i64 k) ?_ (hv:=fun w' hS'=>by (have z0:=(hS'.cell (p:=⟨lb,1,none⟩) lt).trans c1); go_simp)
 refine tk 4 rfl (.pointer (some ⟨lb,0,none⟩)) ?_
 refine tk 5 rfl (.pointer (some ⟨lb,0,none⟩)) ?_
 refine tk 6 rfl (.pointer (some ⟨lb,0,none⟩)) ?_
 refine tk 7 rfl (.slice (some ⟨b,o,none⟩) n c) ?_ (hv:=fun w' hS'=>by (have z0:=(hS'.cell (p:=⟨lb,0,none⟩) lt).trans c0); go_simp)
 refine tk 8 rfl (.int .i64 n) ?_
 refine tk 9 rfl (.bool (decide (k=n))) ?_
 refine tk 10 rfl (.bool (decide (k=n))) ?_
 refine wpAnyH_done (by kernel_rfl) ?_ _
 clear c0 c1 lt hHeld
 go_wp2
 go_ret
 exact ⟨rfl,H0.out⟩
theorem part_any (lb b o n c:Nat) (l:List UInt8) (k:Nat) (w:World) (h:Ln w lb b o n c l k) :
  Calls Tryd.prog 45 #[.pointer (some ⟨lb,0,none⟩)] w fun e w'=>∃ A' c',e=.returned (.slice A' (wordOf (l.drop k)).length c')∧Row w' A' (wordOf (l.drop k)).length (wordOf (l.drop k))∧Below w.heap.size w w':=by
 have c0:=h.at_.at_ 0 _ rfl
 have c1:=h.at_.at_ 1 _ rfl
 have H:=Lib.hid h
 have hk:=h.kn
 have hc:=h.nc
 have hm:=h.cm
 unfold maxLen at hm
 clear h
 have hr:=H.out.row
 obtain ⟨o',hA⟩:∃ o',(if c=k then some (⟨b,o,none⟩:Addr) else (some (⟨b,o,none⟩:Addr)).map (fun x=>x.add k))=some ⟨b,o',none⟩:=by
  split
  ·exact ⟨o,rfl⟩
  ·exact ⟨o+k,by rw [Option.map_some,add_none]⟩
 have HR2:=Lib.hid (Ident.Row.from_ hr k c hk hc hA)
 have lt:=H.out.at_.lt
 clear hr
 have hnk:¬ n<k:=by omega
 have hcn:¬ c<n:=by omega
 have H0:Hid (Below w.heap.size w w.drew):=(Below.refl _ _).drew
 go_enter Tryd.func45,Tryd.ntmps45
 go_wp2_with fail
 refine wp_region_held_drew (S:=fun w'=>Below w.heap.size w w') (by kernel_rfl) H0.out (fun hHeld=>?_)
 generalize w.drew=wd at H0 hHeld ⊢
 refine tk 0 rfl (.pointer (some ⟨lb,0,none⟩)) ?_
 refine tk 1 rfl (.pointer (some ⟨lb,0,none⟩)) ?_
 refine tk 2 rfl (.pointer (some ⟨lb,0,none⟩)) ?_
 refine tk 3 rfl (.slice (some ⟨b,o,none⟩) n c) ?_ (hv:=fun w' hS'=>by (have z0:=(hS'.cell (p:=⟨lb,0,none⟩) lt).trans c0); go_simp)
 refine tk 4 rfl (.pointer (some ⟨lb,0,none⟩)) ?_
 refine tk 5 rfl (.pointer (some ⟨lb,0,none⟩)) ?_
 refine tk 6 rfl (.pointer (some ⟨lb,1,none⟩)) ?_
 refine tk 7 rfl (.int .i64 k) ?_ (hv:=fun w' hS'=>by (have z0:=(hS'.cell (p:=⟨lb,1,none⟩) lt).trans c1); go_simp)
 refine tk 8 rfl (.slice (some ⟨b,o',none⟩) (n - k) (c - k)) ?_ (hv:=fun w' hS'=>by rw [← hA]; go_simp)
 refine cl 9 rfl fun K hK=>?_
 go_simp
 have H1:Hid (Below w.heap.size w (wd.alloc (.cells #[.int .u8 32] 5))):=H0.out.alloc H0.out.size _
 have HC:Hid ((wd.alloc (.cells #[.int .u8 32] 5)).cell? ⟨wd.heap.size,0,none⟩=some (.int .u8 32)):=by unfold Hid; simp [go_sem]
 refine hK.out _ _ H1.out (fun hHeld1=>?_)
 clear hK K
 try simp only [Act.put,p1,p2,p3]
 generalize wd.heap.size=g at HC ⊢
 generalize wd.alloc (.cells #[.int .u8 32] 5)=w1 at H1 HC hHeld1 ⊢
 refine cl 10 rfl fun K hK=>?_
 go_simp
 refine (cut_any b o' (n - k) (c - k) g 1 (l.drop k) w1 (HR2.out.kept H1.out) (by omega) HC.out).mono ?_
 rintro e w2 ⟨u,v,rfl,hb⟩
 have H2:Hid (Below w.heap.size w w2):=H1.out.trans (hb.mono H1.out.size)
 refine hK.out _ _ H2.out (fun hHeld2=>?_)
 clear hK K hb
 try simp only [Act.put,p1,p2,p3]
 obtain ⟨m,hm0⟩:∃ m,(wordOf (l.drop k)).length=m:=⟨_,rfl⟩
 rw [hm0]
 have HM0:=Lib.hid hm0
 clear hm0
 refine tk 11 rfl (.tuple #[.slice (some ⟨b,o',none⟩) m (c - k),u,v]) ?_
 refine tk 12 rfl (.slice (some ⟨b,o',none⟩) m (c - k)) ?_
 refine tk 13 rfl u ?_
 refine tk 14 rfl v ?_
 refine tk 15 rfl (.slice (some ⟨b,o',none⟩) m (c - k)) ?_
 refine tk 16 rfl u ?_
 refine tk 17 rfl v ?_
 refine wpAnyH_done (by kernel_rfl) ?_ _
 clear hHeld hHeld1 hHeld2 c0 c1 lt hA
 go_wp2
 go_ret
 refine ⟨some ⟨b,o',none⟩,c - k,by rw [HM0.out]; rfl,?_,H2.out⟩
 rw [HM0.out]
 have hle:m≤n - k:=by
  rw [← HM0.out]
  have:=word_le (l.drop k)
  have e:(l.drop k).length=n - k:=HR2.out.1
  omega
 have q:=(HR2.out.kept H2.out).piece (A':=some ⟨b,o',none⟩) 0 m (by omega) (fun _ _ _ e=>e)
 have e:((l.drop k).drop 0).take m=wordOf (l.drop k):=by
  rw [List.drop_zero,← HM0.out]
  exact (List.prefix_iff_eq_take.1 (List.takeWhile_prefix _)).symm
 rw [e] at q
 exact q
def nextAt (l:List UInt8) (k:Nat):Nat:=if k+(wordOf (l.drop k)).length=l.length then l.length else k+(wordOf (l.drop k)).length+1
theorem nextAt_le {l:List UInt8} {k:Nat} (hk:k≤l.length):k≤nextAt l k∧nextAt l k≤l.length:=by
 unfold nextAt
 have:=word_le (l.drop k)
 rw [List.length_drop] at this
 split <;> omega
theorem nextAt_drop (l:List UInt8) (k:Nat):l.drop (nextAt l k)=(l.drop k).drop ((wordOf (l.drop k)).length+1):=by
 unfold nextAt
 rw [List.drop_drop]
 have h1:=word_le (l.drop k)
 rw [List.length_drop] at h1
 split
 ·rename_i h
  rw [List.drop_length,List.drop_eq_nil_of_le (by omega)]
 ·rw [Nat.add_assoc]
theorem nextAt_end {l:List UInt8} {k:Nat} (hk:k≤l.length):nextAt l k=l.length↔(l.drop k).drop ((wordOf (l.drop k)).length+1)=[]:=by
 rw [← nextAt_drop l k,List.drop_eq_nil_iff]
 have:=(nextAt_le hk).2
 omega
theorem next_any (lb b o n c:Nat) (l:List UInt8) (k:Nat) (w:World) (h:Ln w lb b o n c l k) :
  Calls Tryd.prog 43 #[.pointer (some ⟨lb,0,none⟩)] w fun e w'=>e=.returned (.int .i64 (if nextAt l k=n then 5 else 0))∧But (fun g=>g=lb) w w'∧Ln w' lb b o n c l (nextAt l k):=by
 have H:=Lib.hid h
 have hk:=h.kn
 have hln:l.length=n:=h.row.1
 have hn9:n≤9223372036854775807:=h.row.2.1
 have c1:=h.at_.at_ 1 _ rfl
 have lt:=h.at_.lt
 have hw0:=word_le (l.drop k)
 rw [List.length_drop,hln] at hw0
 have HP:=Lib.hid (fun W (hB:Below w.heap.size w W)=>part_any lb b o n c l k W (H.out.kept hB))
 have HNX:Hid (nextAt l k=if k+(wordOf (l.drop k)).length=n then n else k+(wordOf (l.drop k)).length+1):=by unfold Hid nextAt; rw [hln]
 clear h
 obtain ⟨m,hm0⟩:∃ m,(wordOf (l.drop k)).length=m:=⟨_,rfl⟩
 simp only [hm0] at HP HNX hw0
 clear hm0
 obtain ⟨j,hj⟩:∃ j,k+m=j:=⟨_,rfl⟩
 have hjn:j≤n:=by omega
 have hwk:IntKind.i64.wrap ((k:Int)+(m:Int))=(j:Int):=by rw [IntKind.wrap_i64]; omega
 rw [hj] at HNX
 clear hj
 obtain ⟨E,hE⟩:∃ E:Int,(if nextAt l k=n then (5:Int) else 0)=E:=⟨_,rfl⟩
 rw [hE]
 have HEE:=Lib.hid hE
 clear hE
 have H0:Hid (Below w.heap.size w w.drew):=(Below.refl _ _).drew
 go_enter Tryd.func43,Tryd.ntmps43
 go_wp2_with fail
 have TAIL:Hid (∀ (W:World) (A':Option Addr) (c':Nat),Below w.heap.size w W→Ln (W.setCell ⟨lb,1,none⟩ (.int .i64 j)) lb b o n c l j):=fun W A' c' hB=>(H.out.kept hB).set j hjn
 refine wp_region_held_drew (S:=fun _=>True) (by kernel_rfl) trivial (fun hHeld=>?_)
 generalize w.drew=wd at H0 hHeld ⊢
 refine tk 0 rfl (.pointer (some ⟨lb,0,none⟩)) ?_
 refine tk 1 rfl (.pointer (some ⟨lb,0,none⟩)) ?_
 refine tk 2 rfl (.pointer (some ⟨lb,1,none⟩)) ?_
 refine tk 4 rfl (.pointer (some ⟨lb,0,none⟩)) ?_
 have d1:=(H0.out.cell (p:=⟨lb,1,none⟩) lt).trans c1
 refine wpAnyH_ready (rs:=[3,5]) (by kernel_rfl) (by simp) ?_
 refine AllReadyH.cons (nth_ops (i:=3) rfl) (fun K hK=>?_) (AllReadyH.cons (nth_ops (i:=5) rfl) (fun K hK=>?_) AllReadyH.nil)
 ·go_simp
  refine hK.out _ _ trivial (fun _=>?_)
  clear hK K
  try simp only [Act.put,p1,p2,p3]
  refine cl 5 rfl fun K hK=>?_
  go_simp
  refine (HP.out wd H0.out).mono ?_
  rintro e w2 ⟨A',c',rfl,hr,hb⟩
  have HB2:Hid (Below w.heap.size w w2):=H0.out.trans (hb.mono H0.out.size)
  refine hK.out _ _ trivial (fun _=>?_)
  clear hK K hb hr
  try simp only [Act.put,p1,p2,p3]
  refine tk 6 rfl (.int .i64 m) ?_
  refine tk 7 rfl (.int .i64 j) ?_
  refine tk 8 rfl (.pointer (some ⟨lb,0,none⟩)) ?_
  refine tk 9 rfl (.pointer (some ⟨lb,1,none⟩)) ?_
  have HL3:=Lib.hid (TAIL.out w2 A' c' HB2.out)
  have hf:=(H.out.kept HB2.out).at_.fr 1
  have hc1:=(H.out.kept HB2.out).at_.at_ 1 _ rfl
  have hB3:But (fun g=>g=lb) w (w2.setCell ⟨lb,1,none⟩ (.int .i64 j)):=(But.of_same HB2.out _).trans (set_but w2 lb 1 _) fun i e=>.inl e
  have HB3:=Lib.hid hB3
  clear hB3
  refine cl 10 rfl fun K hK=>?_
  go_simp
  refine hK.out _ _ trivial (fun _=>?_)
  clear hK K
  try simp only [Act.put,p1,p2,p3]
  refine wpAnyH_done (by kernel_rfl) ?_ _
  clear c1 d1 lt hHeld TAIL hf hc1 HP
  generalize w2.setCell ⟨lb,1,none⟩ (.int .i64 j)=w3 at HL3 HB3 ⊢
  have HE3:=Lib.hid (ends_any lb b o n c l j w3 HL3.out)
  by_cases he:j=n
  ·have hd:decide (j=n)=true:=decide_eq_true he
   have HN:Hid (nextAt l k=j):=by unfold Hid; rw [HNX.out,if_pos he,he]
   have HD:=Lib.hid hd
   have HE:=Lib.hid he
   rw [hd] at HE3
   clear hd he
   go_wp2_with fail
   refine HE3.out.mono ?_
   rintro e w4 ⟨rfl,hb⟩
   have HL4:=Lib.hid (HL3.out.kept hb)
   have HB4:Hid (But (fun g=>g=lb) w w4):=HB3.out.trans (But.of_same hb (fun _=>False)) fun i g=>g.elim
   clear hb
   go_wp2_with fail
   refine (ends_any lb b o n c l j w4 HL4.out).mono ?_
   rw [HD.out]
   rintro e w5 ⟨rfl,hb⟩
   have HL5:=Lib.hid (HL4.out.kept hb)
   have HB5:Hid (But (fun g=>g=lb) w w5):=HB4.out.trans (But.of_same hb (fun _=>False)) fun i g=>g.elim
   clear hb
   go_wp2
   go_ret
   exact ⟨by rw [← HEE.out,HN.out,if_pos HE.out]; rfl,HB5.out,by rw [HN.out]; exact HL5.out⟩
  ·have hd:decide (j=n)=false:=decide_eq_false he
   have HN:Hid (nextAt l k=j+1):=by unfold Hid; rw [HNX.out,if_neg he]
   have hj1:j+1≤n:=by omega
   obtain ⟨i,hi⟩:∃ i,j+1=i:=⟨_,rfl⟩
   have hjj:IntKind.i64.wrap ((j:Int)+1)=(i:Int):=by rw [IntKind.wrap_i64]; omega
   rw [hi] at HN hj1
   clear hi
   rw [hd] at HE3
   clear hd he
   go_wp2_with fail
   refine HE3.out.mono ?_
   rintro e w4 ⟨rfl,hb⟩
   have HL4:=Lib.hid (HL3.out.kept hb)
   have HB4:Hid (But (fun g=>g=lb) w w4):=HB3.out.trans (But.of_same hb (fun _=>False)) fun i g=>g.elim
   clear hb
   have c4:=HL4.out.at_.at_ 1 _ rfl
   have f4:=HL4.out.at_.fr 1
   go_wp2_with fail
   have HL5:Hid (Ln (w4.setCell ⟨lb,1,none⟩ (.int .i64 i)) lb b o n c l i):=HL4.out.set i hj1
   have HB5:Hid (But (fun g=>g=lb) w (w4.setCell ⟨lb,1,none⟩ (.int .i64 i))):=HB4.out.trans (set_but w4 lb 1 _) fun i e=>.inl e
   clear c4 f4 hjj
   generalize w4.setCell ⟨lb,1,none⟩ (.int .i64 i)=w5 at HL5 HB5 ⊢
   obtain ⟨bb,hbb⟩:∃ bb,decide (i=n)=bb:=⟨_,rfl⟩
   have HEN:=Lib.hid (ends_any lb b o n c l i w5 HL5.out)
   rw [hbb] at HEN
   have HBB:Hid ((if i=n then (5:Int) else 0)=if bb=true then 5 else 0):=by unfold Hid; rw [← hbb]; by_cases q:i=n <;> simp [q]
   clear hbb
   refine HEN.out.mono ?_
   rintro e w6 ⟨rfl,hb⟩
   have HL6:=Lib.hid (HL5.out.kept hb)
   have HB6:Hid (But (fun g=>g=lb) w w6):=HB5.out.trans (But.of_same hb (fun _=>False)) fun i g=>g.elim
   clear hb
   cases bb
   ·go_wp2
    go_ret
    exact ⟨by rw [← HEE.out,HN.out,HBB.out]; rfl,HB6.out,by rw [HN.out]; exact HL6.out⟩
   ·go_wp2
    go_ret
    exact ⟨by rw [← HEE.out,HN.out,HBB.out]; rfl,HB6.out,by rw [HN.out]; exact HL6.out⟩
 ·go_simp
  refine (HP.out wd H0.out).mono ?_
  rintro e w2 ⟨A',c',rfl,hr,hb⟩
  have HB2:Hid (Below w.heap.size w w2):=H0.out.trans (hb.mono H0.out.size)
  refine hK.out _ _ trivial (fun _=>?_)
  clear hK K hb hr
  try simp only [Act.put,p1,p2,p3]
  have e1:=(HB2.out.cell (p:=⟨lb,1,none⟩) lt).trans c1
  refine tk 6 rfl (.int .i64 m) ?_
  refine cl 3 rfl fun K hK=>?_
  go_simp
  refine hK.out _ _ trivial (fun _=>?_)
  clear hK K
  try simp only [Act.put,p1,p2,p3]
  refine tk 7 rfl (.int .i64 j) ?_
  refine tk 8 rfl (.pointer (some ⟨lb,0,none⟩)) ?_
  refine tk 9 rfl (.pointer (some ⟨lb,1,none⟩)) ?_
  have HL3:=Lib.hid (TAIL.out w2 A' c' HB2.out)
  have hf:=(H.out.kept HB2.out).at_.fr 1
  have hc1:=(H.out.kept HB2.out).at_.at_ 1 _ rfl
  have hB3:But (fun g=>g=lb) w (w2.setCell ⟨lb,1,none⟩ (.int .i64 j)):=(But.of_same HB2.out _).trans (set_but w2 lb 1 _) fun i e=>.inl e
  have HB3:=Lib.hid hB3
  clear hB3
  refine cl 10 rfl fun K hK=>?_
  go_simp
  refine hK.out _ _ trivial (fun _=>?_)
  clear hK K
  try simp only [Act.put,p1,p2,p3]
  refine wpAnyH_done (by kernel_rfl) ?_ _
  clear c1 d1 lt hHeld TAIL hf hc1 HP
  generalize w2.setCell ⟨lb,1,none⟩ (.int .i64 j)=w3 at HL3 HB3 ⊢
  have HE3:=Lib.hid (ends_any lb b o n c l j w3 HL3.out)
  by_cases he:j=n
  ·have hd:decide (j=n)=true:=decide_eq_true he
   have HN:Hid (nextAt l k=j):=by unfold Hid; rw [HNX.out,if_pos he,he]
   have HD:=Lib.hid hd
   have HE:=Lib.hid he
   rw [hd] at HE3
   clear hd he
   go_wp2_with fail
   refine HE3.out.mono ?_
   rintro e w4 ⟨rfl,hb⟩
   have HL4:=Lib.hid (HL3.out.kept hb)
   have HB4:Hid (But (fun g=>g=lb) w w4):=HB3.out.trans (But.of_same hb (fun _=>False)) fun i g=>g.elim
   clear hb
   go_wp2_with fail
   refine (ends_any lb b o n c l j w4 HL4.out).mono ?_
   rw [HD.out]
   rintro e w5 ⟨rfl,hb⟩
   have HL5:=Lib.hid (HL4.out.kept hb)
   have HB5:Hid (But (fun g=>g=lb) w w5):=HB4.out.trans (But.of_same hb (fun _=>False)) fun i g=>g.elim
   clear hb
   go_wp2
   go_ret
   exact ⟨by rw [← HEE.out,HN.out,if_pos HE.out]; rfl,HB5.out,by rw [HN.out]; exact HL5.out⟩
  ·have hd:decide (j=n)=false:=decide_eq_false he
   have HN:Hid (nextAt l k=j+1):=by unfold Hid; rw [HNX.out,if_neg he]
   have hj1:j+1≤n:=by omega
   obtain ⟨i,hi⟩:∃ i,j+1=i:=⟨_,rfl⟩
   have hjj:IntKind.i64.wrap ((j:Int)+1)=(i:Int):=by rw [IntKind.wrap_i64]; omega
   rw [hi] at HN hj1
   clear hi
   rw [hd] at HE3
   clear hd he
   go_wp2_with fail
   refine HE3.out.mono ?_
   rintro e w4 ⟨rfl,hb⟩
   have HL4:=Lib.hid (HL3.out.kept hb)
   have HB4:Hid (But (fun g=>g=lb) w w4):=HB3.out.trans (But.of_same hb (fun _=>False)) fun i g=>g.elim
   clear hb
   have c4:=HL4.out.at_.at_ 1 _ rfl
   have f4:=HL4.out.at_.fr 1
   go_wp2_with fail
   have HL5:Hid (Ln (w4.setCell ⟨lb,1,none⟩ (.int .i64 i)) lb b o n c l i):=HL4.out.set i hj1
   have HB5:Hid (But (fun g=>g=lb) w (w4.setCell ⟨lb,1,none⟩ (.int .i64 i))):=HB4.out.trans (set_but w4 lb 1 _) fun i e=>.inl e
   clear c4 f4 hjj
   generalize w4.setCell ⟨lb,1,none⟩ (.int .i64 i)=w5 at HL5 HB5 ⊢
   obtain ⟨bb,hbb⟩:∃ bb,decide (i=n)=bb:=⟨_,rfl⟩
   have HEN:=Lib.hid (ends_any lb b o n c l i w5 HL5.out)
   rw [hbb] at HEN
   have HBB:Hid ((if i=n then (5:Int) else 0)=if bb=true then 5 else 0):=by unfold Hid; rw [← hbb]; by_cases q:i=n <;> simp [q]
   clear hbb
   refine HEN.out.mono ?_
   rintro e w6 ⟨rfl,hb⟩
   have HL6:=Lib.hid (HL5.out.kept hb)
   have HB6:Hid (But (fun g=>g=lb) w w6):=HB5.out.trans (But.of_same hb (fun _=>False)) fun i g=>g.elim
   clear hb
   cases bb
   ·go_wp2
    go_ret
    exact ⟨by rw [← HEE.out,HN.out,HBB.out]; rfl,HB6.out,by rw [HN.out]; exact HL6.out⟩
   ·go_wp2
    go_ret
    exact ⟨by rw [← HEE.out,HN.out,HBB.out]; rfl,HB6.out,by rw [HN.out]; exact HL6.out⟩
end Go.Proofs.YtgakcdcfblgagaaDoor.Sheet
namespace Go.Proofs.YtgakcdcfblgagaaDoor.Sheet
open Go.RowKit Num Ident Semver Fr
open KR (AtV)
open Range (KeepS)

theorem atv_set {W:World} {b:Nat} {L:List Value} (h:AtV W b L) (i:Nat) (v:Value) (hi:i<L.length):AtV (W.setCell ⟨b,i,none⟩ v) b (L.set i v):=by
 refine ⟨by simpa using h.lt,fun o=>by simp [go_sem,h.fr],fun j u hu=>?_⟩
 have hc:=h.at_ i _ (List.getElem?_eq_getElem hi)
 by_cases e:j=i
 ·subst e
  rw [List.getElem?_set_self hi] at hu
  injection hu with hu
  subst hu
  simp [go_sem,hc]
 ·rw [List.getElem?_set_ne (fun q=>e q.symm)] at hu
  have:=h.at_ j u hu
  simp [go_sem,this,e]
theorem atv_oth {T:Nat→Prop} {w w':World} {b:Nat} {L:List Value} (h:AtV w b L) (k:But T w w') (hn:¬ T b):AtV w' b L :=
 ⟨Nat.lt_of_lt_of_le h.lt k.size,fun o=>(k.frozen h.lt hn).trans (h.fr o),fun i u hu=>(k.cell h.lt hn).trans (h.at_ i u hu)⟩
theorem row_oth {T:Nat→Prop} {w w':World} {b o n:Nat} {l:List UInt8} (h:Row w (some ⟨b,o,none⟩) n l) (k:But T w w') (hn:¬ T b):Row w' (some ⟨b,o,none⟩) n l:=by
 refine ⟨h.1,h.2.1,fun h0=>?_⟩
 obtain ⟨b',o',e,hlt,hc⟩:=h.2.2 h0
 injection e with e
 injection e with e1 e2
 subst e1
 subst e2
 exact ⟨b,o,rfl,Nat.lt_of_lt_of_le hlt k.size,fun j hj=>(k.cell hlt hn).trans (hc j hj)⟩
theorem Ln.oth {T:Nat→Prop} {W W':World} {lb b o n c k:Nat} {l:List UInt8} (h:Ln W lb b o n c l k) (hb:But T W W') (h1:¬ T lb) (h2:¬ T b):Ln W' lb b o n c l k :=
 ⟨atv_oth h.at_ hb h1,row_oth h.row hb h2,h.hb,h.kn,h.nc,h.cm⟩
theorem keep_oth {T S:Nat→Prop} {w w':World} (h:But T w w') (hn:∀ g,S g→¬ T g):KeepS S w w' :=
 ⟨h.size,fun _ _ _ hg hc=>(h.cell (Range.block_lt hc) (hn _ hg)).trans hc⟩
def LnE (W:World) (lb b o n c:Nat):Prop:=∃ q:Int,AtV W lb [.slice (some ⟨b,o,none⟩) n c,.int .i64 q]
theorem LnE.of {W:World} {lb b o n c k:Nat} {l:List UInt8} (h:Ln W lb b o n c l k):LnE W lb b o n c:=⟨_,h.at_⟩
theorem LnE.oth {T:Nat→Prop} {W W':World} {lb b o n c:Nat} (h:LnE W lb b o n c) (hb:But T W W') (h1:¬ T lb):LnE W' lb b o n c:=by
 obtain ⟨q,h⟩:=h
 exact ⟨q,atv_oth h hb h1⟩
theorem LnE.setq {W:World} {lb b o n c:Nat} (h:LnE W lb b o n c) (q:Int):LnE (W.setCell ⟨lb,1,none⟩ (.int .i64 q)) lb b o n c:=by
 obtain ⟨p,h⟩:=h
 exact ⟨q,atv_set h 1 _ (by simp)⟩
theorem but_one (W:World) (b i:Nat) (v:Value):But (fun g=>g=b) W (W.setCell ⟨b,i,none⟩ v):=(But.refl _ _).set b i v (.inl rfl)
end Go.Proofs.YtgakcdcfblgagaaDoor.Sheet
namespace Go.Proofs.YtgakcdcfblgagaaDoor.Sheet
open Go.RowKit Num Ident Semver Fr
open KR (AtV)
open Name (isName)

theorem whole_any (s:List UInt8) (w:World) (hs:s.length≤maxLen) :
  Calls Tryd.prog 44 #[.string (Ident.mk s)] w fun e w'=>e=.returned (if isName s=true then .tuple #[.string (Ident.mk s),.int .i64 0,.int .i64 0] else .tuple #[.string ⟨#[]⟩,.int .i64 0,.int .i64 12])∧Below w.heap.size w w':=by
 have hcon:=Name.good_any (Ident.mk s) w (by rw [mk_size]; exact hs)
 rw [mk_list] at hcon
 cases hn:isName s with
 | true =>
  rw [hn] at hcon
  go_enter Tryd.func44,Tryd.ntmps44
  go_wp2_with fail
  refine hcon.mono ?_
  rintro e w' ⟨rfl,hb⟩
  have HB:=Lib.hid hb
  clear hb
  go_wp2
  go_ret3
  exact ⟨rfl,HB.out⟩
 | false =>
  rw [hn] at hcon
  go_enter Tryd.func44,Tryd.ntmps44
  go_wp2_with fail
  refine hcon.mono ?_
  rintro e w' ⟨rfl,hb⟩
  have HB:=Lib.hid hb
  clear hb
  go_wp2
  go_ret3
  exact ⟨rfl,HB.out⟩
def nameE (l:List UInt8) (k:Nat):Nat:=if nextAt l k=l.length then 5 else if isName (wordOf (l.drop (nextAt l k)))=true then 0 else 12
theorem name_any (lb b o n c:Nat) (l:List UInt8) (k:Nat) (w:World) (h:Ln w lb b o n c l k) :
  Calls Tryd.prog 20 #[.pointer (some ⟨lb,0,none⟩)] w fun e w'=>∃ nm:List UInt8,e=.returned (.tuple #[.string (Ident.mk nm),.int .i64 (nameE l k)])∧(nameE l k=0→nm=wordOf (l.drop (nextAt l k)))∧But (fun g=>g=lb) w w'∧Ln w' lb b o n c l (nextAt l k):=by
 have hln:l.length=n:=h.row.1
 have hn9:n≤maxLen:=h.row.2.1
 have hcon:=next_any lb b o n c l k w h
 have HNE:Hid (nameE l k=if nextAt l k=n then 5 else if isName (wordOf (l.drop (nextAt l k)))=true then 0 else 12):=by unfold Hid nameE; rw [hln]
 obtain ⟨k',hk'⟩:∃ k',nextAt l k=k':=⟨_,rfl⟩
 obtain ⟨E,hE⟩:∃ E,nameE l k=E:=⟨_,rfl⟩
 rw [hk',hE] at HNE
 rw [hk'] at hcon ⊢
 rw [hE]
 clear hk' hE
 have hwl:(wordOf (l.drop k')).length≤maxLen:=by
  have:=word_le (l.drop k')
  rw [List.length_drop] at this
  omega
 by_cases he:k'=n
 ·rw [if_pos he] at hcon HNE
  rw [HNE.out]
  clear he h HNE
  go_enter Tryd.func20,Tryd.ntmps20
  go_wp2_with fail
  refine hcon.mono ?_
  rintro e w' ⟨rfl,hb,hl⟩
  have HB:=Lib.hid hb
  have HL:=Lib.hid hl
  clear hb hl
  go_wp2
  go_ret2
  exact ⟨[],rfl,(fun e=>by cases e),HB.out,HL.out⟩
 ·rw [if_neg he] at hcon HNE
  clear he h
  go_enter Tryd.func20,Tryd.ntmps20
  go_wp2_with fail
  refine hcon.mono ?_
  rintro e w1 ⟨rfl,hb,hl⟩
  have HB:=Lib.hid hb
  have HL:=Lib.hid hl
  clear hb hl
  go_wp2_with fail
  refine (part_any lb b o n c l k' w1 HL.out).mono ?_
  rintro e w2 ⟨A',c',rfl,hr,hb⟩
  have HR:=Lib.hid hr
  have HB2:=Lib.hid hb
  have hconv:=run_text hr c'
  have HL2:=Lib.hid (HL.out.kept hb)
  clear hb hr
  obtain ⟨s,hs⟩:∃ s,wordOf (l.drop k')=s:=⟨_,rfl⟩
  have HSW:=Lib.hid hs
  rw [hs] at hwl HNE HR hconv ⊢
  clear hs
  have hwh:=whole_any s w2 hwl
  have HB3:Hid (But (fun g=>g=lb) w w2):=HB.out.trans (But.of_same HB2.out (fun _=>False)) fun i g=>g.elim
  clear HB HB2
  cases hn:isName s with
  | true =>
   rw [hn] at hwh HNE
   rw [if_pos rfl] at HNE
   obtain rfl:=HNE.out
   clear hn HNE
   go_wp2_with fail
   refine hwh.mono ?_
   rintro e w3 ⟨rfl,hb⟩
   have HL3:=Lib.hid (HL2.out.kept hb)
   have HB4:Hid (But (fun g=>g=lb) w w3):=HB3.out.trans (But.of_same hb (fun _=>False)) fun i g=>g.elim
   clear hb hwh
   go_wp2
   go_ret2
   exact ⟨s,rfl,HSW.out.symm,HB4.out,HL3.out⟩
  | false =>
   rw [hn] at hwh HNE
   rw [if_neg (by decide)] at HNE
   obtain rfl:=HNE.out
   clear hn HNE
   go_wp2_with fail
   refine hwh.mono ?_
   rintro e w3 ⟨rfl,hb⟩
   have HL3:=Lib.hid (HL2.out.kept hb)
   have HB4:Hid (But (fun g=>g=lb) w w3):=HB3.out.trans (But.of_same hb (fun _=>False)) fun i g=>g.elim
   clear hb hwh
   go_wp2
   go_ret2
   exact ⟨[],rfl,(fun e=>by cases e),HB4.out,HL3.out⟩
end Go.Proofs.YtgakcdcfblgagaaDoor.Sheet
