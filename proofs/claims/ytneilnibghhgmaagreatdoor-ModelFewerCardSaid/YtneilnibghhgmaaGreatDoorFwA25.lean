/-
  What the theorem of the last text needs of these: MoFewerAll. Conditions: as each theorem states.
-/
import Derived.Test.YtneilnibghhgmaaGreatDoorFwA1
import Derived.Test.YtneilnibghhgmaaGreatDoorFwA24
set_option maxRecDepth 100000
set_option maxHeartbeats 25600000
namespace Go.Proofs.YtneilnibghhgmaaGreatDoor.Model
open Go.RowKit Num Ident Semver
open Range (LtB)
theorem modelFewer_byte (A:Option Addr) (n c:Nat) (x:List MPack) (RA:Option Addr) (rn rc:Nat) (roots:List MDep) (SA:Option Addr) (m sc:Nat) (s:List MPin) (u:Int) (w:World) (hx:PRow w (LtB w.heap.size) A n x) (hr:DRow w (LtB w.heap.size) RA rn roots) (hs:SPRow w (LtB w.heap.size) SA m s) (oa:SlOk A n c) (ob:SlOk RA rn rc) (oc:SlOk SA m sc) (hu:(Lit.int .u8 u).wf=true) (ht:Tab w) :
  Calls Tryz.prog 6 #[.agg #[.slice A n c],.slice RA rn rc,.slice SA m sc,.int .u8 u] w fun e w'=>e=.returned (.bool true)∧Below w.heap.size w w':=by
 have h0:IntKind.min .u8=0:=by decide
 have h1:IntKind.max .u8=255:=by decide
 simp only [Lit.wf,Bool.and_eq_true,decide_eq_true_eq,h0,h1] at hu
 exact modelFewer_of saysA A n c x RA rn rc roots SA m sc s u w hx hr hs oa ob oc hu.1 hu.2 ht
end Go.Proofs.YtneilnibghhgmaaGreatDoor.Model
