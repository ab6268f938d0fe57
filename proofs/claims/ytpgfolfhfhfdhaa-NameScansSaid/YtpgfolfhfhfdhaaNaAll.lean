/-
  All that package name is asked to answer, of the landed functions. No condition beside those that the bundle states.
-/
import Derived.Test.YtpgfolfhfhfdhaaNaWalk
import Derived.Test.YtpgfolfhfhfdhaaNaAddW
import Derived.Test.YtpgfolfhfhfdhaaNaOrd
import Derived.Test.YtpgfolfhfhfdhaaNaSays
namespace Go.Proofs.Ytpgfolfhfhfdhaa.Name
open Go.RowKit Num Ident Fr Ints

theorem says : Says where
  good := good_any
  scan A n c l p w h hc := (scan_any A n c l p w h hc).mono fun e w' ⟨he, hw⟩ => ⟨he, by subst hw; exact Below.refl _ _⟩
  add := add_any
  find tb T x s w h hs := (find_any tb T x s w h hs).mono fun e w' ⟨he, hw⟩ => ⟨he, by subst hw; exact Below.refl _ _⟩
  name tb T x i w h _ _ := (name_any tb T x i w h).mono fun e w' ⟨he, hw⟩ => ⟨he, by subst hw; exact Below.refl _ _⟩
  len tb T x w h := (len_any tb T x w h).mono fun e w' ⟨he, hw⟩ => ⟨he, by subst hw; exact Below.refl _ _⟩
  order := order_any
end Go.Proofs.Ytpgfolfhfhfdhaa.Name
