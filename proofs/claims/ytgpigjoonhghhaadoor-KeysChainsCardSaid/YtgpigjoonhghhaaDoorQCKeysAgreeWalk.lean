/-
  The law KeysAgree, walked: it returns true for every input, and only adds memory of its own.
-/
import Derived.Test.YtgpigjoonhghhaaDoorQCKeyLaw
import Derived.Test.YtgpigjoonhghhaaDoorQCZ5
import Derived.Deep.Cut
namespace Go.Proofs.YtgpigjoonhghhaaDoor
open Go.RowKit
set_option linter.unusedVariables false
theorem keyK_len (d a b : List Int) (i r : Int) (h : okN a.length b.length = true) (j : Nat) (hj : j < 5) : (keyK d a b i r j).length = szK j := by
  unfold keyK
  rw [if_pos h]
  refine cutK_len _ _ _ ?_
  unfold allK
  rw [plusS_len]
  have : j = 0 ∨ j = 1 ∨ j = 2 ∨ j = 3 ∨ j = 4 := by omega
  rcases this with rfl | rfl | rfl | rfl | rfl <;> decide
theorem ok_drawn (t u : Nat) (ht : t < 20) (hu : u < 20) : okN (16 + t) (16 + u) = true := (okN_iff _ _).2 (by omega)
end Go.Proofs.YtgpigjoonhghhaaDoor
