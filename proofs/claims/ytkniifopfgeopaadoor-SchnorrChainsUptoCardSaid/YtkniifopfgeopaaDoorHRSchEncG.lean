/-
  The document's Encode of any certificates.
-/
import Derived.Test.YtkniifopfgeopaaDoorHSchEncG
namespace Go.Proofs.YtkniifopfgeopaaDoor
open Go.RowKit
set_option linter.unusedVariables false

theorem own_below {w w' : World} {base : Nat} {e : TypeId} {v : Value} {xs : List Int} (h : Own w base e v xs) (hb : Below w.heap.size w w') : Own w' base e v xs :=
  World.ownsRow.kept h (grown_of_below hb none) (by cases v.ownBlock <;> simp)

end Go.Proofs.YtkniifopfgeopaaDoor
