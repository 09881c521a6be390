/-
  schnorr.Chain, and what walk says of a chain that was issued.
-/
import Derived.Test.YtkniifopfgeopaaDoorHSchWalk
namespace Go.Proofs.YtkniifopfgeopaaDoor
open Go.RowKit
set_option linter.unusedVariables false

end Go.Proofs.YtkniifopfgeopaaDoor
