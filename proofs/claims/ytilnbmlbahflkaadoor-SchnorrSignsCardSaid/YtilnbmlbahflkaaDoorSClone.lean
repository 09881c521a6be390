/-
  What slices.Clone of bytes returns: bytes of the call's own that are those of the argument.
-/
import Derived.Test.YtilnbmlbahflkaaDoorRows
import Derived.Test.YtilnbmlbahflkaaDoorSInfoB
namespace Go.Proofs.YtilnbmlbahflkaaDoor
open Go.RowKit
set_option linter.unusedVariables false

end Go.Proofs.YtilnbmlbahflkaaDoor
