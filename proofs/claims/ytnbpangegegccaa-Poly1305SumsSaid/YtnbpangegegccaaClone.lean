/-
  What slices.Clone of bytes returns: bytes of the call's own that are those of the argument.
-/
import Derived.Test.YtnbpangegegccaaRows
import Derived.Test.YtnbpangegegccaaInfoB
namespace Go.Proofs.Ytnbpangegegccaa
open Go.RowKit
set_option linter.unusedVariables false

end Go.Proofs.Ytnbpangegegccaa
