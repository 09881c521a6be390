/-
  What slices.Clone of bytes returns: bytes of the call's own that are those of the argument.
-/
import Derived.Test.YtgpigjoonhghhaaDoorRows
import Derived.Test.YtgpigjoonhghhaaDoorQInfoB
namespace Go.Proofs.YtgpigjoonhghhaaDoor
open Go.RowKit
set_option linter.unusedVariables false
end Go.Proofs.YtgpigjoonhghhaaDoor
