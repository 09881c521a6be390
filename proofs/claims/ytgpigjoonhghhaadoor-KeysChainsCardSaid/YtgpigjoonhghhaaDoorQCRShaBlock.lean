/-
  The document's Block.
-/
import Derived.Test.YtgpigjoonhghhaaDoorQCShaBlock
import Derived.Test.YtgpigjoonhghhaaDoorQCRNumber
import Derived.Deep.RegionWith
namespace Go.Proofs.YtgpigjoonhghhaaDoor
open Go.RowKit
set_option linter.unusedVariables false
end Go.Proofs.YtgpigjoonhghhaaDoor
