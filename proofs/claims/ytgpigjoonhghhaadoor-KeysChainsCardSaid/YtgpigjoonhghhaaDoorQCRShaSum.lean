/-
  The document's Sum: the hash of any bytes.
-/
import Derived.Test.YtgpigjoonhghhaaDoorQCRShaBlk
import Derived.Test.YtgpigjoonhghhaaDoorQCZ2
import Derived.Deep.RegionWith
import Derived.Deep.CutBlock
namespace Go.Proofs.YtgpigjoonhghhaaDoor
open Go.RowKit
set_option linter.unusedVariables false
end Go.Proofs.YtgpigjoonhghhaaDoor
