/-
  Derive, the document's.
-/
import Derived.Test.YtgpigjoonhghhaaDoorQAKeyRet
import Derived.Test.YtgpigjoonhghhaaDoorQAZ2
import Derived.Test.YtgpigjoonhghhaaDoorQARPrfPlus
import Derived.Test.YtgpigjoonhghhaaDoorQAZ3
import Derived.StillTailTactics
namespace Go.Proofs.YtgpigjoonhghhaaDoor
open Go.RowKit
set_option linter.unusedVariables false
end Go.Proofs.YtgpigjoonhghhaaDoor
