/-
  Child, the document's.
-/
import Derived.Test.YtgpigjoonhghhaaDoorQCKeyRet
import Derived.Test.YtgpigjoonhghhaaDoorQCRPrfPlus
import Derived.StillTailTactics
namespace Go.Proofs.YtgpigjoonhghhaaDoor
open Go.RowKit
set_option linter.unusedVariables false
end Go.Proofs.YtgpigjoonhghhaaDoor
