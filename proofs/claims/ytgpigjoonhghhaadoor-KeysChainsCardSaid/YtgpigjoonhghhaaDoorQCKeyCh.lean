/-
  Child, keys'.
-/
import Derived.Test.YtgpigjoonhghhaaDoorQCKeyRet
import Derived.StillTailTactics
namespace Go.Proofs.YtgpigjoonhghhaaDoor
open Go.RowKit
set_option linter.unusedVariables false
end Go.Proofs.YtgpigjoonhghhaaDoor
