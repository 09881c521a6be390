/-
  The document's Join, mask and Hmac.
-/
import Derived.Test.YtgpigjoonhghhaaDoorQAZ0
import Derived.Test.YtgpigjoonhghhaaDoorQAConcat
import Derived.Test.YtgpigjoonhghhaaDoorQARShaSum
import Derived.Test.YtgpigjoonhghhaaDoorQAShaSum
import Derived.Deep.RegionHeld3
namespace Go.Proofs.YtgpigjoonhghhaaDoor
open Go.RowKit
set_option linter.unusedVariables false
end Go.Proofs.YtgpigjoonhghhaaDoor
