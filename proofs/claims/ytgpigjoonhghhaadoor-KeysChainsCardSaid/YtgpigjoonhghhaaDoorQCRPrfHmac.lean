/-
  The document's Join, mask and Hmac.
-/
import Derived.Test.YtgpigjoonhghhaaDoorQCZ0
import Derived.Test.YtgpigjoonhghhaaDoorQCConcat
import Derived.Test.YtgpigjoonhghhaaDoorQCRShaSum
import Derived.Test.YtgpigjoonhghhaaDoorQCShaSum
import Derived.Deep.RegionHeld3
namespace Go.Proofs.YtgpigjoonhghhaaDoor
open Go.RowKit
set_option linter.unusedVariables false
end Go.Proofs.YtgpigjoonhghhaaDoor
