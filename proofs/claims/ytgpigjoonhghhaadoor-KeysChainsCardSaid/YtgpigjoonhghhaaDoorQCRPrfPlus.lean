/-
  The document's Plus: any number of bytes from a key.
-/
import Derived.Test.YtgpigjoonhghhaaDoorQCRPrfHmac
import Derived.Test.YtgpigjoonhghhaaDoorQCZ1
import Derived.Test.YtgpigjoonhghhaaDoorQCZ2
namespace Go.Proofs.YtgpigjoonhghhaaDoor
open Go.RowKit
set_option linter.unusedVariables false
end Go.Proofs.YtgpigjoonhghhaaDoor
