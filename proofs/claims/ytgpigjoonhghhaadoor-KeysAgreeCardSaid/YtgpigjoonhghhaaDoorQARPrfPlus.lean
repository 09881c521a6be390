/-
  The document's Plus: any number of bytes from a key.
-/
import Derived.Test.YtgpigjoonhghhaaDoorQARPrfHmac
import Derived.Test.YtgpigjoonhghhaaDoorQAZ1
import Derived.Test.YtgpigjoonhghhaaDoorQAZ2
namespace Go.Proofs.YtgpigjoonhghhaaDoor
open Go.RowKit
set_option linter.unusedVariables false
end Go.Proofs.YtgpigjoonhghhaaDoor
