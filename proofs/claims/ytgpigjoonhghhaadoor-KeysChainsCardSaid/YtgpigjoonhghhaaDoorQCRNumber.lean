/-
  What the document's own Number returns, for every slice of bytes, place and width.
-/
import Derived.Test.YtgpigjoonhghhaaDoorRows
import Derived.Test.YtgpigjoonhghhaaDoorQCBytes
import Derived.Test.YtgpigjoonhghhaaDoorQCNum
namespace Go.Proofs.YtgpigjoonhghhaaDoor
open Go.RowKit
set_option linter.unusedVariables false
end Go.Proofs.YtgpigjoonhghhaaDoor
