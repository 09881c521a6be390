/-
  A list of choices: some bytes, as a row of the call's own.
  append(v, make([]byte, z)...) on a row of the call's own that may be nil: z zeros more.
  Products and powers in the small group, and which numbers are elements: the program's and the document's.
-/
import Derived.Test.YtgpigjoonhghhaaDoorQCZ1
import Derived.Test.YtgpigjoonhghhaaDoorQCZeros
import Derived.Test.YtgpigjoonhghhaaDoorQCOwnB
import Derived.Test.YtgpigjoonhghhaaDoorQCConcat
import Derived.Test.YtgpigjoonhghhaaDoorQCGrpDiv
import Derived.Test.YtgpigjoonhghhaaDoorQCIs
namespace Go.Proofs.YtgpigjoonhghhaaDoor
open Go.RowKit
set_option linter.unusedVariables false
end Go.Proofs.YtgpigjoonhghhaaDoor

namespace Go.Proofs.YtgpigjoonhghhaaDoor
open Go.RowKit
set_option linter.unusedVariables false
section
variable {P : Program} {w : World}
end
end Go.Proofs.YtgpigjoonhghhaaDoor

namespace Go.Proofs.YtgpigjoonhghhaaDoor
open Go.RowKit
set_option linter.unusedVariables false
end Go.Proofs.YtgpigjoonhghhaaDoor
