/-
  What package selector's Inside answers.
-/
import Derived.Test.YtignenekomlleaaSelMeet
namespace Go.Proofs.Ytignenekomlleaa
open Go.RowKit
set_option linter.unusedVariables false

end Go.Proofs.Ytignenekomlleaa
