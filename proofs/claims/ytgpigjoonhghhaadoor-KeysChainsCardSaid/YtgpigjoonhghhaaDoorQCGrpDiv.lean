/-
  The remainder of a product of two words by the modulus of the small group: Mul64, Div64 and Rem64 of math/bits.
-/
import Derived.Test.YtgpigjoonhghhaaDoorRows
import Derived.Test.YtgpigjoonhghhaaDoorQCZ0
import Derived.Test.YtgpigjoonhghhaaDoorQCNum
import Derived.Deep.Cut
import Derived.Deep.CutRange
import Derived.Lib.Mul64
import Derived.Laws.BitsAllLaws
namespace Go.Proofs.YtgpigjoonhghhaaDoor
open Go.RowKit
set_option linter.unusedVariables false
def QDig (U u a : Int) : Prop := 0 ≤ a ∧ a * 18446744073709509356 ≤ U * 4294967296 + u ∧ U * 4294967296 + u < (a + 1) * 18446744073709509356
def QRun (U u a b : Int) : Prop := 0 ≤ a ∧ a * 4294967295 + b = U ∧ 0 ≤ b ∧ b < 4294967296 ∧ U * 4294967296 + u < (a + 1) * 18446744073709509356
end Go.Proofs.YtgpigjoonhghhaaDoor
