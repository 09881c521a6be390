/-
  poly1305.carried: what it returns.
-/
import Derived.Test.YtilnbmlbahflkaaMPolyMath
import Derived.Test.YtilnbmlbahflkaaMWn
import Derived.Test.YtilnbmlbahflkaaMIs
namespace Go.Proofs.Ytilnbmlbahflkaa
open Go.RowKit
set_option linter.unusedVariables false

/-- The base of the limbs. -/
def B26 : Int := 67108864
/-- What carried returns. -/
def carriedL (L : List Int) : List Int := (dig B26 5 (num B26 L)).set 0 ((dig B26 5 (num B26 L)).getD 0 0 + num B26 L / B26 ^ 5 * 5)
/-- What is carried out of the first j limbs. -/
def outC (c : Int) (L : List Int) (j : Nat) : Int := (num B26 (L.take j) + c) / B26 ^ j
/-- What lies in the block of the number in the round j. -/
def midC (L : List Int) (j : Nat) : List Int := dig B26 j (num B26 (L.take j)) ++ L.drop j
end Go.Proofs.Ytilnbmlbahflkaa
