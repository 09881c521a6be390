/-
  What the document's own Compare and Equal return: the lexicographic order of two slices of bytes, and whether they are equal.
-/
import Derived.Test.YtnnbfhjbaagnkaaRows
import Derived.Test.YtnnbfhjbaagnkaaQZ0
import Derived.Deep.QuietTactic
import Derived.BigQuiet
namespace Go.Proofs.Ytnnbfhjbaagnkaa
open Go.RowKit
set_option linter.unusedVariables false

theorem below_drewN {B : Nat} {w : World} (n : Nat) : Below B w (w.drewN n) := ⟨rfl, rfl, rfl, Nat.le_refl _, fun _ _ => rfl⟩

end Go.Proofs.Ytnnbfhjbaagnkaa
