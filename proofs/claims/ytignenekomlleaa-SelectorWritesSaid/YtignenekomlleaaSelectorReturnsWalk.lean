/-
  The law SelectorReturns, walked: it returns true for every input, and only adds memory of its own.
-/
import Derived.Test.YtignenekomlleaaSame5
import Derived.Test.YtignenekomlleaaSelLaws
namespace Go.Proofs.Ytignenekomlleaa
open Go.RowKit
set_option linter.unusedVariables false

theorem offNone (w : World) (base : Nat) (row : Option Nat) : OffT NSl.ts w base row := fun r hr => Or.inr (fun _ _ _ _ hm => by cases hm)
theorem built_good (l : List Sl) (h : ∀ s ∈ l, GoodS s) (h1 : 1 ≤ l.length) (h2 : l.length ≤ 16) : buildS l = ([(l.length : Int), 0, 0, 0] ++ encL l, 0) := by
  unfold buildS
  rw [if_neg (by omega), if_neg (by omega), if_neg (by rw [errL_good (fun s hs => (h s hs).check)]; simp)]

end Go.Proofs.Ytignenekomlleaa
