/-
  poly1305.Sum and the document's Sum of a key that has another length.
-/
import Derived.Test.YtnbpangegegccaaPolyMath
import Derived.Test.YtnbpangegegccaaCodes
namespace Go.Proofs.Ytnbpangegegccaa
open Go.RowKit
set_option linter.unusedVariables false

theorem psum_no (p r : Option Addr) (k c n e : Nat) (w : World) (hk : k ≠ 32) :
    Calls Try.prog 10 #[.slice p k c, .slice r n e] w fun en w' => en = .returned (.tuple #[.slice none 0 0, .bool false]) ∧ w = w' := by
  have e1 : ((k : Int) != 32) = true := by simp; omega
  go_enter Try.func10, Try.ntmps10
  go_wp2
  go_ret2
  exact ⟨rfl, rfl⟩
theorem rsum_no (p r : Option Addr) (k c n e : Nat) (w : World) (hk : k ≠ 32) :
    Calls Try.prog 11 #[.slice p k c, .slice r n e] w fun en w' => en = .returned (.tuple #[.slice none 0 0, .bool false]) ∧ w = w' := by
  have e1 : ((k : Int) != 32) = true := by simp; omega
  go_enter Try.func11, Try.ntmps11
  go_wp2
  go_ret2
  exact ⟨rfl, rfl⟩
end Go.Proofs.Ytnbpangegegccaa
