/-
  append(b, make([]byte, n)...) on a row of the call's own that is not empty: n zeros more.
-/
import Derived.Test.YtgpigjoonhghhaaDoorQCGrow
namespace Go.Proofs.YtgpigjoonhghhaaDoor
open Go.RowKit
theorem zeros_list (n : Nat) : (Builtin.zeroCells (Value.int IntKind.u8 0).cells n).toList = (List.replicate n (0 : Int)).map (Value.int .u8) := by
  simp [Builtin.zeroCells, Value.cells]
  apply List.ext_getElem
  · simp
  · intro j h1 h2
    simp [Nat.mod_one]
section
variable {P : Program} (w : World)
end
end Go.Proofs.YtgpigjoonhghhaaDoor
