/-
  An equation that no walk looks into.
-/
import Derived.Test.YtgpigjoonhghhaaDoorRows
namespace Go.Proofs.YtgpigjoonhghhaaDoor
structure Is {α : Type} (a b : α) : Prop where
  eq : a = b
end Go.Proofs.YtgpigjoonhghhaaDoor
