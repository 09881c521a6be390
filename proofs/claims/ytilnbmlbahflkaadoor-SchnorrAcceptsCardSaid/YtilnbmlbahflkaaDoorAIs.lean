/-
  An equation that no walk looks into.
-/
import Derived.Test.YtilnbmlbahflkaaDoorRows
namespace Go.Proofs.YtilnbmlbahflkaaDoor

/-- An equation that no walk looks into. -/
structure Is {α : Type} (a b : α) : Prop where
  eq : a = b
end Go.Proofs.YtilnbmlbahflkaaDoor
