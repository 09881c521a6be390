/-
  An equation that no walk looks into.
-/
import Derived.Test.YtilnbmlbahflkaaRows
namespace Go.Proofs.Ytilnbmlbahflkaa

/-- An equation that no walk looks into. -/
structure Is {α : Type} (a b : α) : Prop where
  eq : a = b
end Go.Proofs.Ytilnbmlbahflkaa
