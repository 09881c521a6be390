/-
  What package selector writes of an address and of a selector.
-/
import Derived.Test.YtnnbfhjbaagnkaaQZ4
import Derived.Test.YtnnbfhjbaagnkaaQZ3
import Derived.Deep.RegionHeld3
namespace Go.Proofs.Ytnnbfhjbaagnkaa
open Go.RowKit
set_option linter.unusedVariables false

/-- Bytes of the call's own. -/
def GotB (w : World) (ys : List Int) (e : Ending) (w' : World) : Prop := ∃ q m d, e = .returned (.slice q m d) ∧ ys.length = m ∧ Own w' w.heap.size 5 (.slice q m d) ys ∧ Byt w' q m d ys ∧ Below w.heap.size w w'
theorem GotB.base {w0 w : World} {ys : List Int} {e : Ending} {w' : World} (h : GotB w ys e w') (hb : Below w0.heap.size w0 w) : GotB w0 ys e w' := by
  obtain ⟨q, m, d, h1, h2, h3, h4, h5⟩ := h
  exact ⟨q, m, d, h1, h2, h3.mono hb.size, h4, hb.trans (h5.mono hb.size)⟩

end Go.Proofs.Ytnnbfhjbaagnkaa
