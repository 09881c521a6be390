/-
  A list of choices: what its methods return is a number in range, and they write nothing but the list's own place.
-/
import Derived.Test.YtgpigjoonhghhaaDoorRows
import Derived.Test.YtgpigjoonhghhaaDoorQBytes
import Derived.Test.YtgpigjoonhghhaaDoorQNum
import Derived.Deep.QuietTactic
import Derived.BigQuiet
namespace Go.Proofs.YtgpigjoonhghhaaDoor
open Go.RowKit
set_option linter.unusedVariables false
structure Cod (W w : World) (k : Nat) : Prop where
  base : W.heap.size ≤ k
  bel : Below W.heap.size W w
  free : ∀ j, w.frozen? ⟨k, j, none⟩ = false
  list : ∃ p n c xs, ∃ t : Nat, Byt W p n c xs ∧ t ≤ n ∧ w.cell? ⟨k, 0, none⟩ = some (.slice p n c) ∧ w.cell? ⟨k, 1, none⟩ = some (.int .i64 t)
theorem grown_of_below {w w' : World} (h : Below w.heap.size w w') (row : Option Nat) : w.grownBy w' row := ⟨h.os, h.tape, h.output, h.size, fun i hi _ => h.block i hi⟩
theorem grown_set (w : World) (k j : Nat) (v : Value) : w.grownBy (w.setCell ⟨k, j, none⟩ v) (some k) :=
  ⟨rfl, rfl, rfl, by simp [World.setCell], fun i hi hne => Below.heap_setCell _ _ _ _ (by simp at hne; exact hne)⟩
theorem Cod.lt {W w : World} {k : Nat} (h : Cod W w k) : k < w.heap.size := by
  obtain ⟨p, n, c, xs, t, _, _, h0, _⟩ := h.list
  exact World.block_lt_of_cell? w _ h0
theorem Cod.grown {W w w' : World} {k : Nat} {row : Option Nat} (h : Cod W w k) (hg : w.grownBy w' row) (hne : some k ≠ row) (hr : ∀ j, row = some j → W.heap.size ≤ j) : Cod W w' k := by
  have hk := h.lt
  obtain ⟨p, n, c, xs, t, hb, ht, h0, h1⟩ := h.list
  exact ⟨h.base, h.bel.grown hg h.bel.size hr, fun j => (World.frozen?_of_block (a := ⟨k, j, none⟩) (hg.block k hk hne)).trans (h.free j), p, n, c, xs, t, hb, ht, hg.cell h0 hne, hg.cell h1 hne⟩
theorem Cod.below {W w w' : World} {k : Nat} (h : Cod W w k) (hb : Below w.heap.size w w') : Cod W w' k := h.grown (row := none) (grown_of_below hb none) (by simp) (by simp)
end Go.Proofs.YtgpigjoonhghhaaDoor
