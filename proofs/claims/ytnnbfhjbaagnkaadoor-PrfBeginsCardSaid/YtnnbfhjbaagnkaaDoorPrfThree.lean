/-
  Three parts to be joined, the last of them one byte.
-/
import Derived.Test.YtnnbfhjbaagnkaaDoorConcat
namespace Go.Proofs.YtnnbfhjbaagnkaaDoor
open Go.RowKit
set_option linter.unusedVariables false

theorem three_parts (w : World) (p0 p1 : Option Addr) (n0 n1 c0 c1 : Nat) (x0 x1 : List Int) (z : Int) (B T : TypeId) (hz : 0 ≤ z ∧ z ≤ 255) (h0 : Byt w p0 n0 c0 x0) (h1 : Byt w p1 n1 c1 x1) :
    Parts ((w.alloc (.cells #[.int .u8 z] B)).alloc (.cells #[.slice p0 n0 c0, .slice p1 n1 c1, .slice (some ⟨w.heap.size, 0, none⟩) 1 1] T)) (some ⟨w.heap.size + 1, 0, none⟩) 3 3 [⟨p0, n0, c0, x0⟩, ⟨p1, n1, c1, x1⟩, ⟨some ⟨w.heap.size, 0, none⟩, 1, 1, [z]⟩] :=
  ⟨rfl, Nat.le_refl _, by decide, fun _ => ⟨w.heap.size + 1, rfl, fun j hj => by
    have : j = 0 ∨ j = 1 ∨ j = 2 := by simp at hj; omega
    have hs : (w.alloc (.cells #[.int .u8 z] B)).heap.size = w.heap.size + 1 := World.size_alloc _ _
    rw [← hs]
    rcases this with rfl | rfl | rfl <;> exact (cell_of_row _ _ _ _ _ _ (heap_alloc_new _ _)).trans rfl⟩, fun x hx => by
    simp at hx
    rcases hx with rfl | rfl | rfl
    · exact (h0.alloc _).alloc _
    · exact (h1.alloc _).alloc _
    · refine Byt.alloc (one_byte _ _ _ hz ?_) _
      exact (cell_of_row _ _ _ _ _ _ (heap_alloc_new _ _)).trans rfl⟩
end Go.Proofs.YtnnbfhjbaagnkaaDoor
