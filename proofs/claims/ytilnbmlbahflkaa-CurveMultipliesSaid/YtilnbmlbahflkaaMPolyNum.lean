/-
  poly1305.numberOf: the number of some bytes, the lowest one first.
-/
import Derived.Test.YtilnbmlbahflkaaMPolyCarry
import Derived.Deep.RegionHeld3
import Derived.Deep.Cut
import Derived.Deep.CutRange
namespace Go.Proofs.Ytilnbmlbahflkaa
open Go.RowKit
set_option linter.unusedVariables false

theorem five (L : List Int) (h : L.length = 5) : ∃ a b c d e, L = [a, b, c, d, e] := by
  match L, h with
  | [a, b, c, d, e], _ => exact ⟨a, b, c, d, e, rfl⟩
/-- Five limbs, the first one below u, the others below v. -/
structure Lm (u v : Int) (L : List Int) : Prop where
  len : L.length = 5
  fst : 0 ≤ L.getD 0 0 ∧ L.getD 0 0 < u
  rest : ∀ j, 1 ≤ j → j < 5 → 0 ≤ L.getD j 0 ∧ L.getD j 0 < v
theorem Lm.all {u v : Int} {L : List Int} (h : Lm u v L) (m : Int) (hu : u ≤ m) (hv : v ≤ m) : ∀ x ∈ L, 0 ≤ x ∧ x < m := by
  obtain ⟨a, b, c, d, e, rfl⟩ := five L h.len
  have h0 := h.fst
  have h1 := h.rest 1 (by omega) (by omega)
  have h2 := h.rest 2 (by omega) (by omega)
  have h3 := h.rest 3 (by omega) (by omega)
  have h4 := h.rest 4 (by omega) (by omega)
  simp at h0 h1 h2 h3 h4
  intro x hx
  simp at hx
  rcases hx with rfl | rfl | rfl | rfl | rfl <;> omega
theorem Lm.of (a b c d e u v : Int) (h0 : 0 ≤ a ∧ a < u) (h1 : 0 ≤ b ∧ b < v) (h2 : 0 ≤ c ∧ c < v) (h3 : 0 ≤ d ∧ d < v) (h4 : 0 ≤ e ∧ e < v) : Lm u v [a, b, c, d, e] :=
  ⟨rfl, h0, fun j hj hk => by
    have : j = 1 ∨ j = 2 ∨ j = 3 ∨ j = 4 := by omega
    rcases this with rfl | rfl | rfl | rfl
    · exact h1
    · exact h2
    · exact h3
    · exact h4⟩
end Go.Proofs.Ytilnbmlbahflkaa
