/-
  poly1305.numberOf: the number of some bytes, the lowest one first.
-/
import Derived.Test.YtbpmanbpmlkmnaaPolyCarry
import Derived.Deep.RegionHeld3
import Derived.Deep.Cut
import Derived.Deep.CutRange
namespace Go.Proofs.Ytbpmanbpmlkmnaa
open Go.RowKit
set_option linter.unusedVariables false

theorem five (L : List Int) (h : L.length = 5) : ∃ a b c d e, L = [a, b, c, d, e] := by
  match L, h with
  | [a, b, c, d, e], _ => exact ⟨a, b, c, d, e, rfl⟩
/-- Five limbs, the first one below u, the others below v. -/
structure Lm (u v : Int) (L : List Int) : Prop where
  len : L.length = 5
  fst : 0 ≤ L.getD 0 0 ∧ L.getD 0 0 < u
  rest : ∀ j, 1 ≤ j → j < 5 → 0 ≤ L.getD j 0 ∧ L.getD j 0 < v
theorem Lm.all {u v : Int} {L : List Int} (h : Lm u v L) (m : Int) (hu : u ≤ m) (hv : v ≤ m) : ∀ x ∈ L, 0 ≤ x ∧ x < m := by
  obtain ⟨a, b, c, d, e, rfl⟩ := five L h.len
  have h0 := h.fst
  have h1 := h.rest 1 (by omega) (by omega)
  have h2 := h.rest 2 (by omega) (by omega)
  have h3 := h.rest 3 (by omega) (by omega)
  have h4 := h.rest 4 (by omega) (by omega)
  simp at h0 h1 h2 h3 h4
  intro x hx
  simp at hx
  rcases hx with rfl | rfl | rfl | rfl | rfl <;> omega
theorem Lm.of (a b c d e u v : Int) (h0 : 0 ≤ a ∧ a < u) (h1 : 0 ≤ b ∧ b < v) (h2 : 0 ≤ c ∧ c < v) (h3 : 0 ≤ d ∧ d < v) (h4 : 0 ≤ e ∧ e < v) : Lm u v [a, b, c, d, e] :=
  ⟨rfl, h0, fun j hj hk => by
    have : j = 1 ∨ j = 2 ∨ j = 3 ∨ j = 4 := by omega
    rcases this with rfl | rfl | rfl | rfl
    · exact h1
    · exact h2
    · exact h3
    · exact h4⟩
theorem num5 (a b c d e : Int) : num B26 [a, b, c, d, e] = a + 67108864 * b + 4503599627370496 * c + 302231454903657293676544 * d + 20282409603651670423947251286016 * e := by
  simp only [num, B26]; omega
theorem B265 : B26 ^ 5 = 1361129467683753853853498429727072845824 := by decide
theorem carried_num (L : List Int) : num B26 (carriedL L) = num B26 L - num B26 L / 1361129467683753853853498429727072845824 * P130 := by
  unfold carriedL
  rw [num_set B26 _ 0 (by rw [dig_len]; omega), num_dig B26 B26_pos, B265, Int.pow_zero]
  have := Int.mul_ediv_add_emod (num B26 L) 1361129467683753853853498429727072845824
  unfold P130
  omega
theorem carried_lm (L : List Int) (m : Int) (h0 : 0 ≤ num B26 L) (h1 : num B26 L < (m + 1) * 1361129467683753853853498429727072845824) : Lm (67108864 + 5 * m) 67108864 (carriedL L) := by
  unfold carriedL
  rw [B265]
  have hk : 0 ≤ num B26 L / 1361129467683753853853498429727072845824 ∧ num B26 L / 1361129467683753853853498429727072845824 ≤ m := by omega
  generalize num B26 L / 1361129467683753853853498429727072845824 = k at *
  have hr := dig_rng B26 B26_pos 5 (num B26 L)
  obtain ⟨a, b, c, d, e, he⟩ := five _ (dig_len B26 5 (num B26 L))
  rw [he] at hr ⊢
  have ha := hr a (by simp)
  have hb := hr b (by simp)
  have hc := hr c (by simp)
  have hd := hr d (by simp)
  have he := hr e (by simp)
  unfold B26 at *
  exact Lm.of _ _ _ _ _ _ _ (by simp; omega) hb hc hd he
/-- A byte comes into its limb. -/
theorem num_byte (j : Nat) (hj : j < 16) (L : List Int) (hL : L.length = 5) (x : Int) : num B26 (L.set (8 * j / 26) (L.getD (8 * j / 26) 0 + x * 2 ^ (8 * j % 26))) = num B26 L + 256 ^ j * x := by
  rw [num_set _ _ _ (by omega)]
  have : j = 0 ∨ j = 1 ∨ j = 2 ∨ j = 3 ∨ j = 4 ∨ j = 5 ∨ j = 6 ∨ j = 7 ∨ j = 8 ∨ j = 9 ∨ j = 10 ∨ j = 11 ∨ j = 12 ∨ j = 13 ∨ j = 14 ∨ j = 15 := by omega
  unfold B26
  rcases this with rfl | rfl | rfl | rfl | rfl | rfl | rfl | rfl | rfl | rfl | rfl | rfl | rfl | rfl | rfl | rfl <;> simp <;> omega
theorem pow_small (n : Nat) (h : n < 26) : 1 ≤ (2 : Int) ^ n ∧ (2 : Int) ^ n ≤ 33554432 := by
  have : ∀ k : Fin 26, 1 ≤ (2 : Int) ^ k.val ∧ (2 : Int) ^ k.val ≤ 33554432 := by decide
  exact this ⟨n, h⟩
theorem mul_small (x p : Int) (hx : 0 ≤ x ∧ x ≤ 255) (hp : 1 ≤ p ∧ p ≤ 33554432) : 0 ≤ x * p ∧ x * p ≤ 8556380160 := by
  refine ⟨Int.mul_nonneg hx.1 (by omega), ?_⟩
  have h1 : x * p ≤ 255 * p := Int.mul_le_mul_of_nonneg_right hx.2 (by omega)
  omega

end Go.Proofs.Ytbpmanbpmlkmnaa
