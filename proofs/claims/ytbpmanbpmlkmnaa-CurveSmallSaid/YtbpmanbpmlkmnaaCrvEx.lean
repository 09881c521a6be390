/-
  The example of the chapter: a product that is not 0.
-/
import Derived.Test.YtbpmanbpmlkmnaaCrvEnd
namespace Go.Proofs.Ytbpmanbpmlkmnaa
open Go.RowKit
set_option linter.unusedVariables false

def base9 : List Int := [9, 0, 0, 0, 0, 0, 0, 0, 0, 0, 0, 0, 0, 0, 0, 0, 0, 0, 0, 0, 0, 0, 0, 0, 0, 0, 0, 0, 0, 0, 0, 0]
def scal77 : List Int := [0, 0, 0, 0, 0, 77, 0, 0, 0, 0, 0, 0, 0, 0, 0, 0, 0, 0, 0, 0, 0, 0, 0, 0, 0, 0, 0, 0, 0, 0, 0, 0]
theorem uK_base9 : uK base9 = 9 := by decide +kernel
theorem uK_zeros : uK (List.replicate 32 0) = 0 := by decide +kernel
theorem outK_zero : dig 256 32 (((0 : K).val : Nat) : Int) = List.replicate 32 0 := by decide +kernel
theorem mulB_zero (s t : List Int) (h : endK (uK t) (clampK s) = 0) : mulB s t = List.replicate 32 0 := by
  unfold mulB
  rw [h]
  exact outK_zero
theorem mulB_ne (s t : List Int) (h : endK (uK t) (clampK s) ≠ 0) : mulB s t ≠ List.replicate 32 0 := by
  intro e
  have h1 := mulB_num s t
  rw [e, show num 256 (List.replicate 32 0) = 0 by decide] at h1
  exact h (K.ext' (by rw [K.zero_val]; omega))
theorem ex_ladder : (lad 9 (clampK scal77) 255).a ≠ 0 ∧ (lad 9 (clampK scal77) 255).b ≠ 0 := by decide +kernel
theorem kinv_ne {a : K} (ha : a ≠ 0) : kinv a ≠ 0 := by
  intro h
  have := kinv_mul ha
  rw [h, Fin.zero_mul] at this
  exact one_ne this.symm
theorem pub_ne : mulB scal77 base9 ≠ List.replicate 32 0 := by
  refine mulB_ne _ _ ?_
  rw [uK_base9]
  exact K.mul_ne ex_ladder.1 (kinv_ne ex_ladder.2)
theorem small_zero (s : List Int) (hs : s.length = 32) : mulB s (List.replicate 32 0) = List.replicate 32 0 :=
  mulB_zero _ _ (by rw [uK_zeros]; exact endK_zero _ (bit_clamp s hs 0 (by decide)))
theorem small_one (s t : List Int) (hs : s.length = 32) (hu : uK t * uK t = 1) : mulB s t = List.replicate 32 0 :=
  mulB_zero _ _ (endK_one hu _ (bit_clamp s hs 0 (by decide)) (bit_clamp s hs 1 (by decide)))
end Go.Proofs.Ytbpmanbpmlkmnaa
