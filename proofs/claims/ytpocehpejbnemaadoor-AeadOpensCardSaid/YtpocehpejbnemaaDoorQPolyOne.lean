/-
  The tag with r = 1 is a sum (pure).
-/
import Derived.Test.YtpocehpejbnemaaDoorQPolyAdd
namespace Go.Proofs.YtpocehpejbnemaaDoor
open Go.RowKit
set_option linter.unusedVariables false

/-- The sum of the first k pieces, each with its mark. -/
def sumM (b : List Int) : Nat → Int
  | 0 => 0
  | k + 1 => sumM b k + markS ((b.drop (16 * k)).take 16)
theorem accS_one (b : List Int) (k : Nat) : accS 1 b k = sumM b k % P130 := by
  induction k with
  | zero => rfl
  | succ k ih => rw [accS_succ, ih, stepP, sumM, Int.mul_one, Int.emod_add_emod]
theorem markS_rng (p : List Int) (hr : ∀ x ∈ p, 0 ≤ x ∧ x ≤ 255) (hl : p.length ≤ 16) : 0 ≤ markS p ∧ markS p < 680564733841876926926749214863536422912 := by
  unfold markS
  have h1 : ∀ x ∈ p, 0 ≤ x ∧ x < 256 := fun x hx => by have := hr x hx; omega
  have h2 := num_lt (b := 256) (by omega) p h1
  have h3 := num_nonneg (b := 256) (by omega) p (fun x hx => (h1 x hx).1)
  have h4 : (256 : Int) ^ p.length ≤ 256 ^ 16 := by
    have : ∀ k : Fin 17, (256 : Int) ^ k.val ≤ 256 ^ 16 := by decide
    exact this ⟨p.length, by omega⟩
  have h5 : (256 : Int) ^ 16 = 340282366920938463463374607431768211456 := by decide
  omega
theorem sumM_rng (b : List Int) (hr : ∀ x ∈ b, 0 ≤ x ∧ x ≤ 255) (k : Nat) : 0 ≤ sumM b k ∧ sumM b k ≤ (k : Int) * 680564733841876926926749214863536422912 := by
  induction k with
  | zero => simp [sumM]
  | succ k ih =>
    have := markS_rng ((b.drop (16 * k)).take 16) (rng_take (rng_drop hr _) _) (by simp; omega)
    rw [sumM]
    push_cast
    omega
theorem rS_one (ys : List Int) : rS ((List.replicate 16 0 ++ ys).set 0 1) = 1 := by
  unfold rS
  have e : (List.replicate 16 (0 : Int) ++ ys).set 0 1 = 1 :: (List.replicate 15 0 ++ ys) := rfl
  rw [e]
  rfl
/-- A list of digits and what is on top of them, and the last carry. -/
theorem tag_one (key b M : List Int) (hr : rS key = 1) (hM : M.length = 18) (x c : Int) (hx : num 256 M = x) (hc : x = sumM b (piecesN b.length) % P130 + 340282366920938463463374607431768211456 * c) :
    tagS key b = dig 256 16 (num 256 (addL (M.take 16) (key.drop 16))) ↔ dig 256 16 (num 256 (M.take 16) + num 256 (key.drop 16)) = dig 256 16 (num 256 (addL (M.take 16) (key.drop 16))) := by
  have e : (256 : Int) ^ 16 = 340282366920938463463374607431768211456 := by decide
  have h1 : num 256 M = num 256 (M.take 16) + 256 ^ 16 * num 256 (M.drop 16) := by
    have := num_append 256 (M.take 16) (M.drop 16)
    rw [List.take_append_drop, List.length_take, show min 16 M.length = 16 by omega] at this
    exact this
  have h2 : tagS key b = dig 256 16 (num 256 (M.take 16) + num 256 (key.drop 16)) := by
    unfold tagS
    rw [hr, accS_one]
    have h3 : sumM b (piecesN b.length) % P130 + num 256 (key.drop 16) = num 256 (M.take 16) + num 256 (key.drop 16) + 256 ^ 16 * (num 256 (M.drop 16) - c) := by
      rw [e] at h1 ⊢
      rw [Int.mul_sub]
      omega
    rw [h3, dig_add _ (by omega)]
  rw [h2]
/-- The modulus taken away once, or not. -/
theorem mod_once (s : Int) (h0 : 0 ≤ s) (h1 : s < 2041694201525630780780247644590609268737) (X : Int) (hX : X = if 4 ≤ (s + 5) / 340282366920938463463374607431768211456 then s + 5 else s) :
    ∃ c, X = s % P130 + 340282366920938463463374607431768211456 * c := by
  unfold P130
  split at hX
  · refine ⟨4, ?_⟩
    have : s % 1361129467683753853853498429727072845819 = s - 1361129467683753853853498429727072845819 := by omega
    omega
  · refine ⟨0, ?_⟩
    have : s % 1361129467683753853853498429727072845819 = s := by omega
    omega
/-- One step of the carry in place. -/
theorem inplace (M : List Int) (j : Nat) (hM : M.length = 18) (hj : j < 17) (x y : Int) (hx : M.getD j 0 = x) (hy : M.getD (j + 1) 0 = y) :
    num 256 ((M.set (j + 1) (y + x / 256)).set j (x % 256)) = num 256 M ∧ ((M.set (j + 1) (y + x / 256)).set j (x % 256)).length = 18 := by
  refine ⟨?_, by simp [hM]⟩
  have h1 : (M.set (j + 1) (y + x / 256)).getD j 0 = x := by
    rw [getD_setP _ _ _ _ (by omega), if_neg (by omega), hx]
  have h2 : x % 256 = (M.set (j + 1) (y + x / 256)).getD j 0 + (x % 256 - x) := by rw [h1]; omega
  rw [h2, num_set _ _ _ (by simp; omega), ← hy, num_set _ _ _ (by omega), Int.pow_succ]
  have h3 := Int.mul_ediv_add_emod x 256
  generalize (256 : Int) ^ j = p at *
  have h4 : x % 256 - x = -(256 * (x / 256)) := by omega
  rw [h4]
  grind
/-- What lies above the first sixteen digits. -/
theorem top_of (M : List Int) (hM : M.length = 18) (h : ∀ i, i < 16 → 0 ≤ M.getD i 0 ∧ M.getD i 0 ≤ 255) : num 256 M / 340282366920938463463374607431768211456 = M.getD 16 0 + 256 * M.getD 17 0 := by
  have e : (256 : Int) ^ 16 = 340282366920938463463374607431768211456 := by decide
  have h1 : num 256 M = num 256 (M.take 16) + 256 ^ 16 * num 256 (M.drop 16) := by
    have := num_append 256 (M.take 16) (M.drop 16)
    rw [List.take_append_drop, List.length_take, show min 16 M.length = 16 by omega] at this
    exact this
  have h2 : M.drop 16 = [M.getD 16 0, M.getD 17 0] := by
    refine list_ext _ _ 2 (by simp [hM]) rfl (fun i hi => ?_)
    rw [List.getD_eq_getElem?_getD, List.getElem?_drop]
    have : i = 0 ∨ i = 1 := by omega
    rcases this with rfl | rfl
    · rw [← List.getD_eq_getElem?_getD]; rfl
    · rw [← List.getD_eq_getElem?_getD]; rfl
  have h3 : ∀ x ∈ M.take 16, 0 ≤ x ∧ x < 256 := fun x hx => by
    obtain ⟨i, hi, rfl⟩ := List.getElem_of_mem hx
    have hi' : i < 16 := by simp at hi; omega
    have := h i hi'
    rw [List.getD_eq_getElem?_getD, List.getElem?_eq_getElem (by omega)] at this
    simp at this ⊢
    omega
  have h4 := num_lt (b := 256) (by omega) _ h3
  have h5 := num_nonneg (b := 256) (by omega) _ (fun x hx => (h3 x hx).1)
  rw [List.length_take, show min 16 M.length = 16 by omega, e] at h4
  rw [h1, h2, e]
  simp only [num]
  omega
end Go.Proofs.YtpocehpejbnemaaDoor
