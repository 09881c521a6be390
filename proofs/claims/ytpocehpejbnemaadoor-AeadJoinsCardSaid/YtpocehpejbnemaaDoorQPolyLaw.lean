/-
  The tag for special keys (pure).
-/
import Derived.Test.YtpocehpejbnemaaDoorQZ1
namespace Go.Proofs.YtpocehpejbnemaaDoor
open Go.RowKit
set_option linter.unusedVariables false

theorem accS_zero (b : List Int) (k : Nat) : accS 0 b k = 0 := by
  cases k with
  | zero => rfl
  | succ k => rw [accS_succ]; unfold stepP; simp
theorem num_zeros (b : Int) (l : List Int) (h : ∀ x ∈ l, x = 0) : num b l = 0 := by
  induction l with
  | nil => rfl
  | cons x l ih =>
    rw [num, h x (by simp), ih (fun y hy => h y (by simp [hy]))]
    omega
theorem clampI_zero (i : Nat) : clampI i 0 = 0 := by unfold clampI; split <;> (try split) <;> rfl
theorem clampL_zeros (l : List Int) (n : Nat) (h : ∀ i, i < n → l.getD i 0 = 0) : ∀ x ∈ clampL l n, x = 0 := by
  induction n with
  | zero => intro x hx; cases hx
  | succ n ih =>
    intro x hx
    rw [clampL] at hx
    rcases List.mem_append.1 hx with hx | hx
    · exact ih (fun i hi => h i (by omega)) x hx
    · rw [List.mem_singleton.1 hx, h n (by omega), clampI_zero]
theorem dig16 (ys : List Int) (hl : ys.length = 16) (hr : ∀ x ∈ ys, 0 ≤ x ∧ x ≤ 255) : dig 256 16 (num 256 ys) = ys := by
  have := dig_num 256 (by omega) ys (fun x hx => by have := hr x hx; omega)
  rwa [hl] at this
theorem tag_zero (ys b : List Int) (hl : ys.length = 16) (hr : ∀ x ∈ ys, 0 ≤ x ∧ x ≤ 255) : tagS (List.replicate 16 0 ++ ys) b = ys := by
  have h1 : rS (List.replicate 16 0 ++ ys) = 0 := by
    unfold rS
    refine num_zeros _ _ (clampL_zeros _ _ (fun i hi => ?_))
    rw [List.getD_eq_getElem?_getD, List.getElem?_append_left (by simpa using hi), List.getElem?_replicate, if_pos hi]
    rfl
  unfold tagS
  rw [h1, accS_zero, List.drop_append_of_le_length (by simp), Int.zero_add]
  simp only [List.drop_replicate, Nat.sub_self, List.replicate_zero, List.nil_append]
  exact dig16 ys hl hr
/-- The tag is the last value, and the second half of the key on top. -/
theorem tag_split (key key2 b : List Int) (h : clampL key2 16 = clampL key 16) (hz : num 256 (key2.drop 16) = 0) :
    tagS key b = dig 256 16 (num 256 (tagS key2 b) + num 256 (key.drop 16)) := by
  have e : (256 : Int) ^ 16 = 340282366920938463463374607431768211456 := by decide
  unfold tagS
  have hr : rS key2 = rS key := by unfold rS; rw [h]
  rw [hr, hz, Int.add_zero, num_dig 256 (by omega)]
  have h1 := Int.mul_ediv_add_emod (accS (rS key) b (piecesN b.length)) (256 ^ 16)
  generalize accS (rS key) b (piecesN b.length) = a at *
  have h2 : a + num 256 (key.drop 16) = a % 256 ^ 16 + num 256 (key.drop 16) + 256 ^ 16 * (a / 256 ^ 16) := by omega
  rw [h2, dig_add _ (by omega)]
end Go.Proofs.YtpocehpejbnemaaDoor
