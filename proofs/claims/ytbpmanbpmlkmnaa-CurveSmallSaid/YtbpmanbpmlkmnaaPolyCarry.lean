/-
  poly1305.carried: what it returns.
-/
import Derived.Test.YtbpmanbpmlkmnaaPolyMath
import Derived.Test.YtbpmanbpmlkmnaaWn
import Derived.Test.YtbpmanbpmlkmnaaIs
namespace Go.Proofs.Ytbpmanbpmlkmnaa
open Go.RowKit
set_option linter.unusedVariables false

theorem infoU64 : (Try.prog.info? 43).map (fun i => (i.zero, i.size, i.bytes)) = some (some (.int .u64 0), 1, 8) := by kernel_rfl
/-- The base of the limbs. -/
def B26 : Int := 67108864
theorem B26_pos : 0 < B26 := by decide
/-- What carried returns. -/
def carriedL (L : List Int) : List Int := (dig B26 5 (num B26 L)).set 0 ((dig B26 5 (num B26 L)).getD 0 0 + num B26 L / B26 ^ 5 * 5)
theorem carriedL_len (L : List Int) : (carriedL L).length = 5 := by simp [carriedL, dig_len]
theorem and26 (x : Int) (h0 : 0 ≤ x) (h1 : x < 18446744073709551616) : bits .and .u64 x 67108863 = x % 67108864 :=
  bits_mask .u64 64 (by decide) (fun n h0 h1 => by rw [IntKind.wrap_u64]; omega) 26 (by decide) x h0 h1
/-- What is carried out of the first j limbs. -/
def outC (c : Int) (L : List Int) (j : Nat) : Int := (num B26 (L.take j) + c) / B26 ^ j
theorem outC_succ (c : Int) (L : List Int) (j : Nat) (hj : j < L.length) : outC c L (j + 1) = (L.getD j 0 + outC c L j) / 67108864 := by
  unfold outC
  rw [carry_out B26 c B26_pos L j hj, Int.add_comm]
  rfl
theorem outC_rng (c : Int) (h0 : 0 ≤ c) (h1 : c ≤ 5) (L : List Int) (h : ∀ x ∈ L, 0 ≤ x ∧ x < 4611686018427387904) (j : Nat) (hj : j ≤ L.length) : 0 ≤ outC c L j ∧ outC c L j < 137438953472 := by
  induction j with
  | zero => simp [outC, num]; omega
  | succ j ih =>
    have := ih (by omega)
    have hx := h (L.getD j 0) (by rw [List.getD_eq_getElem?_getD]; simp [show j < L.length by omega])
    rw [outC_succ c L j (by omega)]
    omega
theorem digC_succ (L : List Int) (j : Nat) (hj : j < L.length) : dig B26 (j + 1) (num B26 (L.take (j + 1))) = dig B26 j (num B26 (L.take j)) ++ [(L.getD j 0 + outC 0 L j) % 67108864] := by
  have := carry_dig B26 0 B26_pos L j hj
  simp only [Int.add_zero] at this
  rw [this]
  unfold outC
  rw [Int.add_zero, Int.add_comm]
  rfl
/-- What lies in the block of the number in the round j. -/
def midC (L : List Int) (j : Nat) : List Int := dig B26 j (num B26 (L.take j)) ++ L.drop j
theorem midC_zero (L : List Int) : midC L 0 = L := by simp [midC, dig]
theorem midC_len (L : List Int) (j : Nat) (hj : j ≤ L.length) : (midC L j).length = L.length := by simp [midC, dig_len]; omega
theorem midC_succ (L : List Int) (j : Nat) (hj : j < L.length) : (midC L j).set j ((L.getD j 0 + outC 0 L j) % 67108864) = midC L (j + 1) := by
  unfold midC
  rw [set_mid _ _ _ _ (dig_len _ _ _) hj, digC_succ L j hj]
theorem midC_end (L : List Int) (h : L.length = 5) : (midC L 5).set 0 ((midC L 5).getD 0 0 + outC 0 L 5 * 5) = carriedL L := by
  unfold midC carriedL outC
  rw [List.drop_of_length_le (by omega), List.append_nil, List.take_of_length_le (by omega), Int.add_zero]
theorem midC_nonneg (L : List Int) (h : L.length = 5) : 0 ≤ (midC L 5).getD 0 0 ∧ (midC L 5).getD 0 0 < 67108864 := by
  unfold midC
  rw [List.drop_of_length_le (by omega), List.append_nil, List.take_of_length_le (by omega), List.getD_eq_getElem?_getD]
  have h1 := dig_rng B26 B26_pos 5 (num B26 L)
  have h2 := dig_len B26 5 (num B26 L)
  generalize dig B26 5 (num B26 L) = D at *
  have := h1 (D[0]) (List.getElem_mem (by omega))
  simp [show 0 < D.length by omega]
  exact this

end Go.Proofs.Ytbpmanbpmlkmnaa
