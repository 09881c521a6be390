/-
  Plain mathematics, no program: the selector at a place of some bytes.
-/
import Derived.Test.YtignenekomlleaaSelParse
namespace Go.Proofs.Ytignenekomlleaa
open Go.RowKit
set_option linter.unusedVariables false

theorem nAt_drop (xs : List Int) (a b k : Nat) : nAt (xs.drop a) b k = nAt xs (a + b) k := by
  unfold nAt
  rw [List.drop_drop]
theorem getD_drop5 (xs : List Int) (a b : Nat) : (xs.drop a).getD b 0 = xs.getD (a + b) 0 := by
  simp [List.getD_eq_getElem?_getD, List.getElem?_drop]
/-- The selector of step 16 or 40 at place a. -/
def slAt (xs : List Int) (a : Nat) (six : Bool) : Sl :=
  if six then ⟨xs.getD (a + 1) 0, nAt xs (a + 4) 2, nAt xs (a + 6) 2, ⟨6, nAt xs (a + 8) 8, nAt xs (a + 16) 8⟩, ⟨6, nAt xs (a + 24) 8, nAt xs (a + 32) 8⟩⟩
  else ⟨xs.getD (a + 1) 0, nAt xs (a + 4) 2, nAt xs (a + 6) 2, ⟨4, 0, nAt xs (a + 8) 4⟩, ⟨4, 0, nAt xs (a + 12) 4⟩⟩
theorem oneS_at (xs : List Int) (a : Nat) : oneS (xs.drop a) =
    if xs.length - a < 8 then none
    else if xs.getD a 0 = 7 ∧ nAt xs (a + 2) 2 = 16 ∧ 16 ≤ xs.length - a then some (slAt xs a false, 16)
    else if xs.getD a 0 = 8 ∧ nAt xs (a + 2) 2 = 40 ∧ 40 ≤ xs.length - a then some (slAt xs a true, 40)
    else none := by
  unfold oneS slAt
  simp only [List.length_drop, nAt_drop, getD_drop5, Nat.add_zero, if_true]
  rfl
/-- The cases of one round. -/
theorem oneS_cases (xs : List Int) (a : Nat) (ha : a ≤ xs.length) (o : Option (Sl × Nat)) (ho : oneS (xs.drop a) = o) :
    (xs.length < a + 8 ∧ o = none) ∨
    (a + 8 ≤ xs.length ∧ xs.getD a 0 ≠ 7 ∧ xs.getD a 0 ≠ 8 ∧ o = none) ∨
    (a + 8 ≤ xs.length ∧ xs.getD a 0 = 7 ∧ nAt xs (a + 2) 2 ≠ 16 ∧ o = none) ∨
    (a + 8 ≤ xs.length ∧ xs.getD a 0 = 7 ∧ nAt xs (a + 2) 2 = 16 ∧ xs.length < a + 16 ∧ o = none) ∨
    (xs.getD a 0 = 7 ∧ nAt xs (a + 2) 2 = 16 ∧ a + 16 ≤ xs.length ∧ o = some (slAt xs a false, 16)) ∨
    (a + 8 ≤ xs.length ∧ xs.getD a 0 = 8 ∧ nAt xs (a + 2) 2 ≠ 40 ∧ o = none) ∨
    (a + 8 ≤ xs.length ∧ xs.getD a 0 = 8 ∧ nAt xs (a + 2) 2 = 40 ∧ xs.length < a + 40 ∧ o = none) ∨
    (xs.getD a 0 = 8 ∧ nAt xs (a + 2) 2 = 40 ∧ a + 40 ≤ xs.length ∧ o = some (slAt xs a true, 40)) := by
  rw [oneS_at] at ho
  by_cases h8 : xs.length - a < 8
  · rw [if_pos h8] at ho
    exact Or.inl ⟨by omega, ho.symm⟩
  rw [if_neg h8] at ho
  by_cases h7 : xs.getD a 0 = 7
  · have hn8 : ¬ xs.getD a 0 = 8 := by omega
    by_cases h2 : nAt xs (a + 2) 2 = 16
    · by_cases h3 : 16 ≤ xs.length - a
      · rw [if_pos ⟨h7, h2, h3⟩] at ho
        exact Or.inr (Or.inr (Or.inr (Or.inr (Or.inl ⟨h7, h2, by omega, ho.symm⟩))))
      · rw [if_neg (fun e => h3 e.2.2), if_neg (fun e => hn8 e.1)] at ho
        exact Or.inr (Or.inr (Or.inr (Or.inl ⟨by omega, h7, h2, by omega, ho.symm⟩)))
    · rw [if_neg (fun e => h2 e.2.1), if_neg (fun e => hn8 e.1)] at ho
      exact Or.inr (Or.inr (Or.inl ⟨by omega, h7, h2, ho.symm⟩))
  rw [if_neg (fun e => h7 e.1)] at ho
  by_cases h9 : xs.getD a 0 = 8
  · by_cases h2 : nAt xs (a + 2) 2 = 40
    · by_cases h3 : 40 ≤ xs.length - a
      · rw [if_pos ⟨h9, h2, h3⟩] at ho
        exact Or.inr (Or.inr (Or.inr (Or.inr (Or.inr (Or.inr (Or.inr ⟨h9, h2, by omega, ho.symm⟩))))))
      · rw [if_neg (fun e => h3 e.2.2)] at ho
        exact Or.inr (Or.inr (Or.inr (Or.inr (Or.inr (Or.inr (Or.inl ⟨by omega, h9, h2, by omega, ho.symm⟩))))))
    · rw [if_neg (fun e => h2 e.2.1)] at ho
      exact Or.inr (Or.inr (Or.inr (Or.inr (Or.inr (Or.inl ⟨by omega, h9, h2, ho.symm⟩)))))
  rw [if_neg (fun e => h9 e.1)] at ho
  exact Or.inr (Or.inl ⟨by omega, h7, h9, ho.symm⟩)
end Go.Proofs.Ytignenekomlleaa
