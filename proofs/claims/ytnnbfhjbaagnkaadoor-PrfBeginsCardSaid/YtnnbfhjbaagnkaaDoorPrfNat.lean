/-
  Cutting bytes by sizes that are natural numbers.
-/
import Derived.Test.YtnnbfhjbaagnkaaDoorPrfMath
namespace Go.Proofs.YtnnbfhjbaagnkaaDoor
open Go.RowKit
set_option linter.unusedVariables false

def ints (ns : List Nat) : List Int := ns.map (fun (n : Nat) => (n : Int))
theorem ints_len (ns : List Nat) : (ints ns).length = ns.length := by simp [ints]
theorem ints_getD (ns : List Nat) (j : Nat) (hj : j < ns.length) : (ints ns).getD j 0 = ((ns.getD j 0 : Nat) : Int) := by
  simp [ints, List.getD_eq_getElem?_getD, hj]
theorem sum_next (ns : List Nat) (j : Nat) (hj : j < ns.length) : (ns.take (j + 1)).sum = (ns.take j).sum + ns.getD j 0 := by
  rw [List.take_succ_eq_append_getElem hj, List.sum_append]
  simp [List.getD_eq_getElem?_getD, hj]
theorem sum_all (ns : List Nat) (j : Nat) (hj : ns.length ≤ j) : (ns.take j).sum = ns.sum := by rw [List.take_of_length_le hj]
theorem sum_le (ns : List Nat) (j : Nat) : (ns.take j).sum ≤ ns.sum := by
  conv => rhs; rw [← List.take_append_drop j ns]
  rw [List.sum_append]
  omega
theorem sum_bd (ns : List Nat) (c : Nat) (h : ∀ x ∈ ns, x ≤ c) : ns.sum ≤ c * ns.length := by
  induction ns with
  | nil => simp
  | cons n ns ih =>
    have h1 := h n (by simp)
    have h2 := ih (fun x hx => h x (by simp [hx]))
    simp only [List.sum_cons, List.length_cons, Nat.mul_add]
    omega
theorem splitS_some (ns : List Nat) (B : List Int) (h : ns.sum ≤ B.length) :
    ∃ L, splitS B (ints ns) = some L ∧ L.length = ns.length ∧ ∀ j, j < ns.length → L[j]? = some ((B.drop (ns.take j).sum).take (ns.getD j 0)) := by
  induction ns generalizing B with
  | nil => exact ⟨[], rfl, rfl, fun j hj => by simp at hj⟩
  | cons n ns ih =>
    rw [List.sum_cons] at h
    obtain ⟨L, h1, h2, h3⟩ := ih (B.drop n) (by rw [List.length_drop]; omega)
    refine ⟨B.take n :: L, ?_, by simp [h2], fun j hj => ?_⟩
    · show splitS B ((n : Int) :: ints ns) = _
      rw [splitS, if_pos (by omega), Int.toNat_natCast, h1]
      rfl
    · cases j with
      | zero => simp
      | succ j =>
        rw [List.getElem?_cons_succ, h3 j (by simpa using hj), List.take_succ_cons, List.sum_cons, List.drop_drop]
        simp
theorem splitS_none (ns : List Nat) (B : List Int) (h : B.length < ns.sum) : splitS B (ints ns) = none := by
  induction ns generalizing B with
  | nil => simp at h
  | cons n ns ih =>
    rw [List.sum_cons] at h
    show splitS B ((n : Int) :: ints ns) = _
    by_cases hn : n ≤ B.length
    · rw [splitS, if_pos (by omega), Int.toNat_natCast, ih (B.drop n) (by rw [List.length_drop]; omega)]
      rfl
    · rw [splitS, if_neg (by omega)]
/-- The sizes that the law takes. -/
def sz40 (xs : List Int) : List Nat := xs.map (fun x => (x % 40).toNat)
theorem sz40_len (xs : List Int) : (sz40 xs).length = xs.length := by simp [sz40]
theorem sz40_bd (xs : List Int) : ∀ n ∈ sz40 xs, n ≤ 39 := by
  intro n hn
  obtain ⟨x, _, rfl⟩ := List.mem_map.1 hn
  omega
theorem sz40_getD (xs : List Int) (j : Nat) : (sz40 xs).getD j 0 ≤ 39 := by
  rw [List.getD_eq_getElem?_getD]
  rcases Nat.lt_or_ge j (sz40 xs).length with h | h
  · rw [List.getElem?_eq_getElem h]
    exact sz40_bd xs _ (List.getElem_mem h)
  · rw [List.getElem?_eq_none h]
    simp
theorem sz40_step (xs : List Int) (j : Nat) (hj : j < xs.length) : (ints (sz40 xs)).take (j + 1) = (ints (sz40 xs)).take j ++ [xs.getD j 0 % 40] := by
  have hj' : j < (ints (sz40 xs)).length := by rw [ints_len, sz40_len]; exact hj
  rw [List.take_succ_eq_append_getElem hj']
  congr 2
  simp only [ints, sz40, List.getElem_map, List.getD_eq_getElem?_getD, List.getElem?_eq_getElem hj, Option.getD_some]
  omega
end Go.Proofs.YtnnbfhjbaagnkaaDoor
