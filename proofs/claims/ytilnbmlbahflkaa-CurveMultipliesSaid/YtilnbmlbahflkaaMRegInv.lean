/-
  A statement that draws its order, by an invariant over what has come up: one step for each operation, whatever came before it.
-/
import Derived.Test.YtilnbmlbahflkaaMHeldC
namespace Go.Proofs.Ytilnbmlbahflkaa
open Go
set_option linter.unusedVariables false

section
variable {P : Program} {ops : Array Oper} {Q : Exit → Act → World → Prop} {md : Region.Mode}
/-- How many have not come up. -/
def cnt (l : Array Bool) : Nat := l.toList.count false
theorem cnt_zero {l : Array Bool} (h : cnt l = 0) (j : Nat) : l.getD j true = true := by
  unfold cnt at h
  rw [List.count_eq_zero] at h
  rw [Array.getD_eq_getD_getElem?]
  rcases Nat.lt_or_ge j l.size with hj | hj
  · rw [Array.getElem?_eq_getElem hj]
    have : l[j] ∈ l.toList := by rw [← Array.getElem_toList]; exact List.getElem_mem (by simpa using hj)
    cases hb : l[j] with
    | true => simp
    | false => rw [hb] at this; exact absurd this h
  · rw [Array.getElem?_eq_none hj]; rfl
theorem count_set (l : List Bool) (i : Nat) (h : l[i]? = some false) : (l.set i true).count false + 1 = l.count false := by
  induction l generalizing i with
  | nil => simp at h
  | cons x l ih =>
    cases i with
    | zero => simp at h; subst h; simp
    | succ i =>
      have := ih i (by simpa using h)
      simp only [List.set_cons_succ, List.count_cons]
      omega
theorem cnt_set {l : Array Bool} {i : Nat} (h : l.getD i true = false) : cnt (l.setIfInBounds i true) + 1 = cnt l := by
  have h1 : l.toList[i]? = some false := by
    rw [Array.getD_eq_getD_getElem?] at h
    rw [Array.getElem?_toList]
    cases e : l[i]? with
    | none => rw [e] at h; simp at h
    | some x => rw [e] at h; simp at h; rw [h]
  unfold cnt
  rw [Array.toList_setIfInBounds]
  exact count_set _ _ h1
/-- An operation waits for earlier ones alone. -/
def depsBelow (ops : Array Oper) : Bool := (List.range ops.size).all fun i => match ops[i]? with | some o => o.after.all (fun e => decide (e.on < i)) | none => true
end
end Go.Proofs.Ytilnbmlbahflkaa
