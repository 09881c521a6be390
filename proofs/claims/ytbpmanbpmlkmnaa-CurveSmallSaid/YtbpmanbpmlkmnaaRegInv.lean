/-
  A statement that draws its order, by an invariant over what has come up: one step for each operation, whatever came before it.
-/
import Derived.Test.YtbpmanbpmlkmnaaHeldC
namespace Go.Proofs.Ytbpmanbpmlkmnaa
open Go
set_option linter.unusedVariables false

section
variable {P : Program} {ops : Array Oper} {Q : Exit → Act → World → Prop} {md : Region.Mode}
/-- How many have not come up. -/
def cnt (l : Array Bool) : Nat := l.toList.count false
theorem cnt_zero {l : Array Bool} (h : cnt l = 0) (j : Nat) : l.getD j true = true := by
  unfold cnt at h
  rw [List.count_eq_zero] at h
  rw [Array.getD_eq_getD_getElem?]
  rcases Nat.lt_or_ge j l.size with hj | hj
  · rw [Array.getElem?_eq_getElem hj]
    have : l[j] ∈ l.toList := by rw [← Array.getElem_toList]; exact List.getElem_mem (by simpa using hj)
    cases hb : l[j] with
    | true => simp
    | false => rw [hb] at this; exact absurd this h
  · rw [Array.getElem?_eq_none hj]; rfl
theorem count_set (l : List Bool) (i : Nat) (h : l[i]? = some false) : (l.set i true).count false + 1 = l.count false := by
  induction l generalizing i with
  | nil => simp at h
  | cons x l ih =>
    cases i with
    | zero => simp at h; subst h; simp
    | succ i =>
      have := ih i (by simpa using h)
      simp only [List.set_cons_succ, List.count_cons]
      omega
theorem cnt_set {l : Array Bool} {i : Nat} (h : l.getD i true = false) : cnt (l.setIfInBounds i true) + 1 = cnt l := by
  have h1 : l.toList[i]? = some false := by
    rw [Array.getD_eq_getD_getElem?] at h
    rw [Array.getElem?_toList]
    cases e : l[i]? with
    | none => rw [e] at h; simp at h
    | some x => rw [e] at h; simp at h; rw [h]
  unfold cnt
  rw [Array.toList_setIfInBounds]
  exact count_set _ _ h1
/-- The rule. -/
theorem any_inv (Φ : Array Bool → Act → World → Prop)
    (h : ∀ l a w, Φ l a w → (∀ n, cnt l ≤ n → wpAny P md ops Q n l a w) ∨ ((Region.ready md ops l = [] → Q .normal a w) ∧ ∀ i ∈ Region.ready md ops l, wpOp P ops Q i (Φ (l.setIfInBounds i true)) a w)) :
    ∀ (n : Nat) (l : Array Bool) (a : Act) (w : World), cnt l ≤ n → Φ l a w → wpAny P md ops Q n l a w := by
  intro n
  induction n with
  | zero =>
    intro l a w hc hp
    rcases h l a w hp with hd | ⟨he, _⟩
    · exact hd 0 hc
    · have hr : Region.ready md ops l = [] := by
        refine List.eq_nil_iff_forall_not_mem.2 fun j hj => ?_
        have h1 := (mem_ready.1 hj).1
        rw [cnt_zero (Nat.le_zero.1 hc) j] at h1
        cases h1
      exact ⟨hr, he hr⟩
  | succ n ih =>
    intro l a w hc hp
    rcases h l a w hp with hd | ⟨he, hs⟩
    · exact hd (n + 1) hc
    · refine ⟨he, fun i hi => wpOp_mono (fun a' w' hp' => ih _ a' w' ?_ hp') (hs i hi)⟩
      have := cnt_set (mem_ready.1 hi).1
      omega
/-- One operation, handed over behind a shut condition. -/
theorem inv_op {Φ : Array Bool → Act → World → Prop} {l : Array Bool} {a : Act} {w : World} {i : Nat} {o : Oper} (ho : ops[i]? = some o)
    (h : ∀ K' : Act → World → Prop, Shut (∀ a w, Φ (l.setIfInBounds i true) a w → K' a w) → if Region.wanted o (yielded ops a.tmps) = true then Oper.wp P o a w K' Q else K' (a.put o.dst undef) w) :
    wpOp P ops Q i (Φ (l.setIfInBounds i true)) a w := wpOp_step ho (fun K' hK => h K' hK)
/-- The one operation that may come up. -/
theorem any_one {i : Nat} {o : Oper} {n : Nat} {l : Array Bool} {a : Act} {w : World} (hr : Region.ready md ops l = [i]) (ho : ops[i]? = some o)
    (h : ∀ K' : Act → World → Prop, Shut (∀ a w, wpAny P md ops Q n (l.setIfInBounds i true) a w → K' a w) → if Region.wanted o (yielded ops a.tmps) = true then Oper.wp P o a w K' Q else K' (a.put o.dst undef) w) : wpAny P md ops Q (n + 1) l a w :=
  ⟨fun h0 => (by rw [hr] at h0; cases h0), fun j hj => (by
    rw [hr] at hj
    have e : j = i := by simpa using hj
    subst e
    exact wpOp_step ho (fun K' hK => h K' hK))⟩
theorem any_done {l : Array Bool} {a : Act} {w : World} (hr : Region.ready md ops l = []) (h : Q .normal a w) : ∀ n, wpAny P md ops Q n l a w
  | 0 => ⟨hr, h⟩
  | _ + 1 => ⟨fun _ => h, by rw [hr]; simp⟩
/-- An operation waits for earlier ones alone. -/
def depsBelow (ops : Array Oper) : Bool := (List.range ops.size).all fun i => match ops[i]? with | some o => o.after.all (fun e => decide (e.on < i)) | none => true
theorem all_true (hd : depsBelow ops = true) {l : Array Bool} (hs : l.size = ops.size) (hr : Region.ready md ops l = []) : ∀ j, l.getD j true = true := by
  intro j
  induction j using Nat.strongRecOn with
  | ind j ih =>
    cases hb : l.getD j true with
    | true => rfl
    | false =>
      exfalso
      have hj : j < l.size := by
        rcases Nat.lt_or_ge j l.size with h | h
        · exact h
        · rw [Array.getD_eq_getD_getElem?, Array.getElem?_eq_none h] at hb; cases hb
      have hj' : j < ops.size := by omega
      have hm : j ∈ Region.ready md ops l := by
        refine mem_ready.2 ⟨hb, ops[j], Array.getElem?_eq_getElem hj', fun e he _ => ?_⟩
        unfold depsBelow at hd
        have h1 := List.all_eq_true.1 hd j (List.mem_range.2 hj')
        rw [Array.getElem?_eq_getElem hj'] at h1
        simp only at h1
        obtain ⟨k, hk, hke⟩ := Array.getElem_of_mem he
        have h2 := Array.all_eq_true.1 h1 k hk
        rw [hke] at h2
        have h3 : e.on < j := of_decide_eq_true h2
        have h4 := ih e.on h3
        rw [Array.getD_eq_getD_getElem?, Array.getElem?_eq_getElem (by omega)] at h4 ⊢
        exact h4
      rw [hr] at hm
      cases hm
/-- What an operation that may come up has waited for. -/
theorem ready_dep {l : Array Bool} {i : Nat} {o : Oper} (hi : i ∈ Region.ready md ops l) (ho : ops[i]? = some o) (k : Nat) (h : (o.after.any fun e => Region.binds md e && e.on == k) = true) : l.getD k false = true := by
  obtain ⟨_, o', ho', hd⟩ := mem_ready.1 hi
  rw [ho] at ho'
  cases ho'
  obtain ⟨j, hj, he⟩ := Array.any_eq_true.1 h
  simp only [Bool.and_eq_true, beq_iff_eq] at he
  have := hd _ (Array.getElem_mem hj) he.1
  rwa [he.2] at this
/-- Which operations may come up. -/
theorem ready_lt {l : Array Bool} {i : Nat} (h : i ∈ Region.ready md ops l) : i < ops.size := by
  obtain ⟨_, o, ho, _⟩ := mem_ready.1 h
  exact (Array.getElem?_eq_some_iff.1 ho).1
end
end Go.Proofs.Ytbpmanbpmlkmnaa
