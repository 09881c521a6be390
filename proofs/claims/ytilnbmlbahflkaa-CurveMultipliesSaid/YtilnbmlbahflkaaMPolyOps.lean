/-
  poly1305.marked and poly1305.sum.
-/
import Derived.Test.YtilnbmlbahflkaaMPolyNum
namespace Go.Proofs.Ytilnbmlbahflkaa
open Go.RowKit
set_option linter.unusedVariables false

theorem heap_2nd (w : World) (o : Obj) (S : Array Value) (t : TypeId) (p : Obj) : (((w.alloc o).alloc (.cells S t)).alloc p).heap[w.heap.size + 1]? = some (.cells S t (0, 0)) := by
  have := heap_1st (w.alloc o) S t p
  rwa [World.size_alloc] at this
theorem Lm.set {u v : Int} {L : List Int} (h : Lm u v L) (m : Int) (hu : u ≤ m) (hv : v ≤ m) (j : Nat) (x : Int) (hx : 0 ≤ x ∧ x < m) : Lm m m (L.set j x) := by
  have hl : (L.set j x).length = 5 := by rw [List.length_set, h.len]
  have ha := h.all m hu hv
  have key : ∀ i, i < 5 → 0 ≤ (L.set j x).getD i 0 ∧ (L.set j x).getD i 0 < m := fun i hi => by
    have hmem : (L.set j x).getD i 0 ∈ L.set j x := by
      rw [List.getD_eq_getElem?_getD, List.getElem?_eq_getElem (by omega)]
      exact List.getElem_mem (by omega)
    rcases List.mem_or_eq_of_mem_set hmem with h1 | h1
    · exact ha _ h1
    · rw [h1]; exact hx
  exact ⟨hl, key 0 (by omega), fun i _ hi => key i hi⟩

/-- Limb by limb. -/
def addL (A B : List Int) : List Int := List.zipWith (· + ·) A B
theorem addL_len (A B : List Int) : (addL A B).length = min A.length B.length := by simp [addL]
theorem addL_num (b : Int) (A B : List Int) (h : A.length = B.length) : num b (addL A B) = num b A + num b B := by
  induction A generalizing B with
  | nil => cases B with
    | nil => rfl
    | cons y B => simp at h
  | cons x A ih => cases B with
    | nil => simp at h
    | cons y B =>
      have := ih B (by simpa using h)
      simp only [addL, List.zipWith_cons_cons, num] at this ⊢
      rw [this]
      grind
theorem Lm.add {u v u' v' : Int} {A B : List Int} (h : Lm u v A) (h' : Lm u' v' B) : Lm (u + u') (v + v') (addL A B) := by
  obtain ⟨a, b, c, d, e, rfl⟩ := five A h.len
  obtain ⟨a', b', c', d', e', rfl⟩ := five B h'.len
  have k0 := h.fst
  have k1 := h.rest 1 (by omega) (by omega)
  have k2 := h.rest 2 (by omega) (by omega)
  have k3 := h.rest 3 (by omega) (by omega)
  have k4 := h.rest 4 (by omega) (by omega)
  have l0 := h'.fst
  have l1 := h'.rest 1 (by omega) (by omega)
  have l2 := h'.rest 2 (by omega) (by omega)
  have l3 := h'.rest 3 (by omega) (by omega)
  have l4 := h'.rest 4 (by omega) (by omega)
  simp at k0 k1 k2 k3 k4 l0 l1 l2 l3 l4
  simp only [addL, List.zipWith_cons_cons, List.zipWith_nil_left]
  exact Lm.of _ _ _ _ _ _ _ (by omega) (by omega) (by omega) (by omega) (by omega)
/-- The first j limbs are added. -/
def midA (A B : List Int) (j : Nat) : List Int := addL (A.take j) (B.take j) ++ A.drop j
theorem midA_zero (A B : List Int) : midA A B 0 = A := by simp [midA, addL]
theorem midA_len (A B : List Int) (j : Nat) (h : A.length = B.length) (hj : j ≤ A.length) : (midA A B j).length = A.length := by simp [midA, addL_len]; omega
theorem midA_get (A B : List Int) (j : Nat) (h : A.length = B.length) (hj : j < A.length) : (midA A B j).getD j 0 = A.getD j 0 := by
  unfold midA
  exact getD_mid _ _ _ (by rw [addL_len]; simp; omega)
theorem midA_succ (A B : List Int) (j : Nat) (h : A.length = B.length) (hj : j < A.length) : (midA A B j).set j (A.getD j 0 + B.getD j 0) = midA A B (j + 1) := by
  unfold midA
  rw [set_mid _ _ _ _ (by rw [addL_len]; simp; omega) hj]
  congr 1
  unfold addL
  rw [List.take_succ_eq_append_getElem hj, List.take_succ_eq_append_getElem (show j < B.length by omega), List.zipWith_append (by simp; omega)]
  simp [List.getD_eq_getElem?_getD, hj, show j < B.length by omega]
theorem midA_end (A B : List Int) (h : A.length = B.length) : midA A B A.length = addL A B := by
  unfold midA
  rw [List.drop_length, List.append_nil, List.take_length, h, List.take_length]

end Go.Proofs.Ytilnbmlbahflkaa
