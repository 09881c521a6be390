/-
  One payload more in a message that has no error: the first error then.
-/
import Derived.Test.YtnnbfhjbaagnkaaQMsgCheck
import Derived.Test.YtnnbfhjbaagnkaaQMkMsg
namespace Go.Proofs.Ytnnbfhjbaagnkaa
open Go.RowKit
set_option linter.unusedVariables false

theorem twiceM_append (l : List Pv) (y : Pv) : ∀ ts, twiceM ts (l ++ [y]) = (twiceM ts l || (decide (y.t ∈ ts ++ l.map Pv.t) && !rep y.t)) := by
  induction l with
  | nil => intro ts; simp [twiceM]
  | cons x l ih =>
    intro ts
    rw [List.cons_append, twiceM, ih, twiceM, List.map_cons, Bool.or_assoc, show ts ++ [x.t] ++ List.map Pv.t l = ts ++ x.t :: List.map Pv.t l by simp]
theorem not_twice {x f : Int} {l : List Pv} (h : checkM x f l = 0) : twiceM [] l = false := by
  cases ht : twiceM [] l with
  | false => rfl
  | true =>
    unfold checkM at h
    simp [ht] at h
theorem mem_more {l : List Pv} {p : Pv} (hp : p ∈ l) (z : Int) : decide (z ∈ (l ++ [p]).map Pv.t) = decide (z ∈ l.map Pv.t) := by
  have hm : p.t ∈ l.map Pv.t := List.mem_map_of_mem hp
  rw [decide_eq_decide, List.map_append, List.mem_append]
  constructor
  · rintro (h | h)
    · exact h
    · simp at h
      rw [h]; exact hm
  · exact Or.inl
theorem any_more {l : List Pv} {p : Pv} (hp : p ∈ l) (g : Pv → Bool) : (l ++ [p]).any g = l.any g := by
  rw [Bool.eq_iff_iff, List.any_eq_true, List.any_eq_true]
  constructor
  · rintro ⟨y, hy, h⟩
    rcases List.mem_append.1 hy with hy | hy
    · exact ⟨y, hy, h⟩
    · rw [List.mem_singleton.1 hy] at h
      exact ⟨p, hp, h⟩
  · rintro ⟨y, hy, h⟩
    exact ⟨y, List.mem_append_left _ hy, h⟩
theorem all_more {l : List Pv} {p : Pv} (hp : p ∈ l) (g : Pv → Bool) : (l ++ [p]).all g = l.all g := by
  rw [Bool.eq_iff_iff, List.all_eq_true, List.all_eq_true]
  constructor
  · exact fun h y hy => h y (List.mem_append_left _ hy)
  · intro h y hy
    rcases List.mem_append.1 hy with hy | hy
    · exact h y hy
    · rw [List.mem_singleton.1 hy]; exact h p hp
theorem no_seal {l : List Pv} (hk : ∀ y ∈ l, KindOk y.t) (z : Int) (hz : z = 46 ∨ z = 53) : decide (z ∈ l.map Pv.t) = false := by
  refine decide_eq_false (fun h => ?_)
  obtain ⟨y, hy, e⟩ := List.mem_map.1 h
  obtain ⟨h1, h2, h3⟩ := hk y hy
  omega
/-- The same payload once more. -/
theorem check_more {x f : Int} {l : List Pv} {p : Pv} (h : checkM x f l = 0) (hp : p ∈ l) (hk : ∀ y ∈ l, KindOk y.t) : checkM x f (l ++ [p]) = if rep p.t then 0 else 9 := by
  have hm : p.t ∈ l.map Pv.t := List.mem_map_of_mem hp
  have ht := not_twice h
  cases hr : rep p.t with
  | true =>
    have e1 : twiceM [] (l ++ [p]) = twiceM [] l := by rw [twiceM_append]; simp [hr]
    have e2 := no_seal hk 46 (.inl rfl)
    have e3 := no_seal hk 53 (.inr rfl)
    rw [if_pos rfl, ← h]
    unfold checkM
    simp only [e1, mem_more hp, any_more hp, all_more hp, e2, e3]
    simp
  | false =>
    unfold checkM
    rw [twiceM_append]
    simp [hr, List.mem_map_of_mem hp]
/-- A sealed payload behind others. -/
theorem check_seal {x f : Int} {l : List Pv} {q : Pv} (h : checkM x f l = 0) (hl : l ≠ []) (hk : ∀ y ∈ l, KindOk y.t) (hq : q.t = 46 ∨ q.t = 53) : checkM x f (l ++ [q]) = 7 := by
  have ht := not_twice h
  have e0 := no_seal hk q.t hq
  have e1 : twiceM [] (l ++ [q]) = false := by rw [twiceM_append, ht, List.nil_append, e0]; rfl
  have hlen : 1 < (l ++ [q]).length := by
    have : 0 < l.length := List.length_pos_iff.2 hl
    simp; omega
  unfold checkM
  simp only [e1]
  have hw : (decide ((46 : Int) ∈ (l ++ [q]).map Pv.t) || decide ((53 : Int) ∈ (l ++ [q]).map Pv.t)) = true := by
    rcases hq with hq | hq
    · have : (46 : Int) ∈ (l ++ [q]).map Pv.t := by simp [hq]
      rw [decide_eq_true this, Bool.true_or]
    · have : (53 : Int) ∈ (l ++ [q]).map Pv.t := by simp [hq]
      rw [decide_eq_true this, Bool.or_true]
  rw [if_neg (by simp), if_pos hw, if_pos hlen]
end Go.Proofs.Ytnnbfhjbaagnkaa
