/-
  A statement that draws its order: a condition on the world that holds till one operation, a call, has come up, beside one that holds throughout. What that call waits for may be loaded by the first condition, although stores behind the call end it.
-/
import Derived.Test.YtilnbmlbahflkaaRows
import Derived.OrdersHeld
import Derived.Deep.RegionHeld
namespace Go.Proofs.Ytilnbmlbahflkaa
open Go
set_option linter.unusedVariables false

section
variable {P : Program} {ops : Array Oper} {Q : Exit → Act → World → Prop} {md : Region.Mode} {c : Nat} {S0 S1 : World → Prop}
/-- Whatever order is picked: behind each operation S0 holds, and S1 till the operation c has come up. -/
def anyC (P : Program) (md : Region.Mode) (ops : Array Oper) (Q : Exit → Act → World → Prop) (c : Nat) (S0 S1 : World → Prop) : Nat → Array Bool → Act → World → Prop
  | 0, l, a, w => Region.ready md ops l = [] ∧ Q .normal a w
  | n + 1, l, a, w => (Region.ready md ops l = [] → Q .normal a w) ∧
      ∀ i ∈ Region.ready md ops l, wpOp P ops Q i (fun a' w' => (S0 w' ∧ ((l.setIfInBounds i true).getD c true = false → S1 w')) ∧ anyC P md ops Q c S0 S1 n (l.setIfInBounds i true) a' w') a w
theorem any_of_C : ∀ (n : Nat) (l : Array Bool) (a : Act) (w : World), anyC P md ops Q c S0 S1 n l a w → wpAny P md ops Q n l a w
  | 0, _, _, _, h => h
  | n + 1, _, _, _, h => ⟨h.1, fun i hi => wpOp_mono (fun a' w' k => any_of_C n _ a' w' k.2) (h.2 i hi)⟩
/-- The first condition, or the second one as well, where c waits for i. -/
theorem anyC_first (B : Bool) {i : Nat} {oi oc : Oper} {v : Value} (hi : ops[i]? = some oi) (hsel : ∀ (j : Nat) (o : Oper) cs b, ops[j]? = some o → o.op ≠ .select cs b)
    (hQ : ∀ ch a w, Q (.panic ch) (a.put oi.dst v) w → Q (.panic ch) a w) (hic : i ≠ c) (hoc : ops[c]? = some oc) (hB : B = true → ∃ e ∈ oc.after, Region.binds md e = true ∧ e.on = i) :
    ∀ (n : Nat) (l : Array Bool) (a : Act) (w : World),
      (∀ j oj, ops[j]? = some oj → j ≠ i → l.getD j true = false → (∀ e ∈ oj.after, Region.binds md e = true → e.on ≠ i) → oi.apart ops oj = true) →
      i ∈ Region.ready md ops l → (B = true → l.getD c true = false) → YieldsIf P ops (fun w => S0 w ∧ (B = true → S1 w)) oi v a → S0 w → (l.getD c true = false → S1 w) →
      anyC P md ops Q c S0 S1 n (l.setIfInBounds i true) (a.put oi.dst v) w → anyC P md ops Q c S0 S1 (n + 1) l a w := by
  intro n
  induction n with
  | zero =>
    intro l a w _ hr hl hy h0 h1 H
    refine ⟨fun h => (by rw [h] at hr; cases hr), fun j hj => ?_⟩
    by_cases hji : j = i
    · subst hji
      exact hy.wpOp hi ⟨h0, fun hb => h1 (hl hb)⟩ ⟨⟨h0, fun hc => h1 (by rw [getD_set_ne true hic] at hc; exact hc)⟩, H⟩
    · have := ready_mono hj hji
      rw [H.1] at this
      cases this
  | succ n ih =>
    intro l a w hfree hr hl hy h0 h1 H
    refine ⟨fun h => (by rw [h] at hr; cases hr), fun j hj => ?_⟩
    by_cases hji : j = i
    · subst hji
      exact hy.wpOp hi ⟨h0, fun hb => h1 (hl hb)⟩ ⟨⟨h0, fun hc => h1 (by rw [getD_set_ne true hic] at hc; exact hc)⟩, H⟩
    · have k1 := H.2 j (ready_mono hj hji)
      obtain ⟨hjun, oj, hoj, hall⟩ := mem_ready.1 hj
      have hnot : ∀ e ∈ oj.after, Region.binds md e = true → e.on ≠ i := fun e he hb heq => by
        have g1 := hall e he hb
        have g0 := (mem_ready.1 hr).1
        rw [heq] at g1
        rcases Nat.lt_or_ge i l.size with h' | h'
        · simp [h'] at g0 g1
          rw [g0] at g1
          cases g1
        · simp [Array.getElem?_eq_none h'] at g1
      have k2 := wpOp_putIf hoj (hfree j oj hoj hji hjun hnot) (fun cs b => hsel i oi cs b hi) (fun cs b => hsel j oj cs b hoj) hQ hy k1
      have hfree' : ∀ k ok, ops[k]? = some ok → k ≠ i → (l.setIfInBounds j true).getD k true = false → (∀ e ∈ ok.after, Region.binds md e = true → e.on ≠ i) → oi.apart ops ok = true := fun k ok hk hki hun hno => by
        refine hfree k ok hk hki ?_ hno
        by_cases hjk : j = k
        · subst hjk; exact hjun
        · rw [getD_set_ne true hjk] at hun; exact hun
      have hjc : B = true → j ≠ c := fun hb e => by
        subst e
        obtain ⟨e, he, hbe, hon⟩ := hB hb
        rw [hoc] at hoj
        cases hoj
        exact hnot e he hbe hon
      have hlc : B = true → (l.setIfInBounds j true).getD c true = false := fun hb => by rw [getD_set_ne true (hjc hb)]; exact hl hb
      have hcc : ∀ l' : Array Bool, ((l'.setIfInBounds i true).setIfInBounds j true).getD c true = (l'.setIfInBounds j true).getD c true := fun l' => by
        rw [Array.setIfInBounds_comm _ _ (Ne.symm hji), getD_set_ne true hic]
      refine wpOp_mono (fun a' w' k3 => ?_) k2
      obtain ⟨hy', ⟨g0, g1⟩, hrest⟩ := k3
      rw [hcc] at g1
      refine ⟨⟨g0, g1⟩, ih (l.setIfInBounds j true) a' w' hfree' (ready_mono hr (Ne.symm hji)) hlc ?_ g0 g1 ?_⟩
      · exact hy'
      · rw [Array.setIfInBounds_comm _ _ hji]
        exact hrest
/-- An operation that yields its value wherever S0 holds. -/
theorem anyC_take {i : Nat} {oi oc : Oper} {v : Value} {n : Nat} {l : Array Bool} {a : Act} {w : World} (hi : ops[i]? = some oi) (hoc : ops[c]? = some oc) (hic : i ≠ c)
    (hs : Region.noSelect ops = true) (hf : Region.free md ops l i = true) (hr : (Region.ready md ops l).contains i = true)
    (hQ : ∀ ch a w, Q (.panic ch) (a.put oi.dst v) w → Q (.panic ch) a w) (hy : YieldsIf P ops S0 oi v a) (h0 : S0 w) (h1 : l.getD c true = false → S1 w)
    (h : anyC P md ops Q c S0 S1 n (l.setIfInBounds i true) (a.put oi.dst v) w) : anyC P md ops Q c S0 S1 (n + 1) l a w :=
  anyC_first false hi (Region.noSelect_spec hs) hQ hic hoc (fun h => by cases h) n l a w (Region.free_spec hi hf) (by simpa using hr) (fun h => by cases h)
    (hy.imp (fun ⟨a, b⟩ => ⟨a, fun w k => b w k.1⟩) id) h0 h1 h
/-- The one operation that may come up. -/
theorem anyC_one {i : Nat} {o : Oper} {n : Nat} {l : Array Bool} {a : Act} {w : World} (hr : Region.ready md ops l = [i]) (ho : ops[i]? = some o)
    (h : ∀ K' : Act → World → Prop, Shut (∀ a w, S0 w → ((l.setIfInBounds i true).getD c true = false → S1 w) → anyC P md ops Q c S0 S1 n (l.setIfInBounds i true) a w → K' a w) →
      if Region.wanted o (yielded ops a.tmps) = true then Oper.wp P o a w K' Q else K' (a.put o.dst undef) w) : anyC P md ops Q c S0 S1 (n + 1) l a w :=
  ⟨fun h0 => (by rw [hr] at h0; cases h0), fun j hj => (by
    rw [hr] at hj
    have e : j = i := by simpa using hj
    subst e
    exact wpOp_step ho fun K' hK => h K' fun a w h0 h1 k => hK a w ⟨⟨h0, h1⟩, k⟩)⟩
theorem anyC_done {l : Array Bool} {a : Act} {w : World} (hr : Region.ready md ops l = []) (h : Q .normal a w) : ∀ n, anyC P md ops Q c S0 S1 n l a w
  | 0 => ⟨hr, h⟩
  | _ + 1 => ⟨fun _ => h, by rw [hr]; simp⟩
/-- The beginning. -/
theorem region_C {id : Nat} {a : Act} {w : World} (c : Nat) (S0 S1 : World → Prop) (hm : P.follows .mixedOrders = true) (h0 : S0 w.drew) (h1 : S1 w.drew)
    (h : S0 w.drew → S1 w.drew → anyC P .any ops Q c S0 S1 ops.size (Array.replicate ops.size false) a w.drew) : (Code.region id ops true).wp P Q a w :=
  wp_region_any hm (any_of_C _ _ _ _ (h h0 h1))
end
end Go.Proofs.Ytilnbmlbahflkaa
