/-
  A map of the call's own from ints to bools that holds just those of a list.
-/
import Derived.Test.YtnnbfhjbaagnkaaQMsg
import Derived.Maps.OwnOps
import Derived.Maps.Views
namespace Go.Proofs.Ytnnbfhjbaagnkaa
open Go.RowKit
open Go.Maps (Keyed IsMap)
set_option linter.unusedVariables false
set_option maxRecDepth 100000

theorem lawInt : Keyed Try.prog 3 := Maps.int_keyed Try.underlying3
theorem key_int (t : Int) (h : IntR t) : keyOf Try.prog 3 (.int .i64 t) = some (.int .i64 t) := Maps.keyOf_int_mk Try.underlying3 (WalkArith.wf_i64 (by unfold IntR at h; omega))
/-- What the map reads as, and the ints that it holds. -/
structure FndD (D : DataW Unit) (ts : List Int) : Prop where
  map : IsMap D
  at_ : ∀ (t : Int), IntR t → D.atKey (.int .i64 t) (.lit (.bool false)) = .lit (.bool (decide (t ∈ ts)))
def Fnd (w : World) (b : Nat) (ts : List Int) : Prop := ∃ D : DataW Unit, w.ownsMap Try.prog 3 (plainElem Try.prog 4) b ts.length D ∧ FndD D ts
theorem Fnd.made (w : World) : Fnd (w.alloc (.map #[] 0)) w.heap.size [] := ⟨_, World.ownsMap_made _ _ _ _, ⟨[], rfl⟩, fun t h => by simp [DataW.atKey]⟩
theorem Fnd.lt {w : World} {b : Nat} {ts : List Int} (h : Fnd w b ts) : b < w.heap.size := by
  obtain ⟨D, h1, _⟩ := h
  exact h1.lt
theorem Fnd.grown {w w' : World} {b : Nat} {ts : List Int} {row : Option Nat} (h : Fnd w b ts) (hg : w.grownBy w' row) (hne : some b ≠ row) : Fnd w' b ts := by
  obtain ⟨D, h1, h2⟩ := h
  exact ⟨D, h1.kept hg hne, h2⟩
theorem Fnd.below {w w' : World} {b : Nat} {ts : List Int} (h : Fnd w b ts) (hb : Below w.heap.size w w') : Fnd w' b ts := h.grown (row := none) (grown_of_below hb none) (by simp)
theorem Fnd.notCells {w : World} {b : Nat} {ts : List Int} (h : Fnd w b ts) (cur : Array Value) (e : TypeId) (fz : Nat × Nat) : w.heap[b]? ≠ some (.cells cur e fz) := by
  obtain ⟨D, ⟨es, clock, h1, _⟩, _⟩ := h
  rw [h1]
  simp
theorem Try.zeroBoolI (w : World) : (zeroValue 4).run Try.prog w = .ok (.bool false) w := by kernel_rfl
theorem Fnd.look {w : World} {b : Nat} {ts : List Int} (h : Fnd w b ts) (t : Int) (hi : IntR t) :
    (Instr.lookup 60 (.map (some b)) (.int .i64 t) false).run Try.prog w = .ok (.bool (decide (t ∈ ts))) w := by
  obtain ⟨D, h1, h2⟩ := h
  obtain ⟨v, ps, hrun, hv⟩ := h1.lookup lawInt Try.underlying60 (Try.zeroBoolI w) (plainElem_bool Try.underlying4 false) (key_int t hi)
  rw [h2.at_ t hi] at hv
  have : v = .bool (decide (t ∈ ts)) := by
    unfold plainElem at hv
    rw [Try.underlying4] at hv
    cases v <;> simp at hv
    rw [hv.1]
  rw [← this]
  exact hrun
theorem FndD.put {D : DataW Unit} {ts : List Int} (h : FndD D ts) (t : Int) (hi : IntR t) : FndD (D.put (.int .i64 t) (.lit (.bool true))) (ts ++ [t]) := by
  refine ⟨h.map.put _ _, fun t' hi' => ?_⟩
  by_cases he : t' = t
  · subst he
    rw [Maps.atKey_put_same h.map (lawInt.key (key_int t' hi))]
    simp
  · have hne : (Lit.int .i64 t' : Lit) ≠ .int .i64 t := by
      intro e
      injection e with _ e
      exact he e
    rw [Maps.atKey_put_other hne, h.at_ t' hi']
    simp [he]
/-- A store into the map as a law of the walk. -/
theorem wpList_fnd (w : World) {ops : Array Oper} {rest : List Oper} {o : Oper} {a : Act} {Q : Exit → Act → World → Prop} (hg : o.guard = none) (m x v : Operand) (hop : o.op = Op.mapUpdate 60 m x v)
    (b : Nat) (ts : List Int) (h : Fnd w b ts) (hn : ts.length < maxLen) (hm : a.eval m = .map (some b)) (t : Int) (hx : a.eval x = .int .i64 t) (hv : a.eval v = .bool true) (hi : IntR t)
    (hK : ∀ w', Fnd w' b (ts ++ [t]) → w.grownBy w' (some b) → wpList Try.prog ops Q rest (a.put o.dst undef) w') : wpList Try.prog ops Q (o :: rest) a w := by
  obtain ⟨D, h1, h2⟩ := h
  refine wpList_mapUpdate_own w hg m x v _ hop _ _ lawInt Try.underlying60 _ b _ D hm h1 hn _ _ (.int .i64 t) hx hv (key_int t hi) _ [] (plainElem_bool Try.underlying4 true) ?_
  intro w' h3 h4
  exact hK w' ⟨_, by simpa using h3, h2.put t hi⟩ h4
end Go.Proofs.Ytnnbfhjbaagnkaa
