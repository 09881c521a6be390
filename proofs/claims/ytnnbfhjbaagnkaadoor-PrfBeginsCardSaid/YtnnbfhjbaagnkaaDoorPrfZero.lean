/-
  append(v, make([]byte, z)...) on a row of the call's own that may be nil: z zeros more.
-/
import Derived.Test.YtnnbfhjbaagnkaaDoorZeros
import Derived.Test.YtnnbfhjbaagnkaaDoorOwnB
import Derived.Test.YtnnbfhjbaagnkaaDoorConcat
namespace Go.Proofs.YtnnbfhjbaagnkaaDoor
open Go.RowKit
set_option linter.unusedVariables false

section
variable {P : Program} {w : World}
theorem run_append_more (base : Nat) (t u ty e : TypeId) (i : TypeInfo) (ht : P.underlying t = some (.slice e)) (hu : P.underlying u = some (.int .i64)) (hi : P.info? e = some i) (hz : i.zero = some (.int .u8 0))
    (hsize : i.size = 1) (hby : i.bytes = 1) (v : Value) (xs : List Int) (hown : Own w base e v xs) (n : Nat) (hn0 : xs = [] → n ≠ 0) (hn : n ≤ 1000) (hN : xs.length ≤ 10000) (hbase : base ≤ w.heap.size) :
    ∃ v' w', (Builtin.append_ #[t, u] ty #[v, .int .i64 n]).run P w = .ok v' w' ∧ Own w' base e v' (xs ++ List.replicate n 0) ∧ w.grownBy w' v.ownBlock := by
  rcases hown.2 with ⟨rfl, h0⟩ | ⟨g, cap, cur, rfl, _⟩
  · obtain rfl : xs = [] := List.eq_nil_of_length_eq_zero h0
    obtain ⟨c, w', hr, h2, h3⟩ := run_append_nilz (P := P) w base t u ty e i ht hu hi hz hsize hby n (hn0 rfl) (by omega) hbase
    exact ⟨_, w', hr, by rw [List.nil_append]; exact h2, h3⟩
  · obtain ⟨v', w', hr, h2, h3⟩ := run_append_zeros (P := P) w base t u ty e i ht hu hi hz hsize hby g xs.length cap xs hown rfl n hn hN hbase
    exact ⟨v', w', hr, h2, h3⟩
/-- The same as a law of the walk. -/
theorem wpList_append_more {ops : Array Oper} {rest : List Oper} {o : Oper} {a : Act} {Q : Exit → Act → World → Prop} (hgd : o.guard = none) (s x : Operand) (t u : TypeId)
    (ho : o.op = .call { callee := .builtin .append, args := #[s, x], argTypes := #[t, u] })
    (base : Nat) (e : TypeId) (i : TypeInfo) (ht : P.underlying t = some (.slice e)) (hu : P.underlying u = some (.int .i64)) (hi : P.info? e = some i) (hz : i.zero = some (.int .u8 0))
    (hsize : i.size = 1) (hby : i.bytes = 1) (v : Value) (xs : List Int) (hs : a.eval s = v) (hown : Own w base e v xs) (z : Int) (n : Nat) (hx : a.eval x = .int .i64 z) (hzn : z = n)
    (hn0 : xs = [] → n ≠ 0) (hn : n ≤ 1000) (hN : xs.length ≤ 10000) (hbase : base ≤ w.heap.size) (R : List Int) (hR : xs ++ List.replicate n 0 = R)
    (h : ∀ v' w', Hid (Own w' base e v' R) → Hid (w.grownBy w' v.ownBlock) → wpList P ops Q rest (a.put o.dst v') w') : wpList P ops Q (o :: rest) a w := by
  subst hR
  refine wpList_plain hgd fun K hK => ?_
  subst hzn
  obtain ⟨v', w', hr, h2, h3⟩ := run_append_more (P := P) base t u o.type e i ht hu hi hz hsize hby v xs hown n hn0 hn hN hbase
  unfold Oper.wp execOp
  simp only [ho, resolve, invoke, builtin, Sem.run_bind, Sem.run_pure, Result.andThen_ok, List.map_toArray, List.map_cons, List.map_nil, hs, hx, hr]
  exact hK _ _ (h v' w' h2 h3)
end
end Go.Proofs.YtnnbfhjbaagnkaaDoor
