/-
  What the document's own Check of one proposal returns.
-/
import Derived.Test.YtkniifopfgeopaaGreatJZ3
namespace Go.Proofs.YtkniifopfgeopaaGreat
open Go.RowKit
set_option linter.unusedVariables false

theorem errTrs_step (ts : List Tr) (j : Nat) (hj : j < ts.length) : errTrs (ts.take j) (ts.drop j) =
    if ts[j].t < 1 ∨ 5 < ts[j].t ∨ ts[j].i < 0 ∨ 65535 < ts[j].i ∨ ts[j].k < 0 ∨ 65535 < ts[j].k then 5 else if ts[j] ∈ ts.take j then 9 else errTrs (ts.take (j + 1)) (ts.drop (j + 1)) := by
  rw [List.drop_eq_getElem_cons hj, errTrs, List.take_add_one, List.getElem?_eq_getElem hj]
  rfl
/-- The result of a function that returns an error. -/
def ErrNew (w : World) (E : Int) (e : Ending) (w' : World) : Prop := e = .returned (.int .i64 E) ∧ Below w.heap.size w w'

theorem eql_tr (w : World) (a b c a' b' c' : Int) : (binOp .eql 112 (.agg #[.int .i64 a, .int .i64 b, .int .i64 c]) (.agg #[.int .i64 a', .int .i64 b', .int .i64 c'])).run Tryz.prog w = .ok (.bool (a == a' && b == b' && c == c')) w := by
  go_simp
  by_cases h1 : a = a' <;> by_cases h2 : b = b' <;> by_cases h3 : c = c' <;> simp [h1, h2, h3]

end Go.Proofs.YtkniifopfgeopaaGreat
