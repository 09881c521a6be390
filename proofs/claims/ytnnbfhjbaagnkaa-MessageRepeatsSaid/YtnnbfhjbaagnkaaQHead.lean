/-
  The header of a message as six numbers, and what Check and Request answer of it.
-/
import Derived.Test.YtnnbfhjbaagnkaaRows
import Derived.Test.YtnnbfhjbaagnkaaQZ0
namespace Go.Proofs.Ytnnbfhjbaagnkaa
open Go.RowKit
set_option linter.unusedVariables false

/-- A header: its six numbers. -/
structure Hdr where
  i : Int
  r : Int
  n : Int
  x : Int
  f : Int
  m : Int

/-- The numbers fit into their types. -/
structure Hdr.Ok (h : Hdr) : Prop where
  i : 0 ≤ h.i ∧ h.i ≤ 18446744073709551615
  r : 0 ≤ h.r ∧ h.r ≤ 18446744073709551615
  n : -9223372036854775808 ≤ h.n ∧ h.n ≤ 9223372036854775807
  x : -9223372036854775808 ≤ h.x ∧ h.x ≤ 9223372036854775807
  f : -9223372036854775808 ≤ h.f ∧ h.f ≤ 9223372036854775807
  m : 0 ≤ h.m ∧ h.m ≤ 4294967295

/-- The fields are in range. -/
def rangeR (n x f : Int) : Bool := decide (34 ≤ x ∧ x ≤ 37 ∧ 0 ≤ n ∧ n ≤ 255) && (bits BinOp.andNot IntKind.i64 f 56 == 0)
/-- The first error of a header. -/
def checkR (i r n x f m : Int) : Int :=
  if i = 0 then 20 else if rangeR n x f = false then 5 else if x ≠ 34 ∧ r = 0 then 20 else if x = 34 ∧ m ≠ 0 then 7 else 0

theorem request_any (i r n x f m : Int) (w : World) :
    Calls Try.prog 26 #[.agg #[.int .u64 i, .int .u64 r, .int .i64 n, .int .i64 x, .int .i64 f, .int .u32 m]] w fun e w' => e = .returned (.bool (bits BinOp.and IntKind.i64 f 32 == 0)) ∧ Below w.heap.size w w' := by
  go_enter Try.func26, Try.ntmps26
  go_wp2
  all_goals go_ret
  all_goals exact ⟨rfl, (Below.refl _ _).alloc (Nat.le_refl _) _⟩
end Go.Proofs.Ytnnbfhjbaagnkaa
