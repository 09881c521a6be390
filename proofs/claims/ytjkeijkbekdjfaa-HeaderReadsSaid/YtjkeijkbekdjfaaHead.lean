/-
  The header of a message as six numbers, and what Check and Request answer of it.
-/
import Derived.Test.YtjkeijkbekdjfaaRows
import Derived.Test.YtjkeijkbekdjfaaBytes
import Derived.Test.YtjkeijkbekdjfaaNum
namespace Go.Proofs.Ytjkeijkbekdjfaa
open Go.RowKit
set_option linter.unusedVariables false

/-- A header: its six numbers. -/
structure Hdr where
  i : Int
  r : Int
  n : Int
  x : Int
  f : Int
  m : Int

/-- The numbers fit into their types. -/
structure Hdr.Ok (h : Hdr) : Prop where
  i : 0 ≤ h.i ∧ h.i ≤ 18446744073709551615
  r : 0 ≤ h.r ∧ h.r ≤ 18446744073709551615
  n : -9223372036854775808 ≤ h.n ∧ h.n ≤ 9223372036854775807
  x : -9223372036854775808 ≤ h.x ∧ h.x ≤ 9223372036854775807
  f : -9223372036854775808 ≤ h.f ∧ h.f ≤ 9223372036854775807
  m : 0 ≤ h.m ∧ h.m ≤ 4294967295

/-- The fields are in range. -/
def rangeR (n x f : Int) : Bool := decide (34 ≤ x ∧ x ≤ 37 ∧ 0 ≤ n ∧ n ≤ 255) && (bits BinOp.andNot IntKind.i64 f 56 == 0)
/-- The first error of a header. -/
def checkR (i r n x f m : Int) : Int :=
  if i = 0 then 20 else if rangeR n x f = false then 5 else if x ≠ 34 ∧ r = 0 then 20 else if x = 34 ∧ m ≠ 0 then 7 else 0

theorem inRange_any (i r n x f m : Int) (w : World) :
    Calls Try.prog 30 #[.agg #[.int .u64 i, .int .u64 r, .int .i64 n, .int .i64 x, .int .i64 f, .int .u32 m]] w fun e w' => e = .returned (.bool (rangeR n x f)) ∧ Below w.heap.size w w' := by
  go_enter Try.func30, Try.ntmps30
  go_wp2
  all_goals go_ret
  all_goals exact ⟨by simp [rangeR]; try omega, (Below.refl _ _).alloc (Nat.le_refl _) _⟩

theorem check_at (i r n x f m z : Int) (w : World) (hz : checkR i r n x f m = z) :
    Calls Try.prog 19 #[.agg #[.int .u64 i, .int .u64 r, .int .i64 n, .int .i64 x, .int .i64 f, .int .u32 m]] w fun e w' => e = .returned (.int .i64 z) ∧ Below w.heap.size w w' := by
  have HZ := hidden hz
  clear hz
  rcases hg : rangeR n x f with _ | _
  · go_enter Try.func19, Try.ntmps19
    go_wp2_with (first | (go_at_call 30; refine (inRange_any _ _ _ _ _ _ _).mono ?_; rintro e w' ⟨rfl, hb⟩; have hb' := ((Below.refl w.heap.size w).alloc (Nat.le_refl _) _).trans (hb.mono (by simp)); clear hb))
    all_goals go_ret
    all_goals have HY := HZ.out
    all_goals first | exact ⟨by simp_all [checkR], hb'⟩ | exact ⟨by simp_all [checkR], (Below.refl _ _).alloc (Nat.le_refl _) _⟩
  · go_enter Try.func19, Try.ntmps19
    go_wp2_with (first | (go_at_call 30; refine (inRange_any _ _ _ _ _ _ _).mono ?_; rintro e w' ⟨rfl, hb⟩; have c1 : w'.cell? ⟨w.heap.size, 1, none⟩ = some (.int .u64 r) := (hb.cell (by simp)).trans (by go_simp); have c5 : w'.cell? ⟨w.heap.size, 5, none⟩ = some (.int .u32 m) := (hb.cell (by simp)).trans (by go_simp); have hb' := ((Below.refl w.heap.size w).alloc (Nat.le_refl _) _).trans (hb.mono (by simp)); clear hb))
    all_goals go_ret
    all_goals have HY := HZ.out
    all_goals first | exact ⟨by simp_all [checkR], hb'⟩ | exact ⟨by simp_all [checkR], (Below.refl _ _).alloc (Nat.le_refl _) _⟩
theorem check_any (i r n x f m : Int) (w : World) :
    Calls Try.prog 19 #[.agg #[.int .u64 i, .int .u64 r, .int .i64 n, .int .i64 x, .int .i64 f, .int .u32 m]] w fun e w' => e = .returned (.int .i64 (checkR i r n x f m)) ∧ Below w.heap.size w w' := check_at _ _ _ _ _ _ _ w rfl

theorem rcheck_at (i r n x f m z : Int) (w : World) (hz : checkR i r n x f m = z) :
    Calls Try.prog 20 #[.agg #[.int .u64 i, .int .u64 r, .int .i64 n, .int .i64 x, .int .i64 f, .int .u32 m]] w fun e w' => e = .returned (.int .i64 z) ∧ Below w.heap.size w w' := by
  have HZ := hidden hz
  clear hz
  go_enter Try.func20, Try.ntmps20
  go_wp2
  all_goals go_ret
  all_goals refine ⟨?_, (Below.refl _ _).alloc (Nat.le_refl _) _⟩
  all_goals have HY := HZ.out
  all_goals clear HZ
  all_goals simp only [checkR, rangeR] at HY
  all_goals simp_all
  all_goals (try split at HY)
  all_goals (try omega)
  all_goals trace_state
theorem rcheck_any (i r n x f m : Int) (w : World) :
    Calls Try.prog 20 #[.agg #[.int .u64 i, .int .u64 r, .int .i64 n, .int .i64 x, .int .i64 f, .int .u32 m]] w fun e w' => e = .returned (.int .i64 (checkR i r n x f m)) ∧ Below w.heap.size w w' := rcheck_at _ _ _ _ _ _ _ w rfl

theorem request_any (i r n x f m : Int) (w : World) :
    Calls Try.prog 21 #[.agg #[.int .u64 i, .int .u64 r, .int .i64 n, .int .i64 x, .int .i64 f, .int .u32 m]] w fun e w' => e = .returned (.bool (bits BinOp.and IntKind.i64 f 32 == 0)) ∧ Below w.heap.size w w' := by
  go_enter Try.func21, Try.ntmps21
  go_wp2
  all_goals go_ret
  all_goals exact ⟨rfl, (Below.refl _ _).alloc (Nat.le_refl _) _⟩
theorem rrequest_any (i r n x f m : Int) (w : World) :
    Calls Try.prog 22 #[.agg #[.int .u64 i, .int .u64 r, .int .i64 n, .int .i64 x, .int .i64 f, .int .u32 m]] w fun e w' => e = .returned (.bool (bits BinOp.and IntKind.i64 f 32 == 0)) ∧ Below w.heap.size w w' := by
  go_enter Try.func22, Try.ntmps22
  go_wp2
  all_goals go_ret
  all_goals exact ⟨rfl, (Below.refl _ _).alloc (Nat.le_refl _) _⟩
end Go.Proofs.Ytjkeijkbekdjfaa
