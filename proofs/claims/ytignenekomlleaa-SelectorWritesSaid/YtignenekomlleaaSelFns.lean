/-
  What package selector's questions on addresses and selectors answer.
-/
import Derived.Test.YtignenekomlleaaSelMath
import Derived.Test.YtignenekomlleaaInts
import Derived.Deep.QuietTactic
import Derived.BigQuiet
namespace Go.Proofs.Ytignenekomlleaa
open Go.RowKit
set_option linter.unusedVariables false

theorem below_two {w : World} (o1 o2 : Obj) : Below w.heap.size w ((w.alloc o1).alloc o2) := ((Below.refl _ _).alloc (Nat.le_refl _) o1).alloc (by simp) o2
theorem below_three {w : World} (o1 o2 o3 : Obj) : Below w.heap.size w (((w.alloc o1).alloc o2).alloc o3) := (below_two o1 o2).alloc (by simp; omega) o3

theorem less_any (x y : Ad) (w : World) :
    Calls Try.prog 57 #[(.agg #[.int .i64 x.f, .int .u64 x.h, .int .u64 x.l]), (.agg #[.int .i64 y.f, .int .u64 y.h, .int .u64 y.l])] w fun e w' => e = .returned (.bool (ltA x y)) ∧ Below w.heap.size w w' := by
  obtain ⟨xf, xh, xl⟩ := x
  obtain ⟨yf, yh, yl⟩ := y
  by_cases h1 : xf ≠ yf
  · have e1 : (xf != yf) = true := by simpa using h1
    go_enter Try.func57, Try.ntmps57
    go_wp2
    go_ret
    exact ⟨by simp [ltA, h1], below_two _ _⟩
  obtain rfl : xf = yf := by omega
  have e1 : (xf != xf) = false := by simp
  by_cases h2 : xh ≠ yh
  · have e2 : (xh != yh) = true := by simpa using h2
    go_enter Try.func57, Try.ntmps57
    go_wp2
    go_ret
    exact ⟨by simp [ltA, h2], below_two _ _⟩
  obtain rfl : xh = yh := by omega
  have e2 : (xh != xh) = false := by simp
  go_enter Try.func57, Try.ntmps57
  go_wp2
  go_ret
  exact ⟨by simp [ltA], below_two _ _⟩

theorem sless_any (x y : Ad) (w : World) :
    Calls Try.prog 30 #[(.agg #[.int .i64 x.f, .int .u64 x.h, .int .u64 x.l]), (.agg #[.int .i64 y.f, .int .u64 y.h, .int .u64 y.l])] w fun e w' => e = .returned (.bool (ltA x y)) ∧ Below w.heap.size w w' := by
  have HL := hidden (less_any x y ((w.alloc (.cells #[.int .i64 x.f, .int .u64 x.h, .int .u64 x.l] 46)).alloc (.cells #[.int .i64 y.f, .int .u64 y.h, .int .u64 y.l] 46)))
  have HB := hidden (below_two (w := w) (.cells #[.int .i64 x.f, .int .u64 x.h, .int .u64 x.l] 46) (.cells #[.int .i64 y.f, .int .u64 y.h, .int .u64 y.l] 46))
  go_enter Try.func30, Try.ntmps30
  go_wp2_with (go_at_call 57; (with_reducible refine (HL.out).mono ?_))
  rintro e w1 ⟨rfl, hb⟩
  go_wp2
  go_ret
  exact ⟨rfl, HB.out.trans (hb.mono (by simp; omega))⟩

theorem valid_any (x : Ad) (w : World) :
    Calls Try.prog 28 #[(.agg #[.int .i64 x.f, .int .u64 x.h, .int .u64 x.l])] w fun e w' => e = .returned (.bool (validA x)) ∧ Below w.heap.size w w' := by
  go_enter Try.func28, Try.ntmps28
  go_wp2
  all_goals go_ret
  all_goals exact ⟨by simp_all [validA], (Below.refl _ _).alloc (Nat.le_refl _) _⟩

theorem arePorts_any (a b : Int) (w : World) :
    Calls Try.prog 56 #[.int .i64 a, .int .i64 b] w fun e w' => e = .returned (.bool (portsOk a b)) ∧ w = w' := by
  go_enter Try.func56, Try.ntmps56
  go_wp2
  all_goals go_ret
  all_goals refine ⟨?_, rfl⟩
  all_goals simp_all [portsOk]
  all_goals first | omega | (rw [Bool.eq_iff_iff]; simp; omega)

theorem fields_any (l h : Int) (w : World) :
    Calls Try.prog 70 #[.agg #[.int .i64 l, .int .i64 h]] w fun e w' => e = .returned (.tuple #[.int .i64 (fieldsP l h).1, .int .i64 (fieldsP l h).2]) ∧ Below w.heap.size w w' := by
  by_cases h1 : h = -1
  · subst h1
    go_enter Try.func70, Try.ntmps70
    go_wp2
    go_ret2
    exact ⟨by simp [fieldsP], (Below.refl _ _).alloc (Nat.le_refl _) _⟩
  have e1 : (h == -1) = false := by simpa using h1
  by_cases h2 : l = -1
  · subst h2
    go_enter Try.func70, Try.ntmps70
    go_wp2
    go_ret2
    exact ⟨by simp [fieldsP, h1], (Below.refl _ _).alloc (Nat.le_refl _) _⟩
  have e2 : (l == -1) = false := by simpa using h2
  go_enter Try.func70, Try.ntmps70
  go_wp2
  go_quiet (fail)
  go_wp2
  go_ret2
  exact ⟨by simp [fieldsP, h1, h2], ((Below.refl _ _).alloc (Nat.le_refl _) _).trans (drew_below ⟨_, rfl⟩)⟩
end Go.Proofs.Ytignenekomlleaa
