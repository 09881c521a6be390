/-
  Whether a message tells of an error (message.fails).
-/
import Derived.Test.YtnnbfhjbaagnkaaQMsg
namespace Go.Proofs.Ytnnbfhjbaagnkaa
open Go.RowKit
set_option linter.unusedVariables false

set_option maxHeartbeats 800000 in
theorem containsFunc_any (p : Option Addr) (n c : Nat) (l : List Pv) (w : World) (h : RdG KPv DPv w p n c l) :
    Calls Try.prog 20 #[.slice p n c, .func (.func 21) #[] #[]] w fun e w' => e = .returned (.bool (l.any tells)) ∧ Below w.heap.size w w' := by
  have HC := hidden (indexFunc_any p n c l w h)
  have HN := Is.mk (firstAt_neg tells l 0)
  generalize firstAt tells l 0 = R at HC HN
  go_enter Try.func20, Try.ntmps20
  go_wp2_with (first
    | (go_at_call 25; (with_reducible refine (HC.out).mono ?_); rintro _ w1 ⟨rfl, hb1⟩; have HB1 := hidden hb1; clear hb1)
    | fail)
  go_ret
  exact ⟨by rw [← HN.eq]; rfl, HB1.out⟩
set_option maxHeartbeats 800000 in
theorem fails_any (i r nx x f m : Int) (p : Option Addr) (n c : Nat) (l : List Pv) (w : World) (h : RdG KPv DPv w p n c l) :
    Calls Try.prog 13 #[.agg #[.int .u64 i, .int .u64 r, .int .i64 nx, .int .i64 x, .int .i64 f, .int .u32 m, .slice p n c]] w fun e w' => e = .returned (.bool (l.any tells)) ∧ Below w.heap.size w w' := by
  have HB0 := hidden ((Below.refl w.heap.size w).alloc (Nat.le_refl _) (.cells #[.int .u64 i, .int .u64 r, .int .i64 nx, .int .i64 x, .int .i64 f, .int .u32 m, .slice p n c] 32))
  have HC := hidden (containsFunc_any p n c l (w.alloc (.cells #[.int .u64 i, .int .u64 r, .int .i64 nx, .int .i64 x, .int .i64 f, .int .u32 m, .slice p n c] 32)) (h.below HB0.out))
  clear h
  go_enter Try.func13, Try.ntmps13
  go_wp2_with (first
    | (go_at_call 20; (with_reducible refine (HC.out).mono ?_); rintro _ w1 ⟨rfl, hb1⟩; have HB1 := hidden (HB0.out.trans (hb1.mono HB0.out.size)); clear hb1)
    | fail)
  go_ret
  exact ⟨rfl, HB1.out⟩
end Go.Proofs.Ytnnbfhjbaagnkaa
