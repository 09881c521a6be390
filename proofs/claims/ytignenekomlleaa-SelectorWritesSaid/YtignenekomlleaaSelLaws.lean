/-
  What the laws on selectors share: the example of the chapter.
-/
import Derived.Test.YtignenekomlleaaMkSel
import Derived.Test.YtignenekomlleaaSelInside
namespace Go.Proofs.Ytignenekomlleaa
open Go.RowKit
set_option linter.unusedVariables false

def demoA : Sl := ⟨0, 0, 65535, ⟨4, 0, 167772160⟩, ⟨4, 0, 167772415⟩⟩
def demoB : Sl := ⟨0, 80, 90, ⟨4, 0, 167772168⟩, ⟨4, 0, 167772416⟩⟩
theorem demo_meet : meetS demoA demoB = (⟨0, 80, 90, ⟨4, 0, 167772168⟩, ⟨4, 0, 167772415⟩⟩, true) := by decide

set_option maxHeartbeats 800000 in
set_option maxRecDepth 100000 in
theorem awake05_any (w : World) : Calls Try.prog 16 #[] w fun e w' => e = .returned (.bool true) ∧ Below w.heap.size w w' := by
  have HM := hidden (meet_at demoA demoB _ _ demo_meet)
  have HB := hidden (below_two (w := w) (.cells #[.int .i64 demoA.p, .int .i64 demoA.a, .int .i64 demoA.b, .int .i64 demoA.lo.f, .int .u64 demoA.lo.h, .int .u64 demoA.lo.l, .int .i64 demoA.hi.f, .int .u64 demoA.hi.h, .int .u64 demoA.hi.l] 48) (.cells #[.int .i64 demoB.p, .int .i64 demoB.a, .int .i64 demoB.b, .int .i64 demoB.lo.f, .int .u64 demoB.lo.h, .int .u64 demoB.lo.l, .int .i64 demoB.hi.f, .int .u64 demoB.hi.h, .int .u64 demoB.hi.l] 48))
  have HA := hidden ((SlIn.new w demoA 48).alloc (.cells #[.int .i64 demoB.p, .int .i64 demoB.a, .int .i64 demoB.b, .int .i64 demoB.lo.f, .int .u64 demoB.lo.h, .int .u64 demoB.lo.l, .int .i64 demoB.hi.f, .int .u64 demoB.hi.h, .int .u64 demoB.hi.l] 48))
  have HC : Hid (SlIn ((w.alloc (.cells #[.int .i64 demoA.p, .int .i64 demoA.a, .int .i64 demoA.b, .int .i64 demoA.lo.f, .int .u64 demoA.lo.h, .int .u64 demoA.lo.l, .int .i64 demoA.hi.f, .int .u64 demoA.hi.h, .int .u64 demoA.hi.l] 48)).alloc (.cells #[.int .i64 demoB.p, .int .i64 demoB.a, .int .i64 demoB.b, .int .i64 demoB.lo.f, .int .u64 demoB.lo.h, .int .u64 demoB.lo.l, .int .i64 demoB.hi.f, .int .u64 demoB.hi.h, .int .u64 demoB.hi.l] 48)) (w.heap.size + 1) demoB) := hidden (by
    have := SlIn.new (w.alloc (.cells #[.int .i64 demoA.p, .int .i64 demoA.a, .int .i64 demoA.b, .int .i64 demoA.lo.f, .int .u64 demoA.lo.h, .int .u64 demoA.lo.l, .int .i64 demoA.hi.f, .int .u64 demoA.hi.h, .int .u64 demoA.hi.l] 48)) demoB 48
    simpa using this)
  go_enter Try.func16, Try.ntmps16
  go_wp2_with (go_at_call 43; (refine (HM.out _).mono ?_); rintro e w1 ⟨rfl, hb⟩; have HB1 := hidden (HB.out.trans (hb.mono HB.out.size)); obtain ⟨-, -, -, -, -, -, a6, a7, a8, -⟩ := (HA.out.below hb).alloc (.cells #[.int .i64 0, .int .i64 80, .int .i64 90, .int .i64 4, .int .u64 0, .int .u64 167772168, .int .i64 4, .int .u64 0, .int .u64 167772415] 48); obtain ⟨-, -, -, b3, b4, b5, -, -, -, -⟩ := (HC.out.below hb).alloc (.cells #[.int .i64 0, .int .i64 80, .int .i64 90, .int .i64 4, .int .u64 0, .int .u64 167772168, .int .i64 4, .int .u64 0, .int .u64 167772415] 48); simp only [demoA, demoB] at a6 a7 a8 b3 b4 b5; have hl := (HC.out.below hb).lt; clear hb)
  go_ret
  exact ⟨rfl, HB1.out.alloc HB1.out.size _⟩
end Go.Proofs.Ytignenekomlleaa
