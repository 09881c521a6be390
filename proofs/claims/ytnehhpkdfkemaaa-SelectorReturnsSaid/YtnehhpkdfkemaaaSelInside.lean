/-
  What package selector's Inside answers.
-/
import Derived.Test.YtnehhpkdfkemaaaSelMeet
namespace Go.Proofs.Ytnehhpkdfkemaaa
open Go.RowKit
set_option linter.unusedVariables false

set_option maxHeartbeats 1600000 in
set_option maxRecDepth 100000 in
theorem inside_any (a b : Sl) (w : World) :
    Calls Try.prog 43 #[(.agg #[.int .i64 a.p, .int .i64 a.a, .int .i64 a.b, .int .i64 a.lo.f, .int .u64 a.lo.h, .int .u64 a.lo.l, .int .i64 a.hi.f, .int .u64 a.hi.h, .int .u64 a.hi.l]), (.agg #[.int .i64 b.p, .int .i64 b.a, .int .i64 b.b, .int .i64 b.lo.f, .int .u64 b.lo.h, .int .u64 b.lo.l, .int .i64 b.hi.f, .int .u64 b.hi.h, .int .u64 b.hi.l])] w fun e w' => e = .returned (.bool (insideS a b)) ∧ Below w.heap.size w w' := by
  obtain ⟨c, ok, hm⟩ : ∃ c ok, meetS a b = (c, ok) := ⟨_, _, rfl⟩
  obtain ⟨z, hz⟩ : ∃ z, insideS a b = z := ⟨_, rfl⟩
  rw [hz]
  unfold insideS at hz
  rw [hm] at hz
  simp only at hz
  have HZ := hidden hz
  have HM := hidden (meet_at a b c ok hm)
  have HB := hidden (below_two (w := w) (.cells #[.int .i64 a.p, .int .i64 a.a, .int .i64 a.b, .int .i64 a.lo.f, .int .u64 a.lo.h, .int .u64 a.lo.l, .int .i64 a.hi.f, .int .u64 a.hi.h, .int .u64 a.hi.l] 58) (.cells #[.int .i64 b.p, .int .i64 b.a, .int .i64 b.b, .int .i64 b.lo.f, .int .u64 b.lo.h, .int .u64 b.lo.l, .int .i64 b.hi.f, .int .u64 b.hi.h, .int .u64 b.hi.l] 58))
  have HA := hidden ((SlIn.new w a 58).alloc (.cells #[.int .i64 b.p, .int .i64 b.a, .int .i64 b.b, .int .i64 b.lo.f, .int .u64 b.lo.h, .int .u64 b.lo.l, .int .i64 b.hi.f, .int .u64 b.hi.h, .int .u64 b.hi.l] 58))
  clear hm hz
  cases ok with
  | false =>
    go_enter Try.func43, Try.ntmps43
    go_wp2_with (go_at_call 42; (with_reducible refine (HM.out _).mono ?_); rintro e w1 ⟨rfl, hb⟩; have HB1 := hidden ((HB.out.trans (hb.mono HB.out.size))); clear hb)
    go_ret
    exact ⟨by rw [← HZ.out]; rfl, HB1.out.alloc HB1.out.size _⟩
  | true =>
    by_cases hc : c = a
    · subst hc
      go_enter Try.func43, Try.ntmps43
      go_wp2_with (go_at_call 42; (with_reducible refine (HM.out _).mono ?_); rintro e w1 ⟨rfl, hb⟩; have HB1 := hidden ((HB.out.trans (hb.mono HB.out.size))); obtain ⟨c0, c1, c2, c3, c4, c5, c6, c7, c8, cf⟩ := (HA.out.below hb).alloc (.cells #[.int .i64 c.p, .int .i64 c.a, .int .i64 c.b, .int .i64 c.lo.f, .int .u64 c.lo.h, .int .u64 c.lo.l, .int .i64 c.hi.f, .int .u64 c.hi.h, .int .u64 c.hi.l] 58); have hl := (HA.out.below hb).lt; clear hb)
      go_ret
      exact ⟨by rw [← HZ.out]; simp, HB1.out.alloc HB1.out.size _⟩
    · have HC := hidden hc
      clear hc
      go_enter Try.func43, Try.ntmps43
      go_wp2_with (go_at_call 42; (with_reducible refine (HM.out _).mono ?_); rintro e w1 ⟨rfl, hb⟩; have HB1 := hidden ((HB.out.trans (hb.mono HB.out.size))); obtain ⟨c0, c1, c2, c3, c4, c5, c6, c7, c8, cf⟩ := (HA.out.below hb).alloc (.cells #[.int .i64 c.p, .int .i64 c.a, .int .i64 c.b, .int .i64 c.lo.f, .int .u64 c.lo.h, .int .u64 c.lo.l, .int .i64 c.hi.f, .int .u64 c.hi.h, .int .u64 c.hi.l] 58); have hl := (HA.out.below hb).lt; clear hb)
      all_goals go_ret
      all_goals first
        | (refine ⟨?_, HB1.out.alloc HB1.out.size _⟩
           rw [← HZ.out, decide_eq_false HC.out]
           rfl)
        | (exfalso
           apply HC.out
           obtain ⟨cp, ca, cb, ⟨clf, clh, cll⟩, ⟨chf, chh, chl⟩⟩ := c
           obtain ⟨ap, aa, ab, ⟨alf, alh, all⟩, ⟨ahf, ahh, ahl⟩⟩ := a
           simp_all)
        | fail
end Go.Proofs.Ytnehhpkdfkemaaa
