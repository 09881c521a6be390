/-
  What package selector's Has and Check answer.
-/
import Derived.Test.YtnehhpkdfkemaaaSelFns
import Derived.Test.YtnehhpkdfkemaaaSelIn
namespace Go.Proofs.Ytnehhpkdfkemaaa
open Go.RowKit
set_option linter.unusedVariables false

set_option maxHeartbeats 1600000 in
theorem has_any (s : Sl) (x : Ad) (p port : Int) (w : World) :
    Calls Try.prog 46 #[(.agg #[.int .i64 s.p, .int .i64 s.a, .int .i64 s.b, .int .i64 s.lo.f, .int .u64 s.lo.h, .int .u64 s.lo.l, .int .i64 s.hi.f, .int .u64 s.hi.h, .int .u64 s.hi.l]), (.agg #[.int .i64 x.f, .int .u64 x.h, .int .u64 x.l]), .int .i64 p, .int .i64 port] w fun e w' => e = .returned (.bool (hasS s x p port)) ∧ Below w.heap.size w w' := by
  obtain ⟨X, Y, hXY⟩ : ∃ X Y, spanP s = (X, Y) := ⟨_, _, rfl⟩
  obtain ⟨b, hb0⟩ : ∃ b, withinA x s.lo s.hi = b := ⟨_, rfl⟩
  obtain ⟨z, hz0⟩ : ∃ z, hasS s x p port = z := ⟨_, rfl⟩
  have HZ := hidden hz0
  rw [hasS, hb0, hXY] at hz0
  rw [HZ.out]
  have HP := hidden (ports_any s X Y hXY)
  have HWI := hidden (within_any x s.lo s.hi)
  rw [hb0] at HWI
  have HB := hidden (below_two (w := w) (.cells #[.int .i64 s.p, .int .i64 s.a, .int .i64 s.b, .int .i64 s.lo.f, .int .u64 s.lo.h, .int .u64 s.lo.l, .int .i64 s.hi.f, .int .u64 s.hi.h, .int .u64 s.hi.l] 58) (.cells #[.int .i64 x.f, .int .u64 x.h, .int .u64 x.l] 56))
  have HS := hidden ((SlIn.new w s 58).alloc (.cells #[.int .i64 x.f, .int .u64 x.h, .int .u64 x.l] 56))
  have HA : Hid (AdIn ((w.alloc (.cells #[.int .i64 s.p, .int .i64 s.a, .int .i64 s.b, .int .i64 s.lo.f, .int .u64 s.lo.h, .int .u64 s.lo.l, .int .i64 s.hi.f, .int .u64 s.hi.h, .int .u64 s.hi.l] 58)).alloc (.cells #[.int .i64 x.f, .int .u64 x.h, .int .u64 x.l] 56)) (w.heap.size + 1) x) := hidden (by
    have := AdIn.new (w.alloc (.cells #[.int .i64 s.p, .int .i64 s.a, .int .i64 s.b, .int .i64 s.lo.f, .int .u64 s.lo.h, .int .u64 s.lo.l, .int .i64 s.hi.f, .int .u64 s.hi.h, .int .u64 s.hi.l] 58)) x 56
    simpa using this)
  clear hb0 hXY HZ
  have hq : (s.p == 0) = true ∨ ((s.p == 0) = false ∧ (s.p == p) = true) ∨ ((s.p == 0) = false ∧ (s.p == p) = false) := by
    cases (s.p == 0) <;> cases (s.p == p) <;> simp
  have hX : X ≤ port ∨ ¬ X ≤ port := by omega
  have HR := hidden hz0
  clear hz0
  cases b
  all_goals (try rcases hq with hq | ⟨hq, hq2⟩ | ⟨hq, hq2⟩)
  all_goals (try rcases hX with hX | hX)
  all_goals
    go_enter Try.func46, Try.ntmps46
    go_wp2_with (first
      | (go_at_call 71; (with_reducible refine (HP.out _).mono ?_); rintro e w1 ⟨rfl, hb⟩; have HB1 := hidden (HB.out.trans (hb.mono HB.out.size)); have HS1 := hidden ((HS.out.below hb).alloc (.cells #[.int .i64 X, .int .i64 Y] 110)); obtain ⟨x0, x1, x2, xf⟩ := (HA.out.below hb).alloc (.cells #[.int .i64 X, .int .i64 Y] 110); obtain ⟨c0, c1, c2, c3, c4, c5, c6, c7, c8, fr⟩ := HS1.out; have hw1 := hb.size; clear hb HS HB HP c1 c2)
      | (go_at_call 74; (with_reducible refine (HWI.out _).mono ?_); rintro e w2 ⟨rfl, hb⟩; obtain ⟨e0, e1, ef⟩ := (TwoIn.new w1 X Y 110).below hb; have s0 := (HS1.out.below hb).c0; have HB2 := hidden ((HB1.out.alloc HB1.out.size (.cells #[.int .i64 X, .int .i64 Y] 110)).trans (hb.mono (HB1.out.alloc HB1.out.size (.cells #[.int .i64 X, .int .i64 Y] 110)).size)); clear hb HS1 HB1 HWI c0 c3 c4 c5 c6 c7 c8 fr x0 x1 x2 xf))
    go_ret
    refine ⟨?_, HB2.out⟩
    rw [← HR.out]
    simp_all
    try omega

theorem checkS_cases (s : Sl) (b1 b2 b3 b4 : Bool) (h1 : validA s.lo = b1) (h2 : validA s.hi = b2) (h3 : ltA s.hi s.lo = b3) (h4 : portsOk s.a s.b = b4) (z : Int) (h : checkS s = z) :
    (b1 = false ∧ z = 15) ∨ (b1 = true ∧ b2 = false ∧ z = 15) ∨ (b1 = true ∧ b2 = true ∧ (s.lo.f != s.hi.f) = true ∧ z = 15) ∨ (b1 = true ∧ b2 = true ∧ (s.lo.f != s.hi.f) = false ∧ b3 = true ∧ z = 5) ∨
    (b1 = true ∧ b2 = true ∧ (s.lo.f != s.hi.f) = false ∧ b3 = false ∧ s.p < 0 ∧ z = 5) ∨ (b1 = true ∧ b2 = true ∧ (s.lo.f != s.hi.f) = false ∧ b3 = false ∧ ¬ s.p < 0 ∧ s.p > 255 ∧ z = 5) ∨
    (b1 = true ∧ b2 = true ∧ (s.lo.f != s.hi.f) = false ∧ b3 = false ∧ ¬ s.p < 0 ∧ ¬ s.p > 255 ∧ b4 = false ∧ z = 5) ∨ (b1 = true ∧ b2 = true ∧ (s.lo.f != s.hi.f) = false ∧ b3 = false ∧ ¬ s.p < 0 ∧ ¬ s.p > 255 ∧ b4 = true ∧ z = 0) := by
  unfold checkS at h
  rw [h1, h2, h3, h4] at h
  subst h
  by_cases hf : s.lo.f = s.hi.f <;> by_cases hp : s.p < 0 <;> by_cases hq : s.p > 255 <;> cases b1 <;> cases b2 <;> cases b3 <;> cases b4 <;> simp_all

set_option maxHeartbeats 1600000 in
theorem scheck_at (s : Sl) (z : Int) (hz : checkS s = z) (w : World) :
    Calls Try.prog 35 #[(.agg #[.int .i64 s.p, .int .i64 s.a, .int .i64 s.b, .int .i64 s.lo.f, .int .u64 s.lo.h, .int .u64 s.lo.l, .int .i64 s.hi.f, .int .u64 s.hi.h, .int .u64 s.hi.l])] w fun e w' => e = .returned (.int .i64 z) ∧ Below w.heap.size w w' := by
  obtain ⟨b1, h1⟩ : ∃ b, validA s.lo = b := ⟨_, rfl⟩
  obtain ⟨b2, h2⟩ : ∃ b, validA s.hi = b := ⟨_, rfl⟩
  obtain ⟨b3, h3⟩ : ∃ b, ltA s.hi s.lo = b := ⟨_, rfl⟩
  obtain ⟨b4, h4⟩ : ∃ b, portsOk s.a s.b = b := ⟨_, rfl⟩
  have hc := checkS_cases s b1 b2 b3 b4 h1 h2 h3 h4 z hz
  have HV := hidden (valid_any s.lo)
  have HU := hidden (valid_any s.hi)
  have HL := hidden (sless_any s.hi s.lo)
  have HQ := hidden (arePorts_any s.a s.b)
  rw [h1] at HV
  rw [h2] at HU
  rw [h3] at HL
  rw [h4] at HQ
  have HB := hidden ((Below.refl w.heap.size w).alloc (Nat.le_refl _) (.cells #[.int .i64 s.p, .int .i64 s.a, .int .i64 s.b, .int .i64 s.lo.f, .int .u64 s.lo.h, .int .u64 s.lo.l, .int .i64 s.hi.f, .int .u64 s.hi.h, .int .u64 s.hi.l] 58))
  have HS := hidden (SlIn.new w s 58)
  clear h1 h2 h3 h4 hz
  rcases hc with ⟨rfl, rfl⟩ | ⟨rfl, rfl, rfl⟩ | ⟨rfl, rfl, k1, rfl⟩ | ⟨rfl, rfl, k1, rfl, rfl⟩ | ⟨rfl, rfl, k1, rfl, k2, rfl⟩ | ⟨rfl, rfl, k1, rfl, k2, k3, rfl⟩ | ⟨rfl, rfl, k1, rfl, k2, k3, rfl, rfl⟩ | ⟨rfl, rfl, k1, rfl, k2, k3, rfl, rfl⟩
  all_goals
    go_enter Try.func35, Try.ntmps35
    go_wp2_with (first
      | (go_at_call 37; (first | (with_reducible refine (HV.out _).mono ?_) | (with_reducible refine (HU.out _).mono ?_)); rintro e w1 ⟨rfl, hb⟩; replace HB := hidden (HB.out.trans (hb.mono HB.out.size)); replace HS := hidden (HS.out.below hb); clear hb; (try clear c0 c1 c2 c3 c4 c5 c6 c7 c8 fr); obtain ⟨c0, c1, c2, c3, c4, c5, c6, c7, c8, fr⟩ := HS.out)
      | (go_at_call 39; (with_reducible refine (HL.out _).mono ?_); rintro e w1 ⟨rfl, hb⟩; replace HB := hidden (HB.out.trans (hb.mono HB.out.size)); replace HS := hidden (HS.out.below hb); clear hb; clear c0 c1 c2 c3 c4 c5 c6 c7 c8 fr; obtain ⟨c0, c1, c2, c3, c4, c5, c6, c7, c8, fr⟩ := HS.out)
      | (go_at_call 68; (with_reducible refine (HQ.out _).mono ?_); rintro e w1 ⟨rfl, rfl⟩))
    go_ret
    exact ⟨rfl, HB.out⟩
theorem scheck_any (s : Sl) (w : World) :
    Calls Try.prog 35 #[(.agg #[.int .i64 s.p, .int .i64 s.a, .int .i64 s.b, .int .i64 s.lo.f, .int .u64 s.lo.h, .int .u64 s.lo.l, .int .i64 s.hi.f, .int .u64 s.hi.h, .int .u64 s.hi.l])] w fun e w' => e = .returned (.int .i64 (checkS s)) ∧ Below w.heap.size w w' := scheck_at s _ rfl w
end Go.Proofs.Ytnehhpkdfkemaaa
