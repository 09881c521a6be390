/-
  What the document's own questions on addresses and selectors answer.
-/
import Derived.Test.YtbpmanbpmlkmnaaGreatDoorMSelHas
namespace Go.Proofs.YtbpmanbpmlkmnaaGreatDoor
open Go.RowKit
set_option linter.unusedVariables false

theorem rvalid_any (x : Ad) (w : World) :
    Calls Tryz.prog 82 #[(.agg #[.int .i64 x.f, .int .u64 x.h, .int .u64 x.l])] w fun e w' => e = .returned (.bool (validA x)) ∧ Below w.heap.size w w' := by
  go_enter Tryz.func82, Tryz.ntmps82
  go_wp2
  all_goals go_ret
  all_goals refine ⟨?_, (Below.refl _ _).alloc (Nat.le_refl _) _⟩
  all_goals simp_all [validA]
  all_goals (rw [Bool.eq_iff_iff]; simp)

theorem rless_any (x y : Ad) (w : World) :
    Calls Tryz.prog 83 #[(.agg #[.int .i64 x.f, .int .u64 x.h, .int .u64 x.l]), (.agg #[.int .i64 y.f, .int .u64 y.h, .int .u64 y.l])] w fun e w' => e = .returned (.bool (ltA x y)) ∧ Below w.heap.size w w' := by
  obtain ⟨xf, xh, xl⟩ := x
  obtain ⟨yf, yh, yl⟩ := y
  by_cases h1 : xf ≠ yf
  · have e1 : (xf != yf) = true := by simpa using h1
    go_enter Tryz.func83, Tryz.ntmps83
    go_wp2
    go_ret
    exact ⟨by simp [ltA, h1], below_two _ _⟩
  obtain rfl : xf = yf := by omega
  have e1 : (xf != xf) = false := by simp
  by_cases h2 : xh ≠ yh
  · have e2 : (xh != yh) = true := by simpa using h2
    go_enter Tryz.func83, Tryz.ntmps83
    go_wp2
    go_ret
    exact ⟨by simp [ltA, h2], below_two _ _⟩
  obtain rfl : xh = yh := by omega
  have e2 : (xh != xh) = false := by simp
  go_enter Tryz.func83, Tryz.ntmps83
  go_wp2
  go_ret
  exact ⟨by simp [ltA], below_two _ _⟩

theorem checkR_cases (s : Sl) (b1 b2 b3 : Bool) (h1 : validA s.lo = b1) (h2 : validA s.hi = b2) (h3 : ltA s.hi s.lo = b3) (z : Int) (h : checkS s = z) :
    (b1 = false ∧ z = 15) ∨ (b1 = true ∧ b2 = false ∧ z = 15) ∨ (b1 = true ∧ b2 = true ∧ (s.lo.f != s.hi.f) = true ∧ z = 15) ∨ (b1 = true ∧ b2 = true ∧ (s.lo.f != s.hi.f) = false ∧ b3 = true ∧ z = 5) ∨
    (b1 = true ∧ b2 = true ∧ (s.lo.f != s.hi.f) = false ∧ b3 = false ∧ s.p < 0 ∧ z = 5) ∨ (b1 = true ∧ b2 = true ∧ (s.lo.f != s.hi.f) = false ∧ b3 = false ∧ ¬ s.p < 0 ∧ s.p > 255 ∧ z = 5) ∨
    (b1 = true ∧ b2 = true ∧ (s.lo.f != s.hi.f) = false ∧ b3 = false ∧ ¬ s.p < 0 ∧ ¬ s.p > 255 ∧ (s.a == 65535) = true ∧ (s.b == 0) = true ∧ z = 0) ∨
    (b1 = true ∧ b2 = true ∧ (s.lo.f != s.hi.f) = false ∧ b3 = false ∧ ¬ s.p < 0 ∧ ¬ s.p > 255 ∧ ((s.a == 65535) = false ∨ ((s.a == 65535) = true ∧ (s.b == 0) = false)) ∧ s.a < 0 ∧ z = 5) ∨
    (b1 = true ∧ b2 = true ∧ (s.lo.f != s.hi.f) = false ∧ b3 = false ∧ ¬ s.p < 0 ∧ ¬ s.p > 255 ∧ ((s.a == 65535) = false ∨ ((s.a == 65535) = true ∧ (s.b == 0) = false)) ∧ ¬ s.a < 0 ∧ s.b > 65535 ∧ z = 5) ∨
    (b1 = true ∧ b2 = true ∧ (s.lo.f != s.hi.f) = false ∧ b3 = false ∧ ¬ s.p < 0 ∧ ¬ s.p > 255 ∧ ((s.a == 65535) = false ∨ ((s.a == 65535) = true ∧ (s.b == 0) = false)) ∧ ¬ s.a < 0 ∧ ¬ s.b > 65535 ∧ s.a > s.b ∧ z = 5) ∨
    (b1 = true ∧ b2 = true ∧ (s.lo.f != s.hi.f) = false ∧ b3 = false ∧ ¬ s.p < 0 ∧ ¬ s.p > 255 ∧ ((s.a == 65535) = false ∨ ((s.a == 65535) = true ∧ (s.b == 0) = false)) ∧ ¬ s.a < 0 ∧ ¬ s.b > 65535 ∧ ¬ s.a > s.b ∧ z = 0) := by
  have h4 : portsOk s.a s.b = decide ((s.a = 65535 ∧ s.b = 0) ∨ (0 ≤ s.a ∧ s.a ≤ s.b ∧ s.b ≤ 65535)) := by
    unfold portsOk
    rw [Bool.eq_iff_iff]
    simp
    omega
  rcases checkS_cases s b1 b2 b3 _ h1 h2 h3 h4 z h with h | h | h | h | h | h | ⟨q1, q2, q3, q4, q5, q6, q7, q8⟩ | ⟨q1, q2, q3, q4, q5, q6, q7, q8⟩
  · exact Or.inl h
  · exact Or.inr (Or.inl h)
  · exact Or.inr (Or.inr (Or.inl h))
  · exact Or.inr (Or.inr (Or.inr (Or.inl h)))
  · exact Or.inr (Or.inr (Or.inr (Or.inr (Or.inl h))))
  · exact Or.inr (Or.inr (Or.inr (Or.inr (Or.inr (Or.inl h)))))
  · rw [decide_eq_false_iff_not] at q7
    refine Or.inr (Or.inr (Or.inr (Or.inr (Or.inr (Or.inr (Or.inr ?_))))))
    have q9 : (s.a == 65535) = false ∨ ((s.a == 65535) = true ∧ (s.b == 0) = false) := by
      by_cases e : s.a = 65535
      · exact Or.inr ⟨by simpa using e, by simp; omega⟩
      · exact Or.inl (by simpa using e)
    by_cases e1 : s.a < 0
    · exact Or.inl ⟨q1, q2, q3, q4, q5, q6, q9, e1, q8⟩
    by_cases e2 : s.b > 65535
    · exact Or.inr (Or.inl ⟨q1, q2, q3, q4, q5, q6, q9, e1, e2, q8⟩)
    · exact Or.inr (Or.inr (Or.inl ⟨q1, q2, q3, q4, q5, q6, q9, e1, e2, by omega, q8⟩))
  · rw [decide_eq_true_iff] at q7
    refine Or.inr (Or.inr (Or.inr (Or.inr (Or.inr (Or.inr ?_)))))
    by_cases e : s.a = 65535 ∧ s.b = 0
    · exact Or.inl ⟨q1, q2, q3, q4, q5, q6, by simpa using e.1, by simpa using e.2, q8⟩
    · have q9 : (s.a == 65535) = false ∨ ((s.a == 65535) = true ∧ (s.b == 0) = false) := by
        by_cases e : s.a = 65535
        · exact Or.inr ⟨by simpa using e, by simp; omega⟩
        · exact Or.inl (by simpa using e)
      exact Or.inr (Or.inr (Or.inr (Or.inr ⟨q1, q2, q3, q4, q5, q6, q9, by omega, by omega, by omega, q8⟩)))

set_option maxHeartbeats 3200000 in
theorem rscheck_at (s : Sl) (z : Int) (hz : checkS s = z) (w : World) :
    Calls Tryz.prog 54 #[(.agg #[.int .i64 s.p, .int .i64 s.a, .int .i64 s.b, .int .i64 s.lo.f, .int .u64 s.lo.h, .int .u64 s.lo.l, .int .i64 s.hi.f, .int .u64 s.hi.h, .int .u64 s.hi.l])] w fun e w' => e = .returned (.int .i64 z) ∧ Below w.heap.size w w' := by
  obtain ⟨b1, h1⟩ : ∃ b, validA s.lo = b := ⟨_, rfl⟩
  obtain ⟨b2, h2⟩ : ∃ b, validA s.hi = b := ⟨_, rfl⟩
  obtain ⟨b3, h3⟩ : ∃ b, ltA s.hi s.lo = b := ⟨_, rfl⟩
  have hc := checkR_cases s b1 b2 b3 h1 h2 h3 z hz
  have HV := hidden (rvalid_any s.lo)
  have HU := hidden (rvalid_any s.hi)
  have HL := hidden (rless_any s.hi s.lo)
  rw [h1] at HV
  rw [h2] at HU
  rw [h3] at HL
  have HB := hidden ((Below.refl w.heap.size w).alloc (Nat.le_refl _) (.cells #[.int .i64 s.p, .int .i64 s.a, .int .i64 s.b, .int .i64 s.lo.f, .int .u64 s.lo.h, .int .u64 s.lo.l, .int .i64 s.hi.f, .int .u64 s.hi.h, .int .u64 s.hi.l] 98))
  have HS := hidden (SlIn.new w s 98)
  clear h1 h2 h3 hz
  rcases hc with ⟨rfl, rfl⟩ | ⟨rfl, rfl, rfl⟩ | ⟨rfl, rfl, k1, rfl⟩ | ⟨rfl, rfl, k1, rfl, rfl⟩ | ⟨rfl, rfl, k1, rfl, k2, rfl⟩ | ⟨rfl, rfl, k1, rfl, k2, k3, rfl⟩ | ⟨rfl, rfl, k1, rfl, k2, k3, k4, k5, rfl⟩ | ⟨rfl, rfl, k1, rfl, k2, k3, k4 | ⟨k4, k8⟩, k5, rfl⟩ | ⟨rfl, rfl, k1, rfl, k2, k3, k4 | ⟨k4, k8⟩, k5, k6, rfl⟩ | ⟨rfl, rfl, k1, rfl, k2, k3, k4 | ⟨k4, k8⟩, k5, k6, k7, rfl⟩ | ⟨rfl, rfl, k1, rfl, k2, k3, k4 | ⟨k4, k8⟩, k5, k6, k7, rfl⟩
  all_goals
    go_enter Tryz.func54, Tryz.ntmps54
    go_wp2_with (first
      | (go_at_call 82; (first | (with_reducible refine (HV.out _).mono ?_) | (with_reducible refine (HU.out _).mono ?_)); rintro e w1 ⟨rfl, hb⟩; replace HB := hidden (HB.out.trans (hb.mono HB.out.size)); replace HS := hidden (HS.out.below hb); clear hb; (try clear c0 c1 c2 c3 c4 c5 c6 c7 c8 fr); obtain ⟨c0, c1, c2, c3, c4, c5, c6, c7, c8, fr⟩ := HS.out)
      | (go_at_call 83; (with_reducible refine (HL.out _).mono ?_); rintro e w1 ⟨rfl, hb⟩; replace HB := hidden (HB.out.trans (hb.mono HB.out.size)); replace HS := hidden (HS.out.below hb); clear hb; clear c0 c1 c2 c3 c4 c5 c6 c7 c8 fr; obtain ⟨c0, c1, c2, c3, c4, c5, c6, c7, c8, fr⟩ := HS.out))
    go_ret
    exact ⟨rfl, HB.out⟩
end Go.Proofs.YtbpmanbpmlkmnaaGreatDoor
