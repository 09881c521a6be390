/-
  What package selector's Has and Check answer.
-/
import Derived.Test.YtbpmanbpmlkmnaaGreatDoorMZ2
namespace Go.Proofs.YtbpmanbpmlkmnaaGreatDoor
open Go.RowKit
set_option linter.unusedVariables false

theorem checkS_cases (s : Sl) (b1 b2 b3 b4 : Bool) (h1 : validA s.lo = b1) (h2 : validA s.hi = b2) (h3 : ltA s.hi s.lo = b3) (h4 : portsOk s.a s.b = b4) (z : Int) (h : checkS s = z) :
    (b1 = false ∧ z = 15) ∨ (b1 = true ∧ b2 = false ∧ z = 15) ∨ (b1 = true ∧ b2 = true ∧ (s.lo.f != s.hi.f) = true ∧ z = 15) ∨ (b1 = true ∧ b2 = true ∧ (s.lo.f != s.hi.f) = false ∧ b3 = true ∧ z = 5) ∨
    (b1 = true ∧ b2 = true ∧ (s.lo.f != s.hi.f) = false ∧ b3 = false ∧ s.p < 0 ∧ z = 5) ∨ (b1 = true ∧ b2 = true ∧ (s.lo.f != s.hi.f) = false ∧ b3 = false ∧ ¬ s.p < 0 ∧ s.p > 255 ∧ z = 5) ∨
    (b1 = true ∧ b2 = true ∧ (s.lo.f != s.hi.f) = false ∧ b3 = false ∧ ¬ s.p < 0 ∧ ¬ s.p > 255 ∧ b4 = false ∧ z = 5) ∨ (b1 = true ∧ b2 = true ∧ (s.lo.f != s.hi.f) = false ∧ b3 = false ∧ ¬ s.p < 0 ∧ ¬ s.p > 255 ∧ b4 = true ∧ z = 0) := by
  unfold checkS at h
  rw [h1, h2, h3, h4] at h
  subst h
  by_cases hf : s.lo.f = s.hi.f <;> by_cases hp : s.p < 0 <;> by_cases hq : s.p > 255 <;> cases b1 <;> cases b2 <;> cases b3 <;> cases b4 <;> simp_all

set_option maxHeartbeats 1600000 in
theorem scheck_at (s : Sl) (z : Int) (hz : checkS s = z) (w : World) :
    Calls Tryz.prog 104 #[(.agg #[.int .i64 s.p, .int .i64 s.a, .int .i64 s.b, .int .i64 s.lo.f, .int .u64 s.lo.h, .int .u64 s.lo.l, .int .i64 s.hi.f, .int .u64 s.hi.h, .int .u64 s.hi.l])] w fun e w' => e = .returned (.int .i64 z) ∧ Below w.heap.size w w' := by
  obtain ⟨b1, h1⟩ : ∃ b, validA s.lo = b := ⟨_, rfl⟩
  obtain ⟨b2, h2⟩ : ∃ b, validA s.hi = b := ⟨_, rfl⟩
  obtain ⟨b3, h3⟩ : ∃ b, ltA s.hi s.lo = b := ⟨_, rfl⟩
  obtain ⟨b4, h4⟩ : ∃ b, portsOk s.a s.b = b := ⟨_, rfl⟩
  have hc := checkS_cases s b1 b2 b3 b4 h1 h2 h3 h4 z hz
  have HV := hidden (valid_any s.lo)
  have HU := hidden (valid_any s.hi)
  have HL := hidden (sless_any s.hi s.lo)
  have HQ := hidden (arePorts_any s.a s.b)
  rw [h1] at HV
  rw [h2] at HU
  rw [h3] at HL
  rw [h4] at HQ
  have HB := hidden ((Below.refl w.heap.size w).alloc (Nat.le_refl _) (.cells #[.int .i64 s.p, .int .i64 s.a, .int .i64 s.b, .int .i64 s.lo.f, .int .u64 s.lo.h, .int .u64 s.lo.l, .int .i64 s.hi.f, .int .u64 s.hi.h, .int .u64 s.hi.l] 98))
  have HS := hidden (SlIn.new w s 98)
  clear h1 h2 h3 h4 hz
  rcases hc with ⟨rfl, rfl⟩ | ⟨rfl, rfl, rfl⟩ | ⟨rfl, rfl, k1, rfl⟩ | ⟨rfl, rfl, k1, rfl, rfl⟩ | ⟨rfl, rfl, k1, rfl, k2, rfl⟩ | ⟨rfl, rfl, k1, rfl, k2, k3, rfl⟩ | ⟨rfl, rfl, k1, rfl, k2, k3, rfl, rfl⟩ | ⟨rfl, rfl, k1, rfl, k2, k3, rfl, rfl⟩
  all_goals
    go_enter Tryz.func104, Tryz.ntmps104
    go_wp2_with (first
      | (go_at_call 116; (first | (with_reducible refine (HV.out _).mono ?_) | (with_reducible refine (HU.out _).mono ?_)); rintro e w1 ⟨rfl, hb⟩; replace HB := hidden (HB.out.trans (hb.mono HB.out.size)); replace HS := hidden (HS.out.below hb); clear hb; (try clear c0 c1 c2 c3 c4 c5 c6 c7 c8 fr); obtain ⟨c0, c1, c2, c3, c4, c5, c6, c7, c8, fr⟩ := HS.out)
      | (go_at_call 117; (with_reducible refine (HL.out _).mono ?_); rintro e w1 ⟨rfl, hb⟩; replace HB := hidden (HB.out.trans (hb.mono HB.out.size)); replace HS := hidden (HS.out.below hb); clear hb; clear c0 c1 c2 c3 c4 c5 c6 c7 c8 fr; obtain ⟨c0, c1, c2, c3, c4, c5, c6, c7, c8, fr⟩ := HS.out)
      | (go_at_call 118; (with_reducible refine (HQ.out _).mono ?_); rintro e w1 ⟨rfl, rfl⟩))
    go_ret
    exact ⟨rfl, HB.out⟩
end Go.Proofs.YtbpmanbpmlkmnaaGreatDoor
