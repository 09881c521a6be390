/-
  The remainder of a product of two words by the small group's order: Div64 and Rem64 of math/bits.
-/
import Derived.Test.YtilnbmlbahflkaaDoorAGrpDiv
import Derived.Test.YtilnbmlbahflkaaDoorANum
import Derived.Deep.Cut
import Derived.Deep.CutRange
import Derived.Lib.Mul64
import Derived.Laws.BitsAllLaws
namespace Go.Proofs.YtilnbmlbahflkaaDoor
open Go.RowKit
set_option linter.unusedVariables false

theorem or_three (x y : Int) (h0 : 0 ≤ x) (h1 : x < 2305843009213693952) (y0 : 0 ≤ y) (y1 : y < 8) : bits .or .u64 (x * 8) y = x * 8 + y := by
  rw [u64_or (x * 8) y (by omega) (by omega) y0 (by omega), nat_join 3 _ _ (by omega) (by omega)]
  omega

set_option maxHeartbeats 800000 in
set_option maxRecDepth 100000 in
theorem leadq_any (w : World) : Calls Tryd.prog 93 #[.int .u64 2305843009213688669] w fun e w' => e = .returned (.int .i64 3) ∧ w' = w := by
  go_enter Tryd.func93, Tryd.ntmps93
  go_wp2
  go_ret
  exact ⟨by kernel_rfl, rfl⟩

/-- A digit of the quotient, when the loop has found it. -/
def QDigq (U u a : Int) : Prop := 0 ≤ a ∧ a * 18446744073709509352 ≤ U * 4294967296 + u ∧ U * 4294967296 + u < (a + 1) * 18446744073709509352
/-- The loop that finds it. -/
def QRunq (U u a b : Int) : Prop := 0 ≤ a ∧ a * 4294967295 + b = U ∧ 0 ≤ b ∧ b < 4294967296 ∧ U * 4294967296 + u < (a + 1) * 18446744073709509352

set_option maxHeartbeats 1600000 in
theorem div64q_any (hi lo : Int) (h0 : 0 ≤ hi) (h1 : hi < 2305843009213688669) (l0 : 0 ≤ lo) (l1 : lo < 18446744073709551616) (w : World) :
    Calls Tryd.prog 87 #[.int .u64 hi, .int .u64 lo, .int .u64 2305843009213688669] w fun e w' => (∃ q, e = .returned (.tuple #[q, .int .u64 ((hi * 18446744073709551616 + lo) % 2305843009213688669)])) ∧ Below w.heap.size w w' := by
  have HL := hidden (leadq_any w)
  have hgt : ¬ (2305843009213688669 : Int) ≤ hi := by omega
  by_cases hz : hi = 0
  · subst hz
    go_enter Tryd.func87, Tryd.ntmps87
    go_wp2
    go_region
    go_wp2
    go_ret2
    exact ⟨⟨_, by rw [Int.zero_mul, Int.zero_add]; rfl⟩, (Below.refl _ _).drew⟩
  · have hm : bits .and .u64 18446744073709509352 4294967295 = 4294925032 := by rw [low32 _ (by decide) (by decide)]; decide
    have ho := or_three hi (lo / 2305843009213693952) h0 (by omega) (by omega) (by omega)
    have hw : IntKind.u64.wrap (lo * 8) = lo * 8 % 18446744073709551616 := IntKind.wrap_u64 _
    obtain ⟨X, hX⟩ : ∃ X, lo * 8 % 18446744073709551616 = X := ⟨_, rfl⟩
    obtain ⟨U, hU⟩ : ∃ U, hi * 8 + lo / 2305843009213693952 = U := ⟨_, rfl⟩
    have hl := low32 X (by omega) (by omega)
    rw [hX] at hw
    rw [hU] at ho
    obtain ⟨u1, hu1⟩ : ∃ u, X / 4294967296 = u := ⟨_, rfl⟩
    obtain ⟨u0, hu0⟩ : ∃ u, X % 4294967296 = u := ⟨_, rfl⟩
    rw [hu0] at hl
    have hU0 : 0 ≤ U := by omega
    have hU1 : U < 18446744073709509352 := by omega
    have b0 : 0 ≤ u1 ∧ u1 < 4294967296 := by omega
    have b1 : 0 ≤ u0 ∧ u0 < 4294967296 := by omega
    have hall : (hi * 18446744073709551616 + lo) * 8 = (U * 4294967296 + u1) * 4294967296 + u0 := by omega
    have HALL := hidden hall
    clear hX hU hu0 hall
    go_enter Tryd.func87, Tryd.ntmps87
    go_upto_region 17 with (first
      | (go_at_call 93; (with_reducible refine (HL.out).mono ?_); rintro e w2 ⟨rfl, rfl⟩)
      | fail)
    go_wp2
    go_loopw [15, 16] (fun q r wr => ∃ a b : Int, q = .int .u64 a ∧ r = .int .u64 b ∧ Hid (QRunq U u1 a b) ∧ w2 = wr) (fun q _ _ => (intOf q).toNat)
    case atStart => exact ⟨_, _, rfl, rfl, by unfold Hid QRunq; omega, (by first | rfl | trivial)⟩
    case round =>
      obtain ⟨a1, b1, rfl, rfl, hrun1, rfl⟩ := hrel
      unfold Hid QRunq at hrun1
      obtain ⟨a01, hab1, bb01, bb11, hbig1⟩ := hrun1
      have HAB1 := hidden hab1
      have ha11 : a1 ≤ 4294967296 := by omega
      clear hab1
      by_cases hc11 : (4294967296 : Int) ≤ a1
      · obtain ⟨z1, hz1⟩ : ∃ z, a1 - 1 = z := ⟨_, rfl⟩
        have hw11 : IntKind.u64.wrap (a1 - 1) = z1 := by rw [← hz1]; exact wraps_u64 _ (by omega) (by omega)
        have hw21 : IntKind.u64.wrap (b1 + 4294967295) = b1 + 4294967295 := wraps_u64 _ (by omega) (by omega)
        by_cases hc31 : (4294967296 : Int) ≤ b1 + 4294967295
        · have HQ1 : Hid (QDigq U u1 z1) := by have := HAB1.out; unfold Hid QDigq; omega
          have HZ1 := hidden hz1
          clear hz1
          have hr1 : 0 ≤ U * 4294967296 + u1 - z1 * 18446744073709509352 ∧ U * 4294967296 + u1 - z1 * 18446744073709509352 < 18446744073709509352 := by have := HQ1.out; unfold QDigq at this; omega
          obtain ⟨V, hV⟩ : ∃ v, U * 4294967296 + u1 - z1 * 18446744073709509352 = v := ⟨_, rfl⟩
          have hun1 : IntKind.u64.wrap (IntKind.u64.wrap (IntKind.u64.wrap (U * 4294967296) + u1) - IntKind.u64.wrap (z1 * 18446744073709509352)) = V := by
            simp only [IntKind.wrap_u64]
            omega
          rw [hV] at hr1
          obtain ⟨hr1a, hr1b⟩ := hr1
          have HV := hidden hV
          clear hV
          go_wp2
          go_loopw [18, 16] (fun q r wr => ∃ a b : Int, q = .int .u64 a ∧ r = .int .u64 b ∧ Hid (QRunq V u0 a b) ∧ w2 = wr) (fun q _ _ => (intOf q).toNat)
          case atStart => exact ⟨_, _, rfl, rfl, by unfold Hid QRunq; omega, (by first | rfl | trivial)⟩
          case round =>
            obtain ⟨a2, b2, rfl, rfl, hrun2, rfl⟩ := hrel
            unfold Hid QRunq at hrun2
            obtain ⟨a02, hab2, bb02, bb12, hbig2⟩ := hrun2
            have HAB2 := hidden hab2
            have ha12 : a2 ≤ 4294967296 := by omega
            clear hab2
            by_cases hc12 : (4294967296 : Int) ≤ a2
            · obtain ⟨z2, hz2⟩ : ∃ z, a2 - 1 = z := ⟨_, rfl⟩
              have hw12 : IntKind.u64.wrap (a2 - 1) = z2 := by rw [← hz2]; exact wraps_u64 _ (by omega) (by omega)
              have hw22 : IntKind.u64.wrap (b2 + 4294967295) = b2 + 4294967295 := wraps_u64 _ (by omega) (by omega)
              by_cases hc32 : (4294967296 : Int) ≤ b2 + 4294967295
              · have HQ2 : Hid (QDigq V u0 z2) := by have := HAB2.out; unfold Hid QDigq; omega
                have HZ2 := hidden hz2
                clear hz2
                have hr2 : 0 ≤ V * 4294967296 + u0 - z2 * 18446744073709509352 ∧ V * 4294967296 + u0 - z2 * 18446744073709509352 < 18446744073709509352 := by have := HQ2.out; unfold QDigq at this; omega
                obtain ⟨VV, hVV⟩ : ∃ v, V * 4294967296 + u0 - z2 * 18446744073709509352 = v := ⟨_, rfl⟩
                have hun2 : IntKind.u64.wrap (IntKind.u64.wrap (IntKind.u64.wrap (V * 4294967296) + u0) - IntKind.u64.wrap (z2 * 18446744073709509352)) = VV := by
                  simp only [IntKind.wrap_u64]
                  omega
                rw [hVV] at hr2
                obtain ⟨hr2a, hr2b⟩ := hr2
                have HVV := hidden hVV
                clear hVV
                have HEND : Hid (VV / 8 = (hi * 18446744073709551616 + lo) % 2305843009213688669) := by have h1 := HV.out; have h2 := HVV.out; have h3 := HALL.out; unfold Hid; omega
                go_wp2
                go_ret2
                exact ⟨⟨_, by rw [HEND.out]; rfl⟩, Below.refl _ _⟩
              · have HZ2 := hidden hz2
                clear hz2
                go_wp2
                go_roundw
                case rel => exact ⟨_, _, rfl, rfl, by have := HAB2.out; have := HZ2.out; unfold Hid QRunq; omega, (by first | rfl | trivial)⟩
                case measure => have := HZ2.out; simp [intOf]; omega
            · have hm12 : IntKind.u64.wrap (a2 * 4294925032) = a2 * 4294925032 := wraps_u64 _ (by omega) (by omega)
              have hm22 : IntKind.u64.wrap (4294967296 * b2) = 4294967296 * b2 := wraps_u64 _ (by omega) (by omega)
              have hm32 : IntKind.u64.wrap (4294967296 * b2 + u0) = 4294967296 * b2 + u0 := wraps_u64 _ (by omega) (by omega)
              by_cases hc22 : a2 * 4294925032 > 4294967296 * b2 + u0
              · have hc42 : 0 < a2 := by omega
                obtain ⟨z2, hz2⟩ : ∃ z, a2 - 1 = z := ⟨_, rfl⟩
                have hw12 : IntKind.u64.wrap (a2 - 1) = z2 := by rw [← hz2]; exact wraps_u64 _ (by omega) (by omega)
                have hw22 : IntKind.u64.wrap (b2 + 4294967295) = b2 + 4294967295 := wraps_u64 _ (by omega) (by omega)
                by_cases hc32 : (4294967296 : Int) ≤ b2 + 4294967295
                · have HQ2 : Hid (QDigq V u0 z2) := by have := HAB2.out; unfold Hid QDigq; omega
                  have HZ2 := hidden hz2
                  clear hz2
                  have hr2 : 0 ≤ V * 4294967296 + u0 - z2 * 18446744073709509352 ∧ V * 4294967296 + u0 - z2 * 18446744073709509352 < 18446744073709509352 := by have := HQ2.out; unfold QDigq at this; omega
                  obtain ⟨VV, hVV⟩ : ∃ v, V * 4294967296 + u0 - z2 * 18446744073709509352 = v := ⟨_, rfl⟩
                  have hun2 : IntKind.u64.wrap (IntKind.u64.wrap (IntKind.u64.wrap (V * 4294967296) + u0) - IntKind.u64.wrap (z2 * 18446744073709509352)) = VV := by
                    simp only [IntKind.wrap_u64]
                    omega
                  rw [hVV] at hr2
                  obtain ⟨hr2a, hr2b⟩ := hr2
                  have HVV := hidden hVV
                  clear hVV
                  have HEND : Hid (VV / 8 = (hi * 18446744073709551616 + lo) % 2305843009213688669) := by have h1 := HV.out; have h2 := HVV.out; have h3 := HALL.out; unfold Hid; omega
                  go_wp2
                  go_ret2
                  exact ⟨⟨_, by rw [HEND.out]; rfl⟩, Below.refl _ _⟩
                · have HZ2 := hidden hz2
                  clear hz2
                  go_wp2
                  go_roundw
                  case rel => exact ⟨_, _, rfl, rfl, by have := HAB2.out; have := HZ2.out; unfold Hid QRunq; omega, (by first | rfl | trivial)⟩
                  case measure => have := HZ2.out; simp [intOf]; omega
              · have HQ2 : Hid (QDigq V u0 a2) := by have := HAB2.out; unfold Hid QDigq; omega
                have hr2 : 0 ≤ V * 4294967296 + u0 - a2 * 18446744073709509352 ∧ V * 4294967296 + u0 - a2 * 18446744073709509352 < 18446744073709509352 := by have := HQ2.out; unfold QDigq at this; omega
                obtain ⟨VV, hVV⟩ : ∃ v, V * 4294967296 + u0 - a2 * 18446744073709509352 = v := ⟨_, rfl⟩
                have hun2 : IntKind.u64.wrap (IntKind.u64.wrap (IntKind.u64.wrap (V * 4294967296) + u0) - IntKind.u64.wrap (a2 * 18446744073709509352)) = VV := by
                  simp only [IntKind.wrap_u64]
                  omega
                rw [hVV] at hr2
                obtain ⟨hr2a, hr2b⟩ := hr2
                have HVV := hidden hVV
                clear hVV
                have HEND : Hid (VV / 8 = (hi * 18446744073709551616 + lo) % 2305843009213688669) := by have h1 := HV.out; have h2 := HVV.out; have h3 := HALL.out; unfold Hid; omega
                go_wp2
                go_ret2
                exact ⟨⟨_, by rw [HEND.out]; rfl⟩, Below.refl _ _⟩

        · have HZ1 := hidden hz1
          clear hz1
          go_wp2
          go_roundw
          case rel => exact ⟨_, _, rfl, rfl, by have := HAB1.out; have := HZ1.out; unfold Hid QRunq; omega, (by first | rfl | trivial)⟩
          case measure => have := HZ1.out; simp [intOf]; omega
      · have hm11 : IntKind.u64.wrap (a1 * 4294925032) = a1 * 4294925032 := wraps_u64 _ (by omega) (by omega)
        have hm21 : IntKind.u64.wrap (4294967296 * b1) = 4294967296 * b1 := wraps_u64 _ (by omega) (by omega)
        have hm31 : IntKind.u64.wrap (4294967296 * b1 + u1) = 4294967296 * b1 + u1 := wraps_u64 _ (by omega) (by omega)
        by_cases hc21 : a1 * 4294925032 > 4294967296 * b1 + u1
        · have hc41 : 0 < a1 := by omega
          obtain ⟨z1, hz1⟩ : ∃ z, a1 - 1 = z := ⟨_, rfl⟩
          have hw11 : IntKind.u64.wrap (a1 - 1) = z1 := by rw [← hz1]; exact wraps_u64 _ (by omega) (by omega)
          have hw21 : IntKind.u64.wrap (b1 + 4294967295) = b1 + 4294967295 := wraps_u64 _ (by omega) (by omega)
          by_cases hc31 : (4294967296 : Int) ≤ b1 + 4294967295
          · have HQ1 : Hid (QDigq U u1 z1) := by have := HAB1.out; unfold Hid QDigq; omega
            have HZ1 := hidden hz1
            clear hz1
            have hr1 : 0 ≤ U * 4294967296 + u1 - z1 * 18446744073709509352 ∧ U * 4294967296 + u1 - z1 * 18446744073709509352 < 18446744073709509352 := by have := HQ1.out; unfold QDigq at this; omega
            obtain ⟨V, hV⟩ : ∃ v, U * 4294967296 + u1 - z1 * 18446744073709509352 = v := ⟨_, rfl⟩
            have hun1 : IntKind.u64.wrap (IntKind.u64.wrap (IntKind.u64.wrap (U * 4294967296) + u1) - IntKind.u64.wrap (z1 * 18446744073709509352)) = V := by
              simp only [IntKind.wrap_u64]
              omega
            rw [hV] at hr1
            obtain ⟨hr1a, hr1b⟩ := hr1
            have HV := hidden hV
            clear hV
            go_wp2
            go_loopw [18, 16] (fun q r wr => ∃ a b : Int, q = .int .u64 a ∧ r = .int .u64 b ∧ Hid (QRunq V u0 a b) ∧ w2 = wr) (fun q _ _ => (intOf q).toNat)
            case atStart => exact ⟨_, _, rfl, rfl, by unfold Hid QRunq; omega, (by first | rfl | trivial)⟩
            case round =>
              obtain ⟨a2, b2, rfl, rfl, hrun2, rfl⟩ := hrel
              unfold Hid QRunq at hrun2
              obtain ⟨a02, hab2, bb02, bb12, hbig2⟩ := hrun2
              have HAB2 := hidden hab2
              have ha12 : a2 ≤ 4294967296 := by omega
              clear hab2
              by_cases hc12 : (4294967296 : Int) ≤ a2
              · obtain ⟨z2, hz2⟩ : ∃ z, a2 - 1 = z := ⟨_, rfl⟩
                have hw12 : IntKind.u64.wrap (a2 - 1) = z2 := by rw [← hz2]; exact wraps_u64 _ (by omega) (by omega)
                have hw22 : IntKind.u64.wrap (b2 + 4294967295) = b2 + 4294967295 := wraps_u64 _ (by omega) (by omega)
                by_cases hc32 : (4294967296 : Int) ≤ b2 + 4294967295
                · have HQ2 : Hid (QDigq V u0 z2) := by have := HAB2.out; unfold Hid QDigq; omega
                  have HZ2 := hidden hz2
                  clear hz2
                  have hr2 : 0 ≤ V * 4294967296 + u0 - z2 * 18446744073709509352 ∧ V * 4294967296 + u0 - z2 * 18446744073709509352 < 18446744073709509352 := by have := HQ2.out; unfold QDigq at this; omega
                  obtain ⟨VV, hVV⟩ : ∃ v, V * 4294967296 + u0 - z2 * 18446744073709509352 = v := ⟨_, rfl⟩
                  have hun2 : IntKind.u64.wrap (IntKind.u64.wrap (IntKind.u64.wrap (V * 4294967296) + u0) - IntKind.u64.wrap (z2 * 18446744073709509352)) = VV := by
                    simp only [IntKind.wrap_u64]
                    omega
                  rw [hVV] at hr2
                  obtain ⟨hr2a, hr2b⟩ := hr2
                  have HVV := hidden hVV
                  clear hVV
                  have HEND : Hid (VV / 8 = (hi * 18446744073709551616 + lo) % 2305843009213688669) := by have h1 := HV.out; have h2 := HVV.out; have h3 := HALL.out; unfold Hid; omega
                  go_wp2
                  go_ret2
                  exact ⟨⟨_, by rw [HEND.out]; rfl⟩, Below.refl _ _⟩
                · have HZ2 := hidden hz2
                  clear hz2
                  go_wp2
                  go_roundw
                  case rel => exact ⟨_, _, rfl, rfl, by have := HAB2.out; have := HZ2.out; unfold Hid QRunq; omega, (by first | rfl | trivial)⟩
                  case measure => have := HZ2.out; simp [intOf]; omega
              · have hm12 : IntKind.u64.wrap (a2 * 4294925032) = a2 * 4294925032 := wraps_u64 _ (by omega) (by omega)
                have hm22 : IntKind.u64.wrap (4294967296 * b2) = 4294967296 * b2 := wraps_u64 _ (by omega) (by omega)
                have hm32 : IntKind.u64.wrap (4294967296 * b2 + u0) = 4294967296 * b2 + u0 := wraps_u64 _ (by omega) (by omega)
                by_cases hc22 : a2 * 4294925032 > 4294967296 * b2 + u0
                · have hc42 : 0 < a2 := by omega
                  obtain ⟨z2, hz2⟩ : ∃ z, a2 - 1 = z := ⟨_, rfl⟩
                  have hw12 : IntKind.u64.wrap (a2 - 1) = z2 := by rw [← hz2]; exact wraps_u64 _ (by omega) (by omega)
                  have hw22 : IntKind.u64.wrap (b2 + 4294967295) = b2 + 4294967295 := wraps_u64 _ (by omega) (by omega)
                  by_cases hc32 : (4294967296 : Int) ≤ b2 + 4294967295
                  · have HQ2 : Hid (QDigq V u0 z2) := by have := HAB2.out; unfold Hid QDigq; omega
                    have HZ2 := hidden hz2
                    clear hz2
                    have hr2 : 0 ≤ V * 4294967296 + u0 - z2 * 18446744073709509352 ∧ V * 4294967296 + u0 - z2 * 18446744073709509352 < 18446744073709509352 := by have := HQ2.out; unfold QDigq at this; omega
                    obtain ⟨VV, hVV⟩ : ∃ v, V * 4294967296 + u0 - z2 * 18446744073709509352 = v := ⟨_, rfl⟩
                    have hun2 : IntKind.u64.wrap (IntKind.u64.wrap (IntKind.u64.wrap (V * 4294967296) + u0) - IntKind.u64.wrap (z2 * 18446744073709509352)) = VV := by
                      simp only [IntKind.wrap_u64]
                      omega
                    rw [hVV] at hr2
                    obtain ⟨hr2a, hr2b⟩ := hr2
                    have HVV := hidden hVV
                    clear hVV
                    have HEND : Hid (VV / 8 = (hi * 18446744073709551616 + lo) % 2305843009213688669) := by have h1 := HV.out; have h2 := HVV.out; have h3 := HALL.out; unfold Hid; omega
                    go_wp2
                    go_ret2
                    exact ⟨⟨_, by rw [HEND.out]; rfl⟩, Below.refl _ _⟩
                  · have HZ2 := hidden hz2
                    clear hz2
                    go_wp2
                    go_roundw
                    case rel => exact ⟨_, _, rfl, rfl, by have := HAB2.out; have := HZ2.out; unfold Hid QRunq; omega, (by first | rfl | trivial)⟩
                    case measure => have := HZ2.out; simp [intOf]; omega
                · have HQ2 : Hid (QDigq V u0 a2) := by have := HAB2.out; unfold Hid QDigq; omega
                  have hr2 : 0 ≤ V * 4294967296 + u0 - a2 * 18446744073709509352 ∧ V * 4294967296 + u0 - a2 * 18446744073709509352 < 18446744073709509352 := by have := HQ2.out; unfold QDigq at this; omega
                  obtain ⟨VV, hVV⟩ : ∃ v, V * 4294967296 + u0 - a2 * 18446744073709509352 = v := ⟨_, rfl⟩
                  have hun2 : IntKind.u64.wrap (IntKind.u64.wrap (IntKind.u64.wrap (V * 4294967296) + u0) - IntKind.u64.wrap (a2 * 18446744073709509352)) = VV := by
                    simp only [IntKind.wrap_u64]
                    omega
                  rw [hVV] at hr2
                  obtain ⟨hr2a, hr2b⟩ := hr2
                  have HVV := hidden hVV
                  clear hVV
                  have HEND : Hid (VV / 8 = (hi * 18446744073709551616 + lo) % 2305843009213688669) := by have h1 := HV.out; have h2 := HVV.out; have h3 := HALL.out; unfold Hid; omega
                  go_wp2
                  go_ret2
                  exact ⟨⟨_, by rw [HEND.out]; rfl⟩, Below.refl _ _⟩

          · have HZ1 := hidden hz1
            clear hz1
            go_wp2
            go_roundw
            case rel => exact ⟨_, _, rfl, rfl, by have := HAB1.out; have := HZ1.out; unfold Hid QRunq; omega, (by first | rfl | trivial)⟩
            case measure => have := HZ1.out; simp [intOf]; omega
        · have HQ1 : Hid (QDigq U u1 a1) := by have := HAB1.out; unfold Hid QDigq; omega
          have hr1 : 0 ≤ U * 4294967296 + u1 - a1 * 18446744073709509352 ∧ U * 4294967296 + u1 - a1 * 18446744073709509352 < 18446744073709509352 := by have := HQ1.out; unfold QDigq at this; omega
          obtain ⟨V, hV⟩ : ∃ v, U * 4294967296 + u1 - a1 * 18446744073709509352 = v := ⟨_, rfl⟩
          have hun1 : IntKind.u64.wrap (IntKind.u64.wrap (IntKind.u64.wrap (U * 4294967296) + u1) - IntKind.u64.wrap (a1 * 18446744073709509352)) = V := by
            simp only [IntKind.wrap_u64]
            omega
          rw [hV] at hr1
          obtain ⟨hr1a, hr1b⟩ := hr1
          have HV := hidden hV
          clear hV
          go_wp2
          go_loopw [18, 16] (fun q r wr => ∃ a b : Int, q = .int .u64 a ∧ r = .int .u64 b ∧ Hid (QRunq V u0 a b) ∧ w2 = wr) (fun q _ _ => (intOf q).toNat)
          case atStart => exact ⟨_, _, rfl, rfl, by unfold Hid QRunq; omega, (by first | rfl | trivial)⟩
          case round =>
            obtain ⟨a2, b2, rfl, rfl, hrun2, rfl⟩ := hrel
            unfold Hid QRunq at hrun2
            obtain ⟨a02, hab2, bb02, bb12, hbig2⟩ := hrun2
            have HAB2 := hidden hab2
            have ha12 : a2 ≤ 4294967296 := by omega
            clear hab2
            by_cases hc12 : (4294967296 : Int) ≤ a2
            · obtain ⟨z2, hz2⟩ : ∃ z, a2 - 1 = z := ⟨_, rfl⟩
              have hw12 : IntKind.u64.wrap (a2 - 1) = z2 := by rw [← hz2]; exact wraps_u64 _ (by omega) (by omega)
              have hw22 : IntKind.u64.wrap (b2 + 4294967295) = b2 + 4294967295 := wraps_u64 _ (by omega) (by omega)
              by_cases hc32 : (4294967296 : Int) ≤ b2 + 4294967295
              · have HQ2 : Hid (QDigq V u0 z2) := by have := HAB2.out; unfold Hid QDigq; omega
                have HZ2 := hidden hz2
                clear hz2
                have hr2 : 0 ≤ V * 4294967296 + u0 - z2 * 18446744073709509352 ∧ V * 4294967296 + u0 - z2 * 18446744073709509352 < 18446744073709509352 := by have := HQ2.out; unfold QDigq at this; omega
                obtain ⟨VV, hVV⟩ : ∃ v, V * 4294967296 + u0 - z2 * 18446744073709509352 = v := ⟨_, rfl⟩
                have hun2 : IntKind.u64.wrap (IntKind.u64.wrap (IntKind.u64.wrap (V * 4294967296) + u0) - IntKind.u64.wrap (z2 * 18446744073709509352)) = VV := by
                  simp only [IntKind.wrap_u64]
                  omega
                rw [hVV] at hr2
                obtain ⟨hr2a, hr2b⟩ := hr2
                have HVV := hidden hVV
                clear hVV
                have HEND : Hid (VV / 8 = (hi * 18446744073709551616 + lo) % 2305843009213688669) := by have h1 := HV.out; have h2 := HVV.out; have h3 := HALL.out; unfold Hid; omega
                go_wp2
                go_ret2
                exact ⟨⟨_, by rw [HEND.out]; rfl⟩, Below.refl _ _⟩
              · have HZ2 := hidden hz2
                clear hz2
                go_wp2
                go_roundw
                case rel => exact ⟨_, _, rfl, rfl, by have := HAB2.out; have := HZ2.out; unfold Hid QRunq; omega, (by first | rfl | trivial)⟩
                case measure => have := HZ2.out; simp [intOf]; omega
            · have hm12 : IntKind.u64.wrap (a2 * 4294925032) = a2 * 4294925032 := wraps_u64 _ (by omega) (by omega)
              have hm22 : IntKind.u64.wrap (4294967296 * b2) = 4294967296 * b2 := wraps_u64 _ (by omega) (by omega)
              have hm32 : IntKind.u64.wrap (4294967296 * b2 + u0) = 4294967296 * b2 + u0 := wraps_u64 _ (by omega) (by omega)
              by_cases hc22 : a2 * 4294925032 > 4294967296 * b2 + u0
              · have hc42 : 0 < a2 := by omega
                obtain ⟨z2, hz2⟩ : ∃ z, a2 - 1 = z := ⟨_, rfl⟩
                have hw12 : IntKind.u64.wrap (a2 - 1) = z2 := by rw [← hz2]; exact wraps_u64 _ (by omega) (by omega)
                have hw22 : IntKind.u64.wrap (b2 + 4294967295) = b2 + 4294967295 := wraps_u64 _ (by omega) (by omega)
                by_cases hc32 : (4294967296 : Int) ≤ b2 + 4294967295
                · have HQ2 : Hid (QDigq V u0 z2) := by have := HAB2.out; unfold Hid QDigq; omega
                  have HZ2 := hidden hz2
                  clear hz2
                  have hr2 : 0 ≤ V * 4294967296 + u0 - z2 * 18446744073709509352 ∧ V * 4294967296 + u0 - z2 * 18446744073709509352 < 18446744073709509352 := by have := HQ2.out; unfold QDigq at this; omega
                  obtain ⟨VV, hVV⟩ : ∃ v, V * 4294967296 + u0 - z2 * 18446744073709509352 = v := ⟨_, rfl⟩
                  have hun2 : IntKind.u64.wrap (IntKind.u64.wrap (IntKind.u64.wrap (V * 4294967296) + u0) - IntKind.u64.wrap (z2 * 18446744073709509352)) = VV := by
                    simp only [IntKind.wrap_u64]
                    omega
                  rw [hVV] at hr2
                  obtain ⟨hr2a, hr2b⟩ := hr2
                  have HVV := hidden hVV
                  clear hVV
                  have HEND : Hid (VV / 8 = (hi * 18446744073709551616 + lo) % 2305843009213688669) := by have h1 := HV.out; have h2 := HVV.out; have h3 := HALL.out; unfold Hid; omega
                  go_wp2
                  go_ret2
                  exact ⟨⟨_, by rw [HEND.out]; rfl⟩, Below.refl _ _⟩
                · have HZ2 := hidden hz2
                  clear hz2
                  go_wp2
                  go_roundw
                  case rel => exact ⟨_, _, rfl, rfl, by have := HAB2.out; have := HZ2.out; unfold Hid QRunq; omega, (by first | rfl | trivial)⟩
                  case measure => have := HZ2.out; simp [intOf]; omega
              · have HQ2 : Hid (QDigq V u0 a2) := by have := HAB2.out; unfold Hid QDigq; omega
                have hr2 : 0 ≤ V * 4294967296 + u0 - a2 * 18446744073709509352 ∧ V * 4294967296 + u0 - a2 * 18446744073709509352 < 18446744073709509352 := by have := HQ2.out; unfold QDigq at this; omega
                obtain ⟨VV, hVV⟩ : ∃ v, V * 4294967296 + u0 - a2 * 18446744073709509352 = v := ⟨_, rfl⟩
                have hun2 : IntKind.u64.wrap (IntKind.u64.wrap (IntKind.u64.wrap (V * 4294967296) + u0) - IntKind.u64.wrap (a2 * 18446744073709509352)) = VV := by
                  simp only [IntKind.wrap_u64]
                  omega
                rw [hVV] at hr2
                obtain ⟨hr2a, hr2b⟩ := hr2
                have HVV := hidden hVV
                clear hVV
                have HEND : Hid (VV / 8 = (hi * 18446744073709551616 + lo) % 2305843009213688669) := by have h1 := HV.out; have h2 := HVV.out; have h3 := HALL.out; unfold Hid; omega
                go_wp2
                go_ret2
                exact ⟨⟨_, by rw [HEND.out]; rfl⟩, Below.refl _ _⟩

set_option maxHeartbeats 800000 in
theorem rem64q_any (x y : Int) (hx0 : 0 ≤ x) (hx : x < 18446744073709551616) (hy0 : 0 ≤ y) (hy : y < 18446744073709551616) (w : World) :
    Calls Tryd.prog 74 #[.int .u64 x, .int .u64 y, .int .u64 2305843009213688669] w fun e w' => e = .returned (.int .u64 ((x * 18446744073709551616 + y) % 2305843009213688669)) ∧ Below w.heap.size w w' := by
  have HD := hidden (div64q_any (x % 2305843009213688669) y (by omega) (by omega) hy0 hy w)
  have he : Hid ((x % 2305843009213688669 * 18446744073709551616 + y) % 2305843009213688669 = (x * 18446744073709551616 + y) % 2305843009213688669) := by unfold Hid; omega
  go_enter Tryd.func74, Tryd.ntmps74
  go_wp2_with (first
    | (go_at_call 87; (with_reducible refine (HD.out).mono ?_); rintro e w2 ⟨⟨q, rfl⟩, hb⟩; have HB := hidden hb; clear hb)
    | fail)
  go_ret
  exact ⟨by first | rfl | (rw [he.out]; rfl), HB.out⟩

end Go.Proofs.YtilnbmlbahflkaaDoor
