/-
  The remainder of a product of two words by the modulus of the small group: Mul64, Div64 and Rem64 of math/bits.
-/
import Derived.Test.YtgpigjoonhghhaaDoorRows
import Derived.Test.YtgpigjoonhghhaaDoorQAZ0
import Derived.Test.YtgpigjoonhghhaaDoorQANum
import Derived.Deep.Cut
import Derived.Deep.CutRange
import Derived.Lib.Mul64
import Derived.Laws.BitsAllLaws
namespace Go.Proofs.YtgpigjoonhghhaaDoor
open Go.RowKit
set_option linter.unusedVariables false
theorem low32 (x : Int) (h0 : 0 ≤ x) (h1 : x < 18446744073709551616) : bits .and .u64 x 4294967295 = x % 4294967296 := by
  rw [u64_and x 4294967295 h0 h1 (by decide) (by decide)]
  have e : x.toNat &&& (4294967295 : Int).toNat = x.toNat % 4294967296 := Nat.and_two_pow_sub_one_eq_mod x.toNat 32
  rw [e]
  omega
theorem or_two (x y : Int) (h0 : 0 ≤ x) (h1 : x < 4611686018427387904) (y0 : 0 ≤ y) (y1 : y < 4) : bits .or .u64 (x * 4) y = x * 4 + y := by
  rw [u64_or (x * 4) y (by omega) (by omega) y0 (by omega), nat_join 2 _ _ (by omega) (by omega)]
  omega
set_option maxHeartbeats 800000 in
set_option maxRecDepth 100000 in
theorem lead_any (w : World) : Calls Tryd.prog 77 #[.int .u64 4611686018427377339] w fun e w' => e = .returned (.int .i64 2) ∧ w' = w := by
  go_enter Tryd.func77, Tryd.ntmps77
  go_wp2
  go_ret
  exact ⟨by kernel_rfl, rfl⟩
def QDig (U u a : Int) : Prop := 0 ≤ a ∧ a * 18446744073709509356 ≤ U * 4294967296 + u ∧ U * 4294967296 + u < (a + 1) * 18446744073709509356
def QRun (U u a b : Int) : Prop := 0 ≤ a ∧ a * 4294967295 + b = U ∧ 0 ≤ b ∧ b < 4294967296 ∧ U * 4294967296 + u < (a + 1) * 18446744073709509356
set_option maxHeartbeats 1600000 in
theorem div64_any (hi lo : Int) (h0 : 0 ≤ hi) (h1 : hi < 4611686018427377339) (l0 : 0 ≤ lo) (l1 : lo < 18446744073709551616) (w : World) :
    Calls Tryd.prog 73 #[.int .u64 hi, .int .u64 lo, .int .u64 4611686018427377339] w fun e w' => (∃ q, e = .returned (.tuple #[q, .int .u64 ((hi * 18446744073709551616 + lo) % 4611686018427377339)])) ∧ Below w.heap.size w w' := by
  have HL := hidden (lead_any w)
  have hgt : ¬ (4611686018427377339 : Int) ≤ hi := by omega
  by_cases hz : hi = 0
  · subst hz
    go_enter Tryd.func73, Tryd.ntmps73
    go_wp2
    go_region
    go_wp2
    go_ret2
    exact ⟨⟨_, by rw [Int.zero_mul, Int.zero_add]; rfl⟩, (Below.refl _ _).drew⟩
  · have hm : bits .and .u64 18446744073709509356 4294967295 = 4294925036 := by rw [low32 _ (by decide) (by decide)]; decide
    have ho := or_two hi (lo / 4611686018427387904) h0 (by omega) (by omega) (by omega)
    have hw : IntKind.u64.wrap (lo * 4) = lo * 4 % 18446744073709551616 := IntKind.wrap_u64 _
    obtain ⟨X, hX⟩ : ∃ X, lo * 4 % 18446744073709551616 = X := ⟨_, rfl⟩
    obtain ⟨U, hU⟩ : ∃ U, hi * 4 + lo / 4611686018427387904 = U := ⟨_, rfl⟩
    have hl := low32 X (by omega) (by omega)
    rw [hX] at hw
    rw [hU] at ho
    obtain ⟨u1, hu1⟩ : ∃ u, X / 4294967296 = u := ⟨_, rfl⟩
    obtain ⟨u0, hu0⟩ : ∃ u, X % 4294967296 = u := ⟨_, rfl⟩
    rw [hu0] at hl
    have hU0 : 0 ≤ U := by omega
    have hU1 : U < 18446744073709509356 := by omega
    have b0 : 0 ≤ u1 ∧ u1 < 4294967296 := by omega
    have b1 : 0 ≤ u0 ∧ u0 < 4294967296 := by omega
    have hall : (hi * 18446744073709551616 + lo) * 4 = (U * 4294967296 + u1) * 4294967296 + u0 := by omega
    have HALL := hidden hall
    clear hX hU hu0 hall
    go_enter Tryd.func73, Tryd.ntmps73
    go_upto_region 17 with (first
      | (go_at_call 77; (with_reducible refine (HL.out).mono ?_); rintro e w2 ⟨rfl, rfl⟩)
      | fail)
    go_wp2
    go_loopw [15, 16] (fun q r wr => ∃ a b : Int, q = .int .u64 a ∧ r = .int .u64 b ∧ Hid (QRun U u1 a b) ∧ w2 = wr) (fun q _ _ => (intOf q).toNat)
    case atStart => exact ⟨_, _, rfl, rfl, by unfold Hid QRun; omega, (by first | rfl | trivial)⟩
    case round =>
      obtain ⟨a1, b1, rfl, rfl, hrun1, rfl⟩ := hrel
      unfold Hid QRun at hrun1
      obtain ⟨a01, hab1, bb01, bb11, hbig1⟩ := hrun1
      have HAB1 := hidden hab1
      have ha11 : a1 ≤ 4294967296 := by omega
      clear hab1
      by_cases hc11 : (4294967296 : Int) ≤ a1
      · obtain ⟨z1, hz1⟩ : ∃ z, a1 - 1 = z := ⟨_, rfl⟩
        have hw11 : IntKind.u64.wrap (a1 - 1) = z1 := by rw [← hz1]; exact wraps_u64 _ (by omega) (by omega)
        have hw21 : IntKind.u64.wrap (b1 + 4294967295) = b1 + 4294967295 := wraps_u64 _ (by omega) (by omega)
        by_cases hc31 : (4294967296 : Int) ≤ b1 + 4294967295
        · have HQ1 : Hid (QDig U u1 z1) := by have := HAB1.out; unfold Hid QDig; omega
          have HZ1 := hidden hz1
          clear hz1
          have hr1 : 0 ≤ U * 4294967296 + u1 - z1 * 18446744073709509356 ∧ U * 4294967296 + u1 - z1 * 18446744073709509356 < 18446744073709509356 := by have := HQ1.out; unfold QDig at this; omega
          obtain ⟨V, hV⟩ : ∃ v, U * 4294967296 + u1 - z1 * 18446744073709509356 = v := ⟨_, rfl⟩
          have hun1 : IntKind.u64.wrap (IntKind.u64.wrap (IntKind.u64.wrap (U * 4294967296) + u1) - IntKind.u64.wrap (z1 * 18446744073709509356)) = V := by
            simp only [IntKind.wrap_u64]
            omega
          rw [hV] at hr1
          obtain ⟨hr1a, hr1b⟩ := hr1
          have HV := hidden hV
          clear hV
          go_wp2
          go_loopw [18, 16] (fun q r wr => ∃ a b : Int, q = .int .u64 a ∧ r = .int .u64 b ∧ Hid (QRun V u0 a b) ∧ w2 = wr) (fun q _ _ => (intOf q).toNat)
          case atStart => exact ⟨_, _, rfl, rfl, by unfold Hid QRun; omega, (by first | rfl | trivial)⟩
          case round =>
            obtain ⟨a2, b2, rfl, rfl, hrun2, rfl⟩ := hrel
            unfold Hid QRun at hrun2
            obtain ⟨a02, hab2, bb02, bb12, hbig2⟩ := hrun2
            have HAB2 := hidden hab2
            have ha12 : a2 ≤ 4294967296 := by omega
            clear hab2
            by_cases hc12 : (4294967296 : Int) ≤ a2
            · obtain ⟨z2, hz2⟩ : ∃ z, a2 - 1 = z := ⟨_, rfl⟩
              have hw12 : IntKind.u64.wrap (a2 - 1) = z2 := by rw [← hz2]; exact wraps_u64 _ (by omega) (by omega)
              have hw22 : IntKind.u64.wrap (b2 + 4294967295) = b2 + 4294967295 := wraps_u64 _ (by omega) (by omega)
              by_cases hc32 : (4294967296 : Int) ≤ b2 + 4294967295
              · have HQ2 : Hid (QDig V u0 z2) := by have := HAB2.out; unfold Hid QDig; omega
                have HZ2 := hidden hz2
                clear hz2
                have hr2 : 0 ≤ V * 4294967296 + u0 - z2 * 18446744073709509356 ∧ V * 4294967296 + u0 - z2 * 18446744073709509356 < 18446744073709509356 := by have := HQ2.out; unfold QDig at this; omega
                obtain ⟨VV, hVV⟩ : ∃ v, V * 4294967296 + u0 - z2 * 18446744073709509356 = v := ⟨_, rfl⟩
                have hun2 : IntKind.u64.wrap (IntKind.u64.wrap (IntKind.u64.wrap (V * 4294967296) + u0) - IntKind.u64.wrap (z2 * 18446744073709509356)) = VV := by
                  simp only [IntKind.wrap_u64]
                  omega
                rw [hVV] at hr2
                obtain ⟨hr2a, hr2b⟩ := hr2
                have HVV := hidden hVV
                clear hVV
                have HEND : Hid (VV / 4 = (hi * 18446744073709551616 + lo) % 4611686018427377339) := by have h1 := HV.out; have h2 := HVV.out; have h3 := HALL.out; unfold Hid; omega
                go_wp2
                go_ret2
                exact ⟨⟨_, by rw [HEND.out]; rfl⟩, Below.refl _ _⟩
              · have HZ2 := hidden hz2
                clear hz2
                go_wp2
                go_roundw
                case rel => exact ⟨_, _, rfl, rfl, by have := HAB2.out; have := HZ2.out; unfold Hid QRun; omega, (by first | rfl | trivial)⟩
                case measure => have := HZ2.out; simp [intOf]; omega
            · have hm12 : IntKind.u64.wrap (a2 * 4294925036) = a2 * 4294925036 := wraps_u64 _ (by omega) (by omega)
              have hm22 : IntKind.u64.wrap (4294967296 * b2) = 4294967296 * b2 := wraps_u64 _ (by omega) (by omega)
              have hm32 : IntKind.u64.wrap (4294967296 * b2 + u0) = 4294967296 * b2 + u0 := wraps_u64 _ (by omega) (by omega)
              by_cases hc22 : a2 * 4294925036 > 4294967296 * b2 + u0
              · have hc42 : 0 < a2 := by omega
                obtain ⟨z2, hz2⟩ : ∃ z, a2 - 1 = z := ⟨_, rfl⟩
                have hw12 : IntKind.u64.wrap (a2 - 1) = z2 := by rw [← hz2]; exact wraps_u64 _ (by omega) (by omega)
                have hw22 : IntKind.u64.wrap (b2 + 4294967295) = b2 + 4294967295 := wraps_u64 _ (by omega) (by omega)
                by_cases hc32 : (4294967296 : Int) ≤ b2 + 4294967295
                · have HQ2 : Hid (QDig V u0 z2) := by have := HAB2.out; unfold Hid QDig; omega
                  have HZ2 := hidden hz2
                  clear hz2
                  have hr2 : 0 ≤ V * 4294967296 + u0 - z2 * 18446744073709509356 ∧ V * 4294967296 + u0 - z2 * 18446744073709509356 < 18446744073709509356 := by have := HQ2.out; unfold QDig at this; omega
                  obtain ⟨VV, hVV⟩ : ∃ v, V * 4294967296 + u0 - z2 * 18446744073709509356 = v := ⟨_, rfl⟩
                  have hun2 : IntKind.u64.wrap (IntKind.u64.wrap (IntKind.u64.wrap (V * 4294967296) + u0) - IntKind.u64.wrap (z2 * 18446744073709509356)) = VV := by
                    simp only [IntKind.wrap_u64]
                    omega
                  rw [hVV] at hr2
                  obtain ⟨hr2a, hr2b⟩ := hr2
                  have HVV := hidden hVV
                  clear hVV
                  have HEND : Hid (VV / 4 = (hi * 18446744073709551616 + lo) % 4611686018427377339) := by have h1 := HV.out; have h2 := HVV.out; have h3 := HALL.out; unfold Hid; omega
                  go_wp2
                  go_ret2
                  exact ⟨⟨_, by rw [HEND.out]; rfl⟩, Below.refl _ _⟩
                · have HZ2 := hidden hz2
                  clear hz2
                  go_wp2
                  go_roundw
                  case rel => exact ⟨_, _, rfl, rfl, by have := HAB2.out; have := HZ2.out; unfold Hid QRun; omega, (by first | rfl | trivial)⟩
                  case measure => have := HZ2.out; simp [intOf]; omega
              · have HQ2 : Hid (QDig V u0 a2) := by have := HAB2.out; unfold Hid QDig; omega
                have hr2 : 0 ≤ V * 4294967296 + u0 - a2 * 18446744073709509356 ∧ V * 4294967296 + u0 - a2 * 18446744073709509356 < 18446744073709509356 := by have := HQ2.out; unfold QDig at this; omega
                obtain ⟨VV, hVV⟩ : ∃ v, V * 4294967296 + u0 - a2 * 18446744073709509356 = v := ⟨_, rfl⟩
                have hun2 : IntKind.u64.wrap (IntKind.u64.wrap (IntKind.u64.wrap (V * 4294967296) + u0) - IntKind.u64.wrap (a2 * 18446744073709509356)) = VV := by
                  simp only [IntKind.wrap_u64]
                  omega
                rw [hVV] at hr2
                obtain ⟨hr2a, hr2b⟩ := hr2
                have HVV := hidden hVV
                clear hVV
                have HEND : Hid (VV / 4 = (hi * 18446744073709551616 + lo) % 4611686018427377339) := by have h1 := HV.out; have h2 := HVV.out; have h3 := HALL.out; unfold Hid; omega
                go_wp2
                go_ret2
                exact ⟨⟨_, by rw [HEND.out]; rfl⟩, Below.refl _ _⟩
        · have HZ1 := hidden hz1
          clear hz1
          go_wp2
          go_roundw
          case rel => exact ⟨_, _, rfl, rfl, by have := HAB1.out; have := HZ1.out; unfold Hid QRun; omega, (by first | rfl | trivial)⟩
          case measure => have := HZ1.out; simp [intOf]; omega
      · have hm11 : IntKind.u64.wrap (a1 * 4294925036) = a1 * 4294925036 := wraps_u64 _ (by omega) (by omega)
        have hm21 : IntKind.u64.wrap (4294967296 * b1) = 4294967296 * b1 := wraps_u64 _ (by omega) (by omega)
        have hm31 : IntKind.u64.wrap (4294967296 * b1 + u1) = 4294967296 * b1 + u1 := wraps_u64 _ (by omega) (by omega)
        by_cases hc21 : a1 * 4294925036 > 4294967296 * b1 + u1
        · have hc41 : 0 < a1 := by omega
          obtain ⟨z1, hz1⟩ : ∃ z, a1 - 1 = z := ⟨_, rfl⟩
          have hw11 : IntKind.u64.wrap (a1 - 1) = z1 := by rw [← hz1]; exact wraps_u64 _ (by omega) (by omega)
          have hw21 : IntKind.u64.wrap (b1 + 4294967295) = b1 + 4294967295 := wraps_u64 _ (by omega) (by omega)
          by_cases hc31 : (4294967296 : Int) ≤ b1 + 4294967295
          · have HQ1 : Hid (QDig U u1 z1) := by have := HAB1.out; unfold Hid QDig; omega
            have HZ1 := hidden hz1
            clear hz1
            have hr1 : 0 ≤ U * 4294967296 + u1 - z1 * 18446744073709509356 ∧ U * 4294967296 + u1 - z1 * 18446744073709509356 < 18446744073709509356 := by have := HQ1.out; unfold QDig at this; omega
            obtain ⟨V, hV⟩ : ∃ v, U * 4294967296 + u1 - z1 * 18446744073709509356 = v := ⟨_, rfl⟩
            have hun1 : IntKind.u64.wrap (IntKind.u64.wrap (IntKind.u64.wrap (U * 4294967296) + u1) - IntKind.u64.wrap (z1 * 18446744073709509356)) = V := by
              simp only [IntKind.wrap_u64]
              omega
            rw [hV] at hr1
            obtain ⟨hr1a, hr1b⟩ := hr1
            have HV := hidden hV
            clear hV
            go_wp2
            go_loopw [18, 16] (fun q r wr => ∃ a b : Int, q = .int .u64 a ∧ r = .int .u64 b ∧ Hid (QRun V u0 a b) ∧ w2 = wr) (fun q _ _ => (intOf q).toNat)
            case atStart => exact ⟨_, _, rfl, rfl, by unfold Hid QRun; omega, (by first | rfl | trivial)⟩
            case round =>
              obtain ⟨a2, b2, rfl, rfl, hrun2, rfl⟩ := hrel
              unfold Hid QRun at hrun2
              obtain ⟨a02, hab2, bb02, bb12, hbig2⟩ := hrun2
              have HAB2 := hidden hab2
              have ha12 : a2 ≤ 4294967296 := by omega
              clear hab2
              by_cases hc12 : (4294967296 : Int) ≤ a2
              · obtain ⟨z2, hz2⟩ : ∃ z, a2 - 1 = z := ⟨_, rfl⟩
                have hw12 : IntKind.u64.wrap (a2 - 1) = z2 := by rw [← hz2]; exact wraps_u64 _ (by omega) (by omega)
                have hw22 : IntKind.u64.wrap (b2 + 4294967295) = b2 + 4294967295 := wraps_u64 _ (by omega) (by omega)
                by_cases hc32 : (4294967296 : Int) ≤ b2 + 4294967295
                · have HQ2 : Hid (QDig V u0 z2) := by have := HAB2.out; unfold Hid QDig; omega
                  have HZ2 := hidden hz2
                  clear hz2
                  have hr2 : 0 ≤ V * 4294967296 + u0 - z2 * 18446744073709509356 ∧ V * 4294967296 + u0 - z2 * 18446744073709509356 < 18446744073709509356 := by have := HQ2.out; unfold QDig at this; omega
                  obtain ⟨VV, hVV⟩ : ∃ v, V * 4294967296 + u0 - z2 * 18446744073709509356 = v := ⟨_, rfl⟩
                  have hun2 : IntKind.u64.wrap (IntKind.u64.wrap (IntKind.u64.wrap (V * 4294967296) + u0) - IntKind.u64.wrap (z2 * 18446744073709509356)) = VV := by
                    simp only [IntKind.wrap_u64]
                    omega
                  rw [hVV] at hr2
                  obtain ⟨hr2a, hr2b⟩ := hr2
                  have HVV := hidden hVV
                  clear hVV
                  have HEND : Hid (VV / 4 = (hi * 18446744073709551616 + lo) % 4611686018427377339) := by have h1 := HV.out; have h2 := HVV.out; have h3 := HALL.out; unfold Hid; omega
                  go_wp2
                  go_ret2
                  exact ⟨⟨_, by rw [HEND.out]; rfl⟩, Below.refl _ _⟩
                · have HZ2 := hidden hz2
                  clear hz2
                  go_wp2
                  go_roundw
                  case rel => exact ⟨_, _, rfl, rfl, by have := HAB2.out; have := HZ2.out; unfold Hid QRun; omega, (by first | rfl | trivial)⟩
                  case measure => have := HZ2.out; simp [intOf]; omega
              · have hm12 : IntKind.u64.wrap (a2 * 4294925036) = a2 * 4294925036 := wraps_u64 _ (by omega) (by omega)
                have hm22 : IntKind.u64.wrap (4294967296 * b2) = 4294967296 * b2 := wraps_u64 _ (by omega) (by omega)
                have hm32 : IntKind.u64.wrap (4294967296 * b2 + u0) = 4294967296 * b2 + u0 := wraps_u64 _ (by omega) (by omega)
                by_cases hc22 : a2 * 4294925036 > 4294967296 * b2 + u0
                · have hc42 : 0 < a2 := by omega
                  obtain ⟨z2, hz2⟩ : ∃ z, a2 - 1 = z := ⟨_, rfl⟩
                  have hw12 : IntKind.u64.wrap (a2 - 1) = z2 := by rw [← hz2]; exact wraps_u64 _ (by omega) (by omega)
                  have hw22 : IntKind.u64.wrap (b2 + 4294967295) = b2 + 4294967295 := wraps_u64 _ (by omega) (by omega)
                  by_cases hc32 : (4294967296 : Int) ≤ b2 + 4294967295
                  · have HQ2 : Hid (QDig V u0 z2) := by have := HAB2.out; unfold Hid QDig; omega
                    have HZ2 := hidden hz2
                    clear hz2
                    have hr2 : 0 ≤ V * 4294967296 + u0 - z2 * 18446744073709509356 ∧ V * 4294967296 + u0 - z2 * 18446744073709509356 < 18446744073709509356 := by have := HQ2.out; unfold QDig at this; omega
                    obtain ⟨VV, hVV⟩ : ∃ v, V * 4294967296 + u0 - z2 * 18446744073709509356 = v := ⟨_, rfl⟩
                    have hun2 : IntKind.u64.wrap (IntKind.u64.wrap (IntKind.u64.wrap (V * 4294967296) + u0) - IntKind.u64.wrap (z2 * 18446744073709509356)) = VV := by
                      simp only [IntKind.wrap_u64]
                      omega
                    rw [hVV] at hr2
                    obtain ⟨hr2a, hr2b⟩ := hr2
                    have HVV := hidden hVV
                    clear hVV
                    have HEND : Hid (VV / 4 = (hi * 18446744073709551616 + lo) % 4611686018427377339) := by have h1 := HV.out; have h2 := HVV.out; have h3 := HALL.out; unfold Hid; omega
                    go_wp2
                    go_ret2
                    exact ⟨⟨_, by rw [HEND.out]; rfl⟩, Below.refl _ _⟩
                  · have HZ2 := hidden hz2
                    clear hz2
                    go_wp2
                    go_roundw
                    case rel => exact ⟨_, _, rfl, rfl, by have := HAB2.out; have := HZ2.out; unfold Hid QRun; omega, (by first | rfl | trivial)⟩
                    case measure => have := HZ2.out; simp [intOf]; omega
                · have HQ2 : Hid (QDig V u0 a2) := by have := HAB2.out; unfold Hid QDig; omega
                  have hr2 : 0 ≤ V * 4294967296 + u0 - a2 * 18446744073709509356 ∧ V * 4294967296 + u0 - a2 * 18446744073709509356 < 18446744073709509356 := by have := HQ2.out; unfold QDig at this; omega
                  obtain ⟨VV, hVV⟩ : ∃ v, V * 4294967296 + u0 - a2 * 18446744073709509356 = v := ⟨_, rfl⟩
                  have hun2 : IntKind.u64.wrap (IntKind.u64.wrap (IntKind.u64.wrap (V * 4294967296) + u0) - IntKind.u64.wrap (a2 * 18446744073709509356)) = VV := by
                    simp only [IntKind.wrap_u64]
                    omega
                  rw [hVV] at hr2
                  obtain ⟨hr2a, hr2b⟩ := hr2
                  have HVV := hidden hVV
                  clear hVV
                  have HEND : Hid (VV / 4 = (hi * 18446744073709551616 + lo) % 4611686018427377339) := by have h1 := HV.out; have h2 := HVV.out; have h3 := HALL.out; unfold Hid; omega
                  go_wp2
                  go_ret2
                  exact ⟨⟨_, by rw [HEND.out]; rfl⟩, Below.refl _ _⟩
          · have HZ1 := hidden hz1
            clear hz1
            go_wp2
            go_roundw
            case rel => exact ⟨_, _, rfl, rfl, by have := HAB1.out; have := HZ1.out; unfold Hid QRun; omega, (by first | rfl | trivial)⟩
            case measure => have := HZ1.out; simp [intOf]; omega
        · have HQ1 : Hid (QDig U u1 a1) := by have := HAB1.out; unfold Hid QDig; omega
          have hr1 : 0 ≤ U * 4294967296 + u1 - a1 * 18446744073709509356 ∧ U * 4294967296 + u1 - a1 * 18446744073709509356 < 18446744073709509356 := by have := HQ1.out; unfold QDig at this; omega
          obtain ⟨V, hV⟩ : ∃ v, U * 4294967296 + u1 - a1 * 18446744073709509356 = v := ⟨_, rfl⟩
          have hun1 : IntKind.u64.wrap (IntKind.u64.wrap (IntKind.u64.wrap (U * 4294967296) + u1) - IntKind.u64.wrap (a1 * 18446744073709509356)) = V := by
            simp only [IntKind.wrap_u64]
            omega
          rw [hV] at hr1
          obtain ⟨hr1a, hr1b⟩ := hr1
          have HV := hidden hV
          clear hV
          go_wp2
          go_loopw [18, 16] (fun q r wr => ∃ a b : Int, q = .int .u64 a ∧ r = .int .u64 b ∧ Hid (QRun V u0 a b) ∧ w2 = wr) (fun q _ _ => (intOf q).toNat)
          case atStart => exact ⟨_, _, rfl, rfl, by unfold Hid QRun; omega, (by first | rfl | trivial)⟩
          case round =>
            obtain ⟨a2, b2, rfl, rfl, hrun2, rfl⟩ := hrel
            unfold Hid QRun at hrun2
            obtain ⟨a02, hab2, bb02, bb12, hbig2⟩ := hrun2
            have HAB2 := hidden hab2
            have ha12 : a2 ≤ 4294967296 := by omega
            clear hab2
            by_cases hc12 : (4294967296 : Int) ≤ a2
            · obtain ⟨z2, hz2⟩ : ∃ z, a2 - 1 = z := ⟨_, rfl⟩
              have hw12 : IntKind.u64.wrap (a2 - 1) = z2 := by rw [← hz2]; exact wraps_u64 _ (by omega) (by omega)
              have hw22 : IntKind.u64.wrap (b2 + 4294967295) = b2 + 4294967295 := wraps_u64 _ (by omega) (by omega)
              by_cases hc32 : (4294967296 : Int) ≤ b2 + 4294967295
              · have HQ2 : Hid (QDig V u0 z2) := by have := HAB2.out; unfold Hid QDig; omega
                have HZ2 := hidden hz2
                clear hz2
                have hr2 : 0 ≤ V * 4294967296 + u0 - z2 * 18446744073709509356 ∧ V * 4294967296 + u0 - z2 * 18446744073709509356 < 18446744073709509356 := by have := HQ2.out; unfold QDig at this; omega
                obtain ⟨VV, hVV⟩ : ∃ v, V * 4294967296 + u0 - z2 * 18446744073709509356 = v := ⟨_, rfl⟩
                have hun2 : IntKind.u64.wrap (IntKind.u64.wrap (IntKind.u64.wrap (V * 4294967296) + u0) - IntKind.u64.wrap (z2 * 18446744073709509356)) = VV := by
                  simp only [IntKind.wrap_u64]
                  omega
                rw [hVV] at hr2
                obtain ⟨hr2a, hr2b⟩ := hr2
                have HVV := hidden hVV
                clear hVV
                have HEND : Hid (VV / 4 = (hi * 18446744073709551616 + lo) % 4611686018427377339) := by have h1 := HV.out; have h2 := HVV.out; have h3 := HALL.out; unfold Hid; omega
                go_wp2
                go_ret2
                exact ⟨⟨_, by rw [HEND.out]; rfl⟩, Below.refl _ _⟩
              · have HZ2 := hidden hz2
                clear hz2
                go_wp2
                go_roundw
                case rel => exact ⟨_, _, rfl, rfl, by have := HAB2.out; have := HZ2.out; unfold Hid QRun; omega, (by first | rfl | trivial)⟩
                case measure => have := HZ2.out; simp [intOf]; omega
            · have hm12 : IntKind.u64.wrap (a2 * 4294925036) = a2 * 4294925036 := wraps_u64 _ (by omega) (by omega)
              have hm22 : IntKind.u64.wrap (4294967296 * b2) = 4294967296 * b2 := wraps_u64 _ (by omega) (by omega)
              have hm32 : IntKind.u64.wrap (4294967296 * b2 + u0) = 4294967296 * b2 + u0 := wraps_u64 _ (by omega) (by omega)
              by_cases hc22 : a2 * 4294925036 > 4294967296 * b2 + u0
              · have hc42 : 0 < a2 := by omega
                obtain ⟨z2, hz2⟩ : ∃ z, a2 - 1 = z := ⟨_, rfl⟩
                have hw12 : IntKind.u64.wrap (a2 - 1) = z2 := by rw [← hz2]; exact wraps_u64 _ (by omega) (by omega)
                have hw22 : IntKind.u64.wrap (b2 + 4294967295) = b2 + 4294967295 := wraps_u64 _ (by omega) (by omega)
                by_cases hc32 : (4294967296 : Int) ≤ b2 + 4294967295
                · have HQ2 : Hid (QDig V u0 z2) := by have := HAB2.out; unfold Hid QDig; omega
                  have HZ2 := hidden hz2
                  clear hz2
                  have hr2 : 0 ≤ V * 4294967296 + u0 - z2 * 18446744073709509356 ∧ V * 4294967296 + u0 - z2 * 18446744073709509356 < 18446744073709509356 := by have := HQ2.out; unfold QDig at this; omega
                  obtain ⟨VV, hVV⟩ : ∃ v, V * 4294967296 + u0 - z2 * 18446744073709509356 = v := ⟨_, rfl⟩
                  have hun2 : IntKind.u64.wrap (IntKind.u64.wrap (IntKind.u64.wrap (V * 4294967296) + u0) - IntKind.u64.wrap (z2 * 18446744073709509356)) = VV := by
                    simp only [IntKind.wrap_u64]
                    omega
                  rw [hVV] at hr2
                  obtain ⟨hr2a, hr2b⟩ := hr2
                  have HVV := hidden hVV
                  clear hVV
                  have HEND : Hid (VV / 4 = (hi * 18446744073709551616 + lo) % 4611686018427377339) := by have h1 := HV.out; have h2 := HVV.out; have h3 := HALL.out; unfold Hid; omega
                  go_wp2
                  go_ret2
                  exact ⟨⟨_, by rw [HEND.out]; rfl⟩, Below.refl _ _⟩
                · have HZ2 := hidden hz2
                  clear hz2
                  go_wp2
                  go_roundw
                  case rel => exact ⟨_, _, rfl, rfl, by have := HAB2.out; have := HZ2.out; unfold Hid QRun; omega, (by first | rfl | trivial)⟩
                  case measure => have := HZ2.out; simp [intOf]; omega
              · have HQ2 : Hid (QDig V u0 a2) := by have := HAB2.out; unfold Hid QDig; omega
                have hr2 : 0 ≤ V * 4294967296 + u0 - a2 * 18446744073709509356 ∧ V * 4294967296 + u0 - a2 * 18446744073709509356 < 18446744073709509356 := by have := HQ2.out; unfold QDig at this; omega
                obtain ⟨VV, hVV⟩ : ∃ v, V * 4294967296 + u0 - a2 * 18446744073709509356 = v := ⟨_, rfl⟩
                have hun2 : IntKind.u64.wrap (IntKind.u64.wrap (IntKind.u64.wrap (V * 4294967296) + u0) - IntKind.u64.wrap (a2 * 18446744073709509356)) = VV := by
                  simp only [IntKind.wrap_u64]
                  omega
                rw [hVV] at hr2
                obtain ⟨hr2a, hr2b⟩ := hr2
                have HVV := hidden hVV
                clear hVV
                have HEND : Hid (VV / 4 = (hi * 18446744073709551616 + lo) % 4611686018427377339) := by have h1 := HV.out; have h2 := HVV.out; have h3 := HALL.out; unfold Hid; omega
                go_wp2
                go_ret2
                exact ⟨⟨_, by rw [HEND.out]; rfl⟩, Below.refl _ _⟩
end Go.Proofs.YtgpigjoonhghhaaDoor
