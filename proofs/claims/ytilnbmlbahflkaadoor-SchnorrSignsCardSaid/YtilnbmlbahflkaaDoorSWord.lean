/-
  A list of choices: a number of 64 bits.
-/
import Derived.Test.YtilnbmlbahflkaaDoorSCodes2
namespace Go.Proofs.YtilnbmlbahflkaaDoor
open Go.RowKit
set_option linter.unusedVariables false

set_option maxHeartbeats 400000 in
theorem word_any (W w : World) (k : Nat) (h : Cod W w k) :
    Calls Tryd.prog 19 #[.pointer (some ⟨k, 0, none⟩)] w fun e w' => ∃ r : Int, e = .returned (.int .u64 r) ∧ 0 ≤ r ∧ r ≤ 18446744073709551615 ∧ Cod W w' k ∧ w.grownBy w' (some k) := by
  have H := hidden h
  clear h
  go_enter Tryd.func19, Tryd.ntmps19
  go_wp2_with (go_at_call 48; refine (next_any W _ k H.out _ ?_).mono ?_; omega)
  rintro e w1 ⟨r, rfl, r0, r1, hc, hg⟩
  have HC := hidden hc
  have HG := hidden hg
  clear hc hg H
  by_cases h0 : r = 0
  · subst h0
    go_wp2_with (go_at_call 48; refine (next_any W _ k HC.out _ ?_).mono ?_; omega; rintro e w2 ⟨r2, rfl, r3, r4, hc2, hg2⟩; have HC2 := hidden hc2; have HG2 := hidden (grown_trans HG.out hg2); clear hc2 hg2)
    go_ret
    exact ⟨r2, rfl, r3, by omega, HC2.out, HG2.out⟩
  by_cases h1 : r = 1
  · subst h1
    go_wp2_with (go_at_call 48; refine (next_any W _ k HC.out _ ?_).mono ?_; omega; rintro e w2 ⟨r2, rfl, r3, r4, hc2, hg2⟩; have HC2 := hidden hc2; have HG2 := hidden (grown_trans HG.out hg2); clear hc2 hg2)
    go_ret
    exact ⟨18446744073709551615 - r2, rfl, by omega, by omega, HC2.out, HG2.out⟩
  have e0 : (r == 0) = false := by simpa using h0
  have e1 : (r == 1) = false := by simpa using h1
  go_wp2
  go_loopw [3, 4] (fun v i wr => ∃ j : Nat, j ≤ 8 ∧ i = .int .i64 j ∧ ∃ z : Int, v = .int .u64 z ∧ 0 ≤ z ∧ z ≤ 18446744073709551615 ∧ Cod W wr k ∧ w.grownBy wr (some k)) (fun _ i _ => 8 - (intOf i).toNat)
  case atStart => exact ⟨0, by omega, rfl, 0, rfl, by omega, by omega, HC.out, HG.out⟩
  case round =>
    obtain ⟨j, hj, rfl, z, rfl, z0, z1, hc, hg⟩ := hrel
    have HC1 := hidden hc
    have HG1 := hidden hg
    clear hc hg HC HG
    by_cases hlt : j < 8
    · go_wp2_with (go_at_call 48; refine (next_any W _ k HC1.out _ ?_).mono ?_; omega; rintro e w2 ⟨r2, rfl, r3, r4, hc2, hg2⟩; have HC2 := hidden hc2; have HG2 := hidden (grown_trans HG1.out hg2); clear hc2 hg2)
      go_roundw
      case rel => exact ⟨j + 1, by omega, by go_num, _, rfl, bits_lo_u64 _ _ _, bits_hi_u64 _ _ _, HC2.out, HG2.out⟩
      case measure => simp [intOf]; omega
    · obtain rfl : j = 8 := by omega
      go_wp2
      go_ret
      exact ⟨z, rfl, z0, z1, HC1.out, HG1.out⟩
end Go.Proofs.YtilnbmlbahflkaaDoor
