/-
  The law GroupOrders, walked: it returns true for every input, and only adds memory of its own.
-/
import Derived.Test.YtgagdfafgephoaaGrpLaw
namespace Go.Proofs.Ytgagdfafgephoaa
open Go.RowKit
set_option linter.unusedVariables false

set_option maxHeartbeats 1600000 in
set_option maxRecDepth 100000 in
theorem groupOrders_walk (p0 : Option Addr) (n0 c0 : Nat) (xs0 : List Int) (z1 : Int) (w : World) (h0 : Byt w p0 n0 c0 xs0) (r0 : c0 ≤ 140737488351232) (g1 : 0 ≤ z1 ∧ z1 ≤ 18446744073709551615) :
    Calls Try.prog 7 #[.slice p0 n0 c0, .int .u64 z1] w fun e w' => e = .returned (.bool true) ∧ Below w.heap.size w w' := by
  have HA := hidden (awake13_any w)
  have H0 := hidden h0
  obtain ⟨X, hX⟩ : ∃ X, (1 + z1 % 4611686018427377338).toNat = X := ⟨_, rfl⟩
  have hX1 : 1 ≤ X := by omega
  have hX2 : X < gp := by unfold gp; omega
  have hw : IntKind.u64.wrap (1 + z1 % 4611686018427377338) = (X : Int) := by rw [wraps_u64 _ (by omega) (by omega)]; omega
  have HP1 := hidden (pow_known 4 gq 4 2305843009213688669 1 (by decide) (by decide) rfl (by decide) (by rw [gen_q]; rfl))
  have HP3 := hidden (pow_known X (gp - 1) (X : Int) 4611686018427377338 1 (Nat.lt_trans hX2 gp_lt) (by decide) rfl (by decide) (by rw [gpow_fermat X hX1 hX2]; rfl))
  have HP4 := hidden (pow_known X (gp - 2) (X : Int) 4611686018427377337 _ (Nat.lt_trans hX2 gp_lt) (by decide) rfl (by decide) rfl)
  have HM := hidden (mul_known X (gpow X (gp - 2)) (X : Int) _ 1 (Nat.lt_trans hX2 gp_lt) (Nat.lt_trans (gpow_lt _ _) gp_lt) rfl rfl (by rw [gmul_gpow, show gp - 2 + 1 = gp - 1 by decide, gpow_fermat X hX1 hX2]; rfl))
  generalize gpow X (gp - 2) = Y at *
  clear h0 hX hX1 hX2
  go_enter Try.func7, Try.ntmps7
  go_upto_region 6 with (first
    | (go_at_call 8; (with_reducible refine (HA.out).mono ?_); rintro e w1 ⟨rfl, hb⟩; have HB1 := hidden hb; clear hb)
    | (go_at_call 15; (refine (new_any w p0 n0 c0 xs0 w1 H0.out HB1.out 40 (by omega)).mono ?_); rintro e w2 ⟨rfl, hc, hb⟩; have HC2 := hidden hc; have HB2 := hidden (HB1.out.trans (hb.mono HB1.out.size)); clear hc hb)
    | (go_at_call 16; (with_reducible refine (secret_any w w2 _ HC2.out).mono ?_); rintro e w3 ⟨⟨s, rfl, s1, s2⟩, hc, hg⟩; have HB3 := hidden (HB2.out.grown hg HB2.out.size (fun k e => by cases e; exact HC2.out.base)); clear hc hg)
    | (go_at_call 18; (with_reducible refine (pub_secret s s1 s2 w3).mono ?_); rintro e w4 ⟨rfl, hb⟩; have HB4 := hidden (HB3.out.trans (hb.mono HB3.out.size)); clear hb)
    | fail)
  have HP2 := hidden (pow_known (gpow 4 s) gq (gpow 4 s : Nat) 2305843009213688669 1 (Nat.lt_trans (gpow_lt _ _) gp_lt) (by decide) rfl (by decide) (by rw [gpow_mul_q]; rfl))
  generalize gpow 4 s = y at *
  clear s1 s2
  go_wp2_with (first
    | (go_at_call 11; (with_reducible refine (HP1.out _).mono ?_); rintro e w5 ⟨rfl, hb⟩; have HB5 := hidden (HB4.out.trans (hb.mono HB4.out.size)); clear hb)
    | (go_at_call 11; (with_reducible refine (HP2.out _).mono ?_); rintro e w6 ⟨rfl, hb⟩; have HB6 := hidden (HB5.out.trans (hb.mono HB5.out.size)); clear hb)
    | (go_at_call 11; (with_reducible refine (HP3.out _).mono ?_); rintro e w7 ⟨rfl, hb⟩; have HB7 := hidden (HB6.out.trans (hb.mono HB6.out.size)); clear hb)
    | (go_at_call 11; (with_reducible refine (HP4.out _).mono ?_); rintro e w8 ⟨rfl, hb⟩; have HB8 := hidden (HB7.out.trans (hb.mono HB7.out.size)); clear hb)
    | (go_at_call 9; (with_reducible refine (HM.out _).mono ?_); rintro e w9 ⟨rfl, hb⟩; have HB9 := hidden (HB8.out.trans (hb.mono HB8.out.size)); clear hb)
    | fail)
  go_ret
  exact ⟨rfl, HB9.out⟩
end Go.Proofs.Ytgagdfafgephoaa
