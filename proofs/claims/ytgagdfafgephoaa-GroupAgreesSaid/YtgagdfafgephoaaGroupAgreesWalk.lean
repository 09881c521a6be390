/-
  The law GroupAgrees, walked: it returns true for every input, and only adds memory of its own.
-/
import Derived.Test.YtgagdfafgephoaaGrpLaw
namespace Go.Proofs.Ytgagdfafgephoaa
open Go.RowKit
set_option linter.unusedVariables false

theorem shr_secret (s y : Nat) (h1 : 1 ≤ s) (h2 : s < gq) (hy : gel y = true) (hl : y < 18446744073709551616) (W : World) :
    Calls Try.prog 19 #[.int .u64 s, .int .u64 y] W fun e w' => ∃ q d, e = .returned (.tuple #[.slice q 8 d, .int .i64 0]) ∧ Byt w' q 8 d (gbytes (gpow y s)) ∧ Below W.heap.size W w' := by
  refine (shr_any s y (Nat.lt_trans h2 (by decide)) hl W).mono ?_
  unfold shrL shrE
  rw [gsec_yes s ⟨h1, h2⟩, hy, if_pos (by rfl), if_pos (by rfl)]
  rintro e w' ⟨q, N, d, rfl, hb, hbel⟩
  obtain rfl : N = 8 := by rw [← hb.len, gbytes_len]
  exact ⟨q, d, rfl, hb, hbel⟩
theorem bytes_eight (y : Nat) (hl : y < 18446744073709551616) (W : World) :
    Calls Try.prog 22 #[.int .u64 y] W fun e w' => ∃ q d, e = .returned (.slice q 8 d) ∧ Byt w' q 8 d (gbytes y) ∧ Below W.heap.size W w' := by
  refine (gbytes_any y hl W).mono ?_
  rintro e w' ⟨q, N, d, rfl, hb, hbel⟩
  obtain rfl : N = 8 := by rw [← hb.len, gbytes_len]
  exact ⟨q, d, rfl, hb, hbel⟩
theorem parse_eight (y : Nat) (hl : y < 18446744073709551616) (hy : gel y = true) (q : Option Addr) (d : Nat) (W : World) (h : Byt W q 8 d (gbytes y)) :
    Calls Try.prog 24 #[.slice q 8 d] W fun e w' => e = .returned (.tuple #[.int .u64 y, .int .i64 0]) ∧ Below W.heap.size W w' := by
  have h1 := gparse_any q 8 d _ W h
  unfold parV parE at h1
  rw [val_gbytes y hl, Int.toNat_natCast, if_pos ⟨gbytes_len y, hy⟩, if_pos (gbytes_len y), if_pos hy] at h1
  exact h1
theorem equal_self (q r : Option Addr) (d e : Nat) (R : List Int) (W : World) (h : Byt W q 8 d R) (h' : Byt W r 8 e R) :
    Calls Try.prog 21 #[.slice q 8 d, .slice r 8 e] W fun en w' => en = .returned (.bool true) ∧ Below W.heap.size W w' := by
  refine (requal_any q r 8 d 8 e R R W h h').mono ?_
  rintro en w' ⟨rfl, k, rfl⟩
  exact ⟨by rw [decide_eq_true rfl], drew_below ⟨k, rfl⟩⟩

set_option maxHeartbeats 1600000 in
set_option maxRecDepth 100000 in
theorem groupAgrees_walk (p0 : Option Addr) (n0 c0 : Nat) (xs0 : List Int) (w : World) (h0 : Byt w p0 n0 c0 xs0) (r0 : c0 ≤ 140737488351232) :
    Calls Try.prog 5 #[.slice p0 n0 c0] w fun e w' => e = .returned (.bool true) ∧ Below w.heap.size w w' := by
  have HA := hidden (awake13_any w)
  have H0 := hidden h0
  clear h0
  go_enter Try.func5, Try.ntmps5
  go_upto_region 7 with (first
    | (go_at_call 8; (with_reducible refine (HA.out).mono ?_); rintro en w1 ⟨rfl, hb⟩; have HB1 := hidden hb; clear hb)
    | (go_at_call 15; (refine (new_any w p0 n0 c0 xs0 w1 H0.out HB1.out 60 (by omega)).mono ?_); rintro en w2 ⟨rfl, hc, hb⟩; have HC2 := hidden hc; have HB2 := hidden (HB1.out.trans (hb.mono HB1.out.size)); clear hc hb)
    | (go_at_call 16; (with_reducible refine (secret_any w w2 _ HC2.out).mono ?_); rintro en w3 ⟨⟨a, rfl, a1, a2⟩, hc, hg⟩; have HC3 := hidden hc; have HB3 := hidden (HB2.out.grown hg HB2.out.size (fun k e => by cases e; exact HC2.out.base)); clear hc hg)
    | (go_at_call 16; (with_reducible refine (secret_any w w3 _ HC3.out).mono ?_); rintro en w4 ⟨⟨b, rfl, b1, b2⟩, hc, hg⟩; have HB4 := hidden (HB3.out.grown hg HB3.out.size (fun k e => by cases e; exact HC3.out.base)); clear hc hg)
    | (go_at_call 18; (with_reducible refine (pub_secret a a1 a2 w4).mono ?_); rintro en w5 ⟨rfl, hb⟩; have HB5 := hidden (HB4.out.trans (hb.mono HB4.out.size)); clear hb)
    | (go_at_call 18; (with_reducible refine (pub_secret b b1 b2 w5).mono ?_); rintro en w6 ⟨rfl, hb⟩; have HB6 := hidden (HB5.out.trans (hb.mono HB5.out.size)); clear hb)
    | fail)
  have la := Nat.lt_trans (gpow_lt 4 a) gp_lt
  have lb := Nat.lt_trans (gpow_lt 4 b) gp_lt
  have ea := gel_secret a a1 a2
  have eb := gel_secret b b1 b2
  have S1 := hidden (shr_secret a (gpow 4 b) a1 a2 eb lb)
  have S2 := hidden (shr_secret b (gpow 4 a) b1 b2 ea la)
  have B1 := hidden (bytes_eight (gpow 4 a) la)
  have P1 := hidden (parse_eight (gpow 4 a) la ea)
  have E1 := hidden (gel_any (gpow 4 a) la)
  rw [ea] at E1
  rw [gpow_pow, Nat.mul_comm b a, ← gpow_pow] at S1
  generalize gpow (gpow 4 a) b = S at *
  generalize gpow 4 a = x at *
  generalize gpow 4 b = y at *
  generalize gbytes S = R at *
  generalize gbytes x = X at *
  clear a1 a2 b1 b2 la lb ea eb
  go_wp2_with (first
    | (go_at_call 19; (with_reducible refine (S1.out _).mono ?_); rintro en v1 ⟨q1, d1, rfl, hy, hb⟩; have HV1 := hidden (HB6.out.trans (hb.mono HB6.out.size)); have HY1 := hidden hy; clear hb hy)
    | (go_at_call 19; (with_reducible refine (S2.out _).mono ?_); rintro en v2 ⟨q2, d2, rfl, hy, hb⟩; have HV2 := hidden (HV1.out.trans (hb.mono HV1.out.size)); have HZ2 := hidden (HY1.out.below hb); have HY2 := hidden hy; clear hb hy)
    | (go_at_call 22; (with_reducible refine (B1.out _).mono ?_); rintro en v3 ⟨q3, d3, rfl, hy, hb⟩; have HV3 := hidden (HV2.out.trans (hb.mono HV2.out.size)); have HZ3 := hidden (HZ2.out.below hb); have HW3 := hidden (HY2.out.below hb); have HY3 := hidden hy; clear hb hy)
    | (go_at_call 24; (with_reducible refine (P1.out _ _ _ HY3.out).mono ?_); rintro en v4 ⟨rfl, hb⟩; have HV4 := hidden (HV3.out.trans (hb.mono HV3.out.size)); have HZ4 := hidden (HZ3.out.below hb); have HW4 := hidden (HW3.out.below hb); clear hb)
    | (go_at_call 21; (with_reducible refine (equal_self _ _ _ _ _ _ HZ4.out HW4.out).mono ?_); rintro en v5 ⟨rfl, hb⟩; have HV5 := hidden (HV4.out.trans (hb.mono HV4.out.size)); clear hb)
    | (go_at_call 13; (with_reducible refine (E1.out _).mono ?_); rintro en v6 ⟨rfl, hb⟩; have HV6 := hidden (HV5.out.trans (hb.mono HV5.out.size)); clear hb)
    | fail)
  go_ret
  exact ⟨rfl, HV6.out⟩
end Go.Proofs.Ytgagdfafgephoaa
