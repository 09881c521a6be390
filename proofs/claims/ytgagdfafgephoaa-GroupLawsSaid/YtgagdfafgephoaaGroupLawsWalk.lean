/-
  The law GroupLaws, walked: it returns true for every input, and only adds memory of its own.
-/
import Derived.Test.YtgagdfafgephoaaGrpLaw
namespace Go.Proofs.Ytgagdfafgephoaa
open Go.RowKit
set_option linter.unusedVariables false

set_option maxHeartbeats 1600000 in
set_option maxRecDepth 100000 in
theorem groupLaws_walk (p0 : Option Addr) (n0 c0 : Nat) (xs0 : List Int) (z1 z2 : Int) (w : World) (h0 : Byt w p0 n0 c0 xs0) (r0 : c0 ≤ 140737488351232) (g1 : 0 ≤ z1 ∧ z1 ≤ 18446744073709551615) (g2 : 0 ≤ z2 ∧ z2 ≤ 18446744073709551615) :
    Calls Try.prog 6 #[.slice p0 n0 c0, .int .u64 z1, .int .u64 z2] w fun e w' => e = .returned (.bool true) ∧ Below w.heap.size w w' := by
  have HA := hidden (awake13_any w)
  have H0 := hidden h0
  obtain ⟨d, hd⟩ : ∃ d : Nat, (z1 / 2).toNat = d := ⟨_, rfl⟩
  obtain ⟨e, he⟩ : ∃ e : Nat, (z2 / 2).toNat = e := ⟨_, rfl⟩
  have hd1 : d < 9223372036854775808 := by omega
  have he1 : e < 9223372036854775808 := by omega
  have HDZ : Hid (z1 / 2 = (d : Int)) := by unfold Hid; omega
  have HEZ : Hid (z2 / 2 = (e : Int)) := by unfold Hid; omega
  clear h0 hd he
  go_enter Try.func6, Try.ntmps6
  go_upto_region 5 with (first
    | (go_at_call 8; (with_reducible refine (HA.out).mono ?_); rintro en w1 ⟨rfl, hb⟩; have HB1 := hidden hb; clear hb)
    | (go_at_call 15; (refine (new_any w p0 n0 c0 xs0 w1 H0.out HB1.out 80 (by omega)).mono ?_); rintro en w2 ⟨rfl, hc, hb⟩; have HC2 := hidden hc; have HB2 := hidden (HB1.out.trans (hb.mono HB1.out.size)); clear hc hb)
    | (go_at_call 26; (with_reducible refine (word_any w w2 _ HC2.out).mono ?_); rintro en w3 ⟨ra, rfl, a0, a1, hc, hg⟩; have HC3 := hidden hc; have HB3 := hidden (HB2.out.grown hg HB2.out.size (fun k e => by cases e; exact HC2.out.base)); clear hc hg)
    | (go_at_call 26; (with_reducible refine (word_any w w3 _ HC3.out).mono ?_); rintro en w4 ⟨rb, rfl, b0, b1, hc, hg⟩; have HC4 := hidden hc; have HB4 := hidden (HB3.out.grown hg HB3.out.size (fun k e => by cases e; exact HC3.out.base)); clear hc hg)
    | (go_at_call 26; (with_reducible refine (word_any w w4 _ HC4.out).mono ?_); rintro en w5 ⟨rx, rfl, x0, x1, hc, hg⟩; have HC5 := hidden hc; have HB5 := hidden (HB4.out.grown hg HB4.out.size (fun k e => by cases e; exact HC4.out.base)); clear hc hg)
    | fail)
  obtain ⟨a, rfl⟩ := Int.eq_ofNat_of_zero_le a0
  obtain ⟨b, rfl⟩ := Int.eq_ofNat_of_zero_le b0
  obtain ⟨x, rfl⟩ := Int.eq_ofNat_of_zero_le x0
  have ha : a < 18446744073709551616 := by omega
  have hb : b < 18446744073709551616 := by omega
  have hx : x < 18446744073709551616 := by omega
  have ga := fun u v => Nat.lt_trans (gmul_lt u v) gp_lt
  have gb := fun u v => Nat.lt_trans (gpow_lt u v) gp_lt
  have M1 := hidden (mul_known a b a b _ ha hb rfl rfl rfl)
  have M2 := hidden (mul_known b a b a _ hb ha rfl rfl rfl)
  have M3 := hidden (mul_known (gmul a b) x _ x _ (ga _ _) hx rfl rfl rfl)
  have M4 := hidden (mul_known b x b x _ hb hx rfl rfl rfl)
  have M5 := hidden (mul_known a (gmul b x) a _ _ ha (ga _ _) rfl rfl rfl)
  have P1 := hidden (pow_known a d a (d : Int) _ ha (by omega) rfl rfl rfl)
  have P2 := hidden (pow_known a e a (e : Int) _ ha (by omega) rfl rfl rfl)
  have M6 := hidden (mul_known (gpow a d) (gpow a e) _ _ _ (gb _ _) (gb _ _) rfl rfl rfl)
  have P3 := hidden (pow_known a (d + e) a ((d : Int) + (e : Int)) _ ha (by omega) rfl (by omega) rfl)
  have hw : IntKind.u64.wrap ((d : Int) + (e : Int)) = (d : Int) + (e : Int) := wraps_u64 _ (by omega) (by omega)
  rw [gmul_comm b a] at M2
  rw [gmul_assoc a b x] at M3
  rw [gpow_add] at M6
  generalize gpow a (d + e) = ps at *
  generalize gmul a (gmul b x) = m3 at *
  generalize gmul a b = m1 at *
  generalize gmul b x = m4 at *
  generalize gpow a d = pd at *
  generalize gpow a e = pe at *
  have hdz := HDZ.out
  have hez := HEZ.out
  clear ga gb a0 a1 b0 b1 x0 x1 HC2 HC3 HC4
  go_upto_region 6 with fail
  clear hdz hez
  go_upto_region 10 with (first
    | (go_at_call 9; (with_reducible refine (M1.out _).mono ?_); rintro en v1 ⟨rfl, hb⟩; have HV1 := hidden (HB5.out.trans (hb.mono HB5.out.size)); have HK1 := hidden (HC5.out.below hb); clear hb)
    | (go_at_call 9; (with_reducible refine (M2.out _).mono ?_); rintro en v2 ⟨rfl, hb⟩; have HV2 := hidden (HV1.out.trans (hb.mono HV1.out.size)); have HK2 := hidden (HK1.out.below hb); clear hb)
    | (go_at_call 9; (with_reducible refine (M1.out _).mono ?_); rintro en v3 ⟨rfl, hb⟩; have HV3 := hidden (HV2.out.trans (hb.mono HV2.out.size)); have HK3 := hidden (HK2.out.below hb); clear hb)
    | (go_at_call 9; (with_reducible refine (M3.out _).mono ?_); rintro en v4 ⟨rfl, hb⟩; have HV4 := hidden (HV3.out.trans (hb.mono HV3.out.size)); have HK4 := hidden (HK3.out.below hb); clear hb)
    | (go_at_call 9; (with_reducible refine (M4.out _).mono ?_); rintro en v5 ⟨rfl, hb⟩; have HV5 := hidden (HV4.out.trans (hb.mono HV4.out.size)); have HK5 := hidden (HK4.out.below hb); clear hb)
    | (go_at_call 9; (with_reducible refine (M5.out _).mono ?_); rintro en v6 ⟨rfl, hb⟩; have HV6 := hidden (HV5.out.trans (hb.mono HV5.out.size)); have HK6 := hidden (HK5.out.below hb); clear hb)
    | (go_at_call 11; (with_reducible refine (P1.out _).mono ?_); rintro en v7 ⟨rfl, hb⟩; have HV7 := hidden (HV6.out.trans (hb.mono HV6.out.size)); have HK7 := hidden (HK6.out.below hb); clear hb)
    | (go_at_call 11; (with_reducible refine (P2.out _).mono ?_); rintro en v8 ⟨rfl, hb⟩; have HV8 := hidden (HV7.out.trans (hb.mono HV7.out.size)); have HK8 := hidden (HK7.out.below hb); clear hb)
    | (go_at_call 9; (with_reducible refine (M6.out _).mono ?_); rintro en v9 ⟨rfl, hb⟩; have HV9 := hidden (HV8.out.trans (hb.mono HV8.out.size)); have HK9 := hidden (HK8.out.below hb); clear hb)
    | (go_at_call 11; (with_reducible refine (P3.out _).mono ?_); rintro en u1 ⟨rfl, hb⟩; have HU1 := hidden (HV9.out.trans (hb.mono HV9.out.size)); have HL1 := hidden (HK9.out.below hb); clear hb)
    | (go_at_call 16; (with_reducible refine (secret_any w u1 _ HL1.out).mono ?_); rintro en u2 ⟨⟨s, rfl, s1, s2⟩, hc, hg⟩; have HL2 := hidden hc; have HU2 := hidden (HU1.out.grown hg HU1.out.size (fun k e => by cases e; exact HL1.out.base)); clear hc hg)
    | (go_at_call 18; (with_reducible refine (pub_secret s s1 s2 u2).mono ?_); rintro en u3 ⟨rfl, hb⟩; have HU3 := hidden (HU2.out.trans (hb.mono HU2.out.size)); have HL3 := hidden (HL2.out.below hb); clear hb)
    | (go_at_call 16; (with_reducible refine (secret_any w u3 _ HL3.out).mono ?_); rintro en u4 ⟨⟨t, rfl, t1, t2⟩, hc, hg⟩; have HL4 := hidden hc; have HU4 := hidden (HU3.out.grown hg HU3.out.size (fun k e => by cases e; exact HL3.out.base)); clear hc hg)
    | (go_at_call 18; (with_reducible refine (pub_secret t t1 t2 u4).mono ?_); rintro en u5 ⟨rfl, hb⟩; have HU5 := hidden (HU4.out.trans (hb.mono HU4.out.size)); clear hb)
    | fail)
  have M7 := hidden (mul_known (gpow 4 s) (gpow 4 t) _ _ _ (Nat.lt_trans (gpow_lt _ _) gp_lt) (Nat.lt_trans (gpow_lt _ _) gp_lt) rfl rfl rfl)
  rw [gpow_add] at M7
  have E1 := hidden (gel_any (gpow 4 (s + t)) (Nat.lt_trans (gpow_lt _ _) gp_lt))
  have P4 := hidden (pow_known (gpow 4 (s + t)) gq _ 2305843009213688669 1 (Nat.lt_trans (gpow_lt _ _) gp_lt) (by decide) rfl (by decide) (by rw [gpow_mul_q]; rfl))
  have hel := gel_pow (s + t)
  generalize gpow 4 (s + t) = m at *
  generalize gpow 4 s = ys at *
  generalize gpow 4 t = yt at *
  clear s1 s2 t1 t2 M1 M2 M3 M4 M5 M6 P1 P2 P3
  by_cases hm : m = 1
  · have hm2 : ((m : Int) == 1) = true := by simp; omega
    clear hel hm
    go_wp2_with (first
      | (go_at_call 9; (with_reducible refine (M7.out _).mono ?_); rintro en v1 ⟨rfl, hb⟩; have HX1 := hidden (HU5.out.trans (hb.mono HU5.out.size)); clear hb)
      | (go_at_call 11; (with_reducible refine (P4.out _).mono ?_); rintro en v3 ⟨rfl, hb⟩; have HX3 := hidden (HX1.out.trans (hb.mono HX1.out.size)); clear hb)
      | fail)
    go_ret
    exact ⟨rfl, HX3.out⟩
  · have hm2 : ((m : Int) == 1) = false := by simp; omega
    rw [hel hm] at E1
    clear hel hm
    go_wp2_with (first
      | (go_at_call 9; (with_reducible refine (M7.out _).mono ?_); rintro en v1 ⟨rfl, hb⟩; have HX1 := hidden (HU5.out.trans (hb.mono HU5.out.size)); clear hb)
      | (go_at_call 13; (with_reducible refine (E1.out _).mono ?_); rintro en v2 ⟨rfl, hb⟩; have HX2 := hidden (HX1.out.trans (hb.mono HX1.out.size)); clear hb)
      | (go_at_call 11; (with_reducible refine (P4.out _).mono ?_); rintro en v3 ⟨rfl, hb⟩; have HX3 := hidden (HX2.out.trans (hb.mono HX2.out.size)); clear hb)
      | fail)
    go_ret
    exact ⟨rfl, HX3.out⟩
end Go.Proofs.Ytgagdfafgephoaa
