/-
  The law KeysAgree, walked: it returns true for every input, and only adds memory of its own.
-/
import Derived.Test.YtgpigjoonhghhaaDoorQAKeyLaw
import Derived.Test.YtgpigjoonhghhaaDoorQAZ6
import Derived.Deep.Cut
namespace Go.Proofs.YtgpigjoonhghhaaDoor
open Go.RowKit
set_option linter.unusedVariables false
theorem keyK_len (d a b : List Int) (i r : Int) (h : okN a.length b.length = true) (j : Nat) (hj : j < 5) : (keyK d a b i r j).length = szK j := by
  unfold keyK
  rw [if_pos h]
  refine cutK_len _ _ _ ?_
  unfold allK
  rw [plusS_len]
  have : j = 0 ∨ j = 1 ∨ j = 2 ∨ j = 3 ∨ j = 4 := by omega
  rcases this with rfl | rfl | rfl | rfl | rfl <;> decide
theorem chK_len (d a b s : List Int) (h : okN a.length b.length = true) (j : Nat) (hj : j < 2) : (chK d a b s j).length = 36 := by
  unfold chK
  rw [if_pos h]
  refine cutK_len _ _ _ ?_
  unfold chA
  rw [plusS_len]
  omega
theorem ok_drawn (t u : Nat) (ht : t < 20) (hu : u < 20) : okN (16 + t) (16 + u) = true := (okN_iff _ _).2 (by omega)
set_option maxHeartbeats 800000 in
set_option maxRecDepth 100000 in
theorem gbytes_bod (a : Nat) (ha : a < 18446744073709551616) (w : World) : Calls Tryd.prog 47 #[.int .u64 a] w fun e w' => ∃ q d, e = .returned (.slice q 8 d) ∧ Bod w' w.heap.size q 8 d (gbytes a) ∧ Below w.heap.size w w' := by
  have HP := hidden (fun W => put_yes none 0 0 [] W (Byt.nil _ _ _ (Nat.zero_le _)) (by omega) (a : Int) (by omega) 8 (by omega) (by omega))
  rw [List.nil_append, show be 8 (a : Int) = gbytes a from rfl, show ((8 : Nat) : Int) = 8 from rfl] at HP
  have hl := Is.mk (gbytes_len a)
  have HR := hidden (gbytes_rng a)
  generalize gbytes a = R at *
  go_enter Tryd.func47, Tryd.ntmps47
  go_wp2_with (first
    | (go_at_call 39; (with_reducible refine (HP.out _).mono ?_); rintro en w2 ⟨v, rfl, ho, hb⟩; obtain ⟨q, d, rfl, hy⟩ := ho.bod hl.eq HR.out; have HB := hidden hb; have HY := hidden hy; clear ho hb hy)
    | fail)
  go_ret
  exact ⟨_, _, rfl, HY.out, HB.out⟩
set_option maxHeartbeats 1600000 in
set_option maxRecDepth 100000 in
theorem shr_bod (s y : Nat) (h1 : 1 ≤ s) (h2 : s < gq) (hy : gel y = true) (hl : y < 18446744073709551616) (w : World) :
    Calls Tryd.prog 27 #[.int .u64 s, .int .u64 y] w fun e w' => ∃ q d, e = .returned (.tuple #[.slice q 8 d, .int .i64 0]) ∧ Bod w' w.heap.size q 8 d (gbytes (gpow y s)) ∧ Below w.heap.size w w' := by
  have HS := hidden (sec_any s)
  have HE := hidden (gel_any y hl)
  have HP := hidden (gpow_any y s hl (Nat.lt_trans h2 (by decide)))
  have HY := hidden (gbytes_bod (gpow y s) (Nat.lt_trans (gpow_lt _ _) (by decide)))
  rw [gsec_yes s ⟨h1, h2⟩] at HS
  rw [hy] at HE
  generalize gbytes (gpow y s) = R at *
  generalize gpow y s = g at *
  clear hy
  go_enter Tryd.func27, Tryd.ntmps27
  go_wp2_with (first
    | (go_at_call 44; (with_reducible refine (HS.out _).mono ?_); rintro en w2 ⟨rfl, hb⟩; have HB := hidden hb; clear hb)
    | (go_at_call 46; (with_reducible refine (HE.out _).mono ?_); rintro en w3 ⟨rfl, hb⟩; have HB2 := hidden (HB.out.trans (hb.mono HB.out.size)); clear hb)
    | (go_at_call 45; (with_reducible refine (HP.out _).mono ?_); rintro en w4 ⟨rfl, hb⟩; have HB3 := hidden (HB2.out.trans (hb.mono HB2.out.size)); clear hb)
    | (go_at_call 47; (with_reducible refine (HY.out _).mono ?_); rintro en w5 ⟨q, d, rfl, hy, hb⟩; have HB4 := hidden (HB3.out.trans (hb.mono HB3.out.size)); have HZ := hidden (hy.mono HB3.out.size); clear hb hy)
    | fail)
  go_ret2
  exact ⟨_, _, rfl, HZ.out, HB4.out⟩
set_option maxHeartbeats 4000000 in
set_option maxRecDepth 100000 in
theorem keysAgree_walk (p0 : Option Addr) (n0 c0 : Nat) (xs0 : List Int) (z1 z2 : Int) (w : World) (h0 : Byt w p0 n0 c0 xs0) (r0 : c0 ≤ 140737488351232) (g1 : 0 ≤ z1 ∧ z1 ≤ 18446744073709551615) (g2 : 0 ≤ z2 ∧ z2 ≤ 18446744073709551615) (hK : KAt w) :
    Calls Tryd.prog 5 #[.slice p0 n0 c0, .int .u64 z1, .int .u64 z2] w fun e w' => e = .returned (.bool true) ∧ Below w.heap.size w w' := by
  have HA := hidden (awake16_any w hK)
  have HK := hidden (fun W (hW : Below w.heap.size w W) => hK.below hW hK.lt)
  have H0 := hidden h0
  clear h0 hK r0
  go_enter Tryd.func5, Tryd.ntmps5
  go_upto_region 7 with (first
    | (go_at_call 7; (with_reducible refine (HA.out).mono ?_); rintro en w1 ⟨rfl, hb⟩; have HB1 := hidden hb; clear hb)
    | (go_at_call 8; (refine (new_any w p0 n0 c0 xs0 w1 H0.out HB1.out 160 (by omega)).mono ?_); rintro en w2 ⟨rfl, hc, hb⟩; have HC2 := hidden hc; have HB2 := hidden (HB1.out.trans (hb.mono HB1.out.size)); have hk2 := hc.base; have hk2' := hc.lt; clear hc hb)
    | (go_at_call 25; (with_reducible refine (secret_any w w2 _ HC2.out).mono ?_); rintro en w3 ⟨⟨a, rfl, a1, a2⟩, hc, hg⟩; have HC3 := hidden hc; have HB3 := hidden (HB2.out.grown hg HB2.out.size (fun k e => by cases e; exact hk2)); have hs3 := hg.size; clear hc hg)
    | (go_at_call 25; (with_reducible refine (secret_any w w3 _ HC3.out).mono ?_); rintro en w4 ⟨⟨b, rfl, b1, b2⟩, hc, hg⟩; have HC4 := hidden hc; have HB4 := hidden (HB3.out.grown hg HB3.out.size (fun k e => by cases e; exact hk2)); have hs4 := hg.size; clear hc hg)
    | (go_at_call 26; (with_reducible refine (pub_secret a a1 a2 w4).mono ?_); rintro en w5 ⟨rfl, hb⟩; have HB5 := hidden (HB4.out.trans (hb.mono HB4.out.size)); have HC5 := hidden (HC4.out.below hb); have hs5 := hb.size; clear hb)
    | (go_at_call 26; (with_reducible refine (pub_secret b b1 b2 w5).mono ?_); rintro en w6 ⟨rfl, hb⟩; have HB6 := hidden (HB5.out.trans (hb.mono HB5.out.size)); have HC6 := hidden (HC5.out.below hb); have hs6 := hb.size; clear hb)
    | fail)
  have la := Nat.lt_trans (gpow_lt 4 a) gp_lt
  have lb := Nat.lt_trans (gpow_lt 4 b) gp_lt
  have ea := gel_secret a a1 a2
  have eb := gel_secret b b1 b2
  have S1 := hidden (shr_bod a (gpow 4 b) a1 a2 eb lb)
  have S2 := hidden (shr_bod b (gpow 4 a) b1 b2 ea la)
  rw [gpow_pow, Nat.mul_comm b a, ← gpow_pow] at S1
  generalize gpow (gpow 4 a) b = S at *
  generalize gpow 4 a = x at *
  generalize gpow 4 b = y at *
  generalize gbytes S = R at *
  have hkw : w1.heap.size < w6.heap.size := by omega
  generalize w1.heap.size = k at *
  clear a1 a2 b1 b2 la lb ea eb hs3 hs4 hs5 hs6 HB1 HB2 HB3 HB4 HB5 HC2 HC3 HC4 HC5 HA hk2'
  go_upto_region 10 with (first
    | (go_at_call 27; (with_reducible refine (S1.out _).mono ?_); rintro en v1 ⟨q1, d1, rfl, hy, hb⟩; have HV1 := hidden (HB6.out.trans (hb.mono HB6.out.size)); have HY1 := hidden hy; have HC7 := hidden (HC6.out.below hb); have hs7 := hb.size; clear hb hy)
    | (go_at_call 27; (with_reducible refine (S2.out _).mono ?_); go_loud (rintro en v2 ⟨q2, d2, rfl, hy, hb⟩); go_loud (have HV2 := hidden (HV1.out.trans (hb.mono HV1.out.size))); go_loud (have HZ2 := hidden (HY1.out.below hb)); go_loud (have HY2 := hidden hy); go_loud (have hkv1 : k < v1.heap.size := (by omega)); go_loud (have HC8 := hidden (next_any w v2 k (HC7.out.below hb) 20 (by omega))); go_loud (have hs8 := hb.size); go_loud (have HR8 := hidden (Below.refl v2.heap.size v2)); go_loud (have hk8 : k < v2.heap.size := by omega); go_loud (clear hb hy))
    | (go_at_call 29; (with_reducible refine (HC8.out).mono ?_); rintro en v3 ⟨t, rfl, t0, t1, hc, hg⟩; obtain ⟨t, rfl⟩ := Int.eq_ofNat_of_zero_le t0; have HG3 := hidden hg; have HM3 := hidden (mbytes_any w v3 k hc (16 + t) (by omega)); rw [show ((16 + t : Nat) : Int) = 16 + (t : Int) by omega] at HM3; clear hc hg HC8)
    | (go_at_call 28; (with_reducible refine (HM3.out).mono ?_); rintro en v4 ⟨pa, ca, na, rfl, hy, hc, hg⟩; have HG4 := hidden (grown_trans HG3.out hg); have HA4 := hidden hy; have HN4 := hidden (next_any w v4 k hc 20 (by omega)); have hz4 := HG3.out.size; have hz4' := hg.size; clear hc hg hy HM3)
    | (go_at_call 29; (with_reducible refine (HN4.out).mono ?_); rintro en v5 ⟨u, rfl, u0, u1, hc, hg⟩; obtain ⟨u, rfl⟩ := Int.eq_ofNat_of_zero_le u0; have HG5 := hidden (grown_trans HG4.out hg); have HA5 := hidden (HA4.out.grown hg (OffB.low (by omega))); have HM5 := hidden (mbytes_any w v5 k hc (16 + u) (by omega)); rw [show ((16 + u : Nat) : Int) = 16 + (u : Int) by omega] at HM5; clear hc hg HN4 HA4)
    | (go_at_call 28; (with_reducible refine (HM5.out).mono ?_); rintro en v6 ⟨pb, cb, nb, rfl, hy, hc, hg⟩; have HG6 := hidden (grown_trans HG5.out hg); have HA6 := hidden (HA5.out.grown hg (OffB.low (by omega))).byt; have HY6 := hidden hy.byt; clear hc hg hy HM5)
    | fail)
  have HV6 := hidden (HV2.out.grown HG6.out HV2.out.size (fun j e => by cases e; exact hk2))
  have HU := hidden (HZ2.out.grown HG6.out (OffB.low hkw)).byt
  have HU2 := hidden (HY2.out.grown HG6.out (OffB.low hkv1)).byt
  have HKW := hidden (fun W (hW : Below v6.heap.size v6 W) => HK.out W (HV6.out.trans (hW.mono HV6.out.size)))
  have hla := HA6.out.len
  have hlb := HY6.out.len
  have HOK := Is.mk (ok_drawn t u (by omega) (by omega))
  generalize 16 + t = n1 at *
  generalize 16 + u = n2 at *
  have hE1 : seedE n1 n2 8 = 0 := by unfold seedE; rw [if_pos ⟨HOK.eq, by decide⟩]
  have hE2 : keyE n1 n2 = 0 := by unfold keyE; rw [if_pos HOK.eq]
  have hok' : okN na.length nb.length = true := by rw [hla, hlb]; exact HOK.eq
  have hTl : (seedR na nb R).length = 32 := seedR_len _ _ _ (by rw [hla, hlb, HU.out.len]; exact hE1)
  have HS := hidden (fun (q : Option Addr) (d : Nat) W (hW : Below v6.heap.size v6 W) (hq : Byt W q 8 d R) => kseed_any pa pb q n1 ca n2 cb 8 d na nb R W (HA6.out.below hW) (HY6.out.below hW) hq (by omega) (HKW.out W hW))
  have HD := hidden (fun (q : Option Addr) (d : Nat) W (hW : Below v6.heap.size v6 W) (hq : Byt W q 32 d (seedR na nb R)) => kder_any q pa pb 32 d n1 ca n2 cb (seedR na nb R) na nb z1 z2 W hq (by omega) (HA6.out.below hW) (HY6.out.below hW) g1 g2 (HKW.out W hW))
  have HCH := hidden (fun (q : Option Addr) (d : Nat) W (hW : Below v6.heap.size v6 W) (hq : Byt W q 32 d (keyK (seedR na nb R) na nb z1 z2 0)) => kch_any q pa pb none 32 d n1 ca n2 cb 0 0 (keyK (seedR na nb R) na nb z1 z2 0) na nb [] W hq (by omega) (HA6.out.below hW) (HY6.out.below hW) (Byt.nil _ _ _ (by decide)) (by omega) (HKW.out W hW))
  have HLK := hidden (keyK_len (seedR na nb R) na nb z1 z2 hok')
  have HLC := hidden (chK_len (keyK (seedR na nb R) na nb z1 z2 0) na nb [] hok')
  rw [hE1] at HS
  rw [hE2] at HD HCH
  generalize chK (keyK (seedR na nb R) na nb z1 z2 0) na nb [] = M at *
  generalize keyK (seedR na nb R) na nb z1 z2 = L at *
  generalize seedR na nb R = T at *
  have HTL := Is.mk hTl
  have HR0 := hidden (Below.refl v6.heap.size v6)
  clear hTl hok' hE1 hE2 hla hlb HG3 HG4 HG5 HA5 HZ2 HY2 HV1 HV2 HB6 HY1 HC6 HC7 HR8 hk8 hkw hkv1 hs7 hs8 hk2 hz4 hz4' HOK HA6 HY6 HK H0 HKW S1 S2 HG6 t0 t1 u0 u1
  go_upto_region 15 with (first
    | (go_at_call 10; (with_reducible refine (HS.out _ _ _ HR0.out HU.out).mono ?_); rintro e x1 ⟨q5, N5, d5, rfl, hy, hb⟩; obtain rfl : N5 = 32 := (by rw [← hy.len, HTL.eq]); have HX1 := hidden (HR0.out.trans (hb.mono HR0.out.size)); have Y1 := hidden hy; have HU3 := hidden (HU2.out.below hb); clear hy hb)
    | (go_at_call 10; (with_reducible refine (HS.out _ _ _ HX1.out HU3.out).mono ?_); go_loud (rintro e x2 ⟨q6, N6, d6, rfl, hy, hb⟩); go_loud (obtain rfl : N6 = 32 := (by rw [← hy.len, HTL.eq])); go_loud (have HX2 := hidden (HX1.out.trans (hb.mono HX1.out.size))); go_loud (have Y2 := hidden hy); go_loud (have Y12 := hidden (Y1.out.below hb)); go_loud (clear hy hb HS))
    | (go_at_call 15; (with_reducible refine (HD.out _ _ _ HX2.out Y12.out).mono ?_); rintro e x3 ⟨s0, s1, s2, s3, s4, m0, m1, m2, m3, m4, f0, f1, f2, f3, f4, rfl, ⟨y0, y1, y2, y3, y4⟩, hb⟩; have HX3 := hidden (HX2.out.trans (hb.mono HX2.out.size)); have Y23 := hidden (Y2.out.below hb); obtain rfl : m0 = 32 := (by rw [← y0.len, HLK.out 0 (by decide)]; rfl); obtain rfl : m1 = 36 := (by rw [← y1.len, HLK.out 1 (by decide)]; rfl); obtain rfl : m2 = 36 := (by rw [← y2.len, HLK.out 2 (by decide)]; rfl); obtain rfl : m3 = 32 := (by rw [← y3.len, HLK.out 3 (by decide)]; rfl); obtain rfl : m4 = 32 := (by rw [← y4.len, HLK.out 4 (by decide)]; rfl); have Y7 : Hid (Rd5 x3 s0 s1 s2 s3 s4 32 36 36 32 32 f0 f1 f2 f3 f4 L) := hidden ⟨y0, y1, y2, y3, y4⟩; clear y0 y1 y2 y3 y4 hb)
    | fail)
  have k8 := K5.new (p0 := s0) (p1 := s1) (p2 := s2) (p3 := s3) (p4 := s4) (n0 := 32) (n1 := 36) (n2 := 36) (n3 := 32) (n4 := 32) (c0 := f0) (c1 := f1) (c2 := f2) (c3 := f3) (c4 := f4) x3 34
  have b8 := (Below.refl x3.heap.size x3).alloc (Nat.le_refl _) (.cells #[.slice s0 32 f0, .slice s1 36 f1, .slice s2 36 f2, .slice s3 32 f3, .slice s4 32 f4] 34)
  generalize World.alloc _ _ = x4 at *
  have HX4 := hidden (HX3.out.trans (b8.mono HX3.out.size))
  have Y24 := hidden (Y23.out.below b8)
  have Y8 := hidden (Y7.out.below b8)
  have K8 := hidden k8
  clear k8 b8 HX1 HX3 HR0 Y7 Y1 Y2 Y12 Y23 HU HU2 HU3
  go_upto_region 16 with (first
    | (go_at_call 15; (with_reducible refine (HD.out _ _ _ HX4.out Y24.out).mono ?_); rintro e x5 ⟨t0, t1, t2, t3, t4, l0, l1, l2, l3, l4, j0, j1, j2, j3, j4, rfl, ⟨y0, y1, y2, y3, y4⟩, hb⟩; have HX5 := hidden (HX4.out.trans (hb.mono HX4.out.size)); have Y89 := hidden (Y8.out.below hb); have K89 := hidden (K8.out.below hb); obtain rfl : l0 = 32 := (by rw [← y0.len, HLK.out 0 (by decide)]; rfl); have Y9 : Hid (Rd5 x5 t0 t1 t2 t3 t4 32 l1 l2 l3 l4 j0 j1 j2 j3 j4 L) := hidden ⟨y0, y1, y2, y3, y4⟩; clear y0 y1 y2 y3 y4 hb HD)
    | fail)
  have k9 := K5.new (p0 := t0) (p1 := t1) (p2 := t2) (p3 := t3) (p4 := t4) (n0 := 32) (n1 := l1) (n2 := l2) (n3 := l3) (n4 := l4) (c0 := j0) (c1 := j1) (c2 := j2) (c3 := j3) (c4 := j4) x5 34
  have b9 := (Below.refl x5.heap.size x5).alloc (Nat.le_refl _) (.cells #[.slice t0 32 j0, .slice t1 l1 j1, .slice t2 l2 j2, .slice t3 l3 j3, .slice t4 l4 j4] 34)
  generalize World.alloc _ _ = x6 at *
  have HX6 := hidden (HX5.out.trans (b9.mono HX5.out.size))
  have HSM := hidden (same16_any _ _ _ _ _ _ _ _ _ _ _ _ _ _ _ _ _ _ _ _ _ _ _ _ _ _ _ _ _ _ L x6 (Y89.out.below b9) (Y9.out.below b9))
  have Y10 := hidden (Y89.out.below b9).y0
  have Y11 := hidden (Y9.out.below b9).y0
  have HKA := hidden (K89.out.below b9)
  have HKB := hidden k9
  obtain ⟨a0, a1, a2, a3, a4, -⟩ := HKA.out
  obtain ⟨b0, b1, b2, b3, b4, -⟩ := HKB.out
  clear b9 k9 HX4 HX5 Y8 Y89 Y9 K8 K89 Y24
  go_upto_region 19 with (first
    | (go_at_call 17; (with_reducible refine (HSM.out).mono ?_); rintro e x7 ⟨rfl, hb⟩; have HX7 := hidden (HX6.out.trans (hb.mono HX6.out.size)); have Y17 := hidden (Y10.out.below hb); have Y18 := hidden (Y11.out.below hb); have HKC := hidden (HKB.out.below hb); obtain ⟨a0, a1, a2, a3, a4, -⟩ := HKA.out.below hb; clear hb HSM)
    | (go_at_call 18; (with_reducible refine (HCH.out _ _ _ HX7.out Y17.out).mono ?_); rintro e x8 ⟨u0, u1, i0, i1, o0, o1, rfl, ⟨y0, y1⟩, hb⟩; have HX8 := hidden (HX7.out.trans (hb.mono HX7.out.size)); obtain rfl : i0 = 36 := (by rw [← y0.len, HLC.out 0 (by decide)]); obtain rfl : i1 = 36 := (by rw [← y1.len, HLC.out 1 (by decide)]); have Z0 := hidden y0; have Z1 := hidden y1; have Y19 := hidden (Y18.out.below hb); have HKD := hidden (HKC.out.below hb); clear y0 y1 hb)
    | fail)
  have k12 := K2.new (p0 := u0) (p1 := u1) (n0 := 36) (n1 := 36) (c0 := o0) (c1 := o1) x8 39
  have b12 := (Below.refl x8.heap.size x8).alloc (Nat.le_refl _) (.cells #[.slice u0 36 o0, .slice u1 36 o1] 39)
  generalize World.alloc _ _ = x9 at *
  have HX9 := hidden (HX8.out.trans (b12.mono HX8.out.size))
  have Z09 := hidden (Z0.out.below b12)
  have Z19 := hidden (Z1.out.below b12)
  have Y20 := hidden (Y19.out.below b12)
  have K12 := hidden k12
  obtain ⟨b0, b1, b2, b3, b4, -⟩ := HKD.out.below b12
  clear k12 b12 HX6 HX7 HX8 Z0 Z1 Y17 Y18 Y19 Y10 Y11 HKA HKB HKC HKD
  go_upto_region 20 with (first
    | (go_at_call 18; (with_reducible refine (HCH.out _ _ _ HX9.out Y20.out).mono ?_); rintro e x10 ⟨r0, r1, h0, h1, v0, v1, rfl, ⟨y0, y1⟩, hb⟩; have HX10 := hidden (HX9.out.trans (hb.mono HX9.out.size)); have W0 := hidden y0; have W1 := hidden y1; have Z010 := hidden (Z09.out.below hb); have Z110 := hidden (Z19.out.below hb); have K14 := hidden (K12.out.below hb); clear y0 y1 hb HCH)
    | fail)
  have k14 := K2.new (p0 := r0) (p1 := r1) (n0 := h0) (n1 := h1) (c0 := v0) (c1 := v1) x10 39
  have b14 := (Below.refl x10.heap.size x10).alloc (Nat.le_refl _) (.cells #[.slice r0 h0 v0, .slice r1 h1 v1] 39)
  generalize World.alloc _ _ = x11 at *
  have HX11 := hidden (HX10.out.trans (b14.mono HX10.out.size))
  have HK15 := hidden (K14.out.below b14)
  have HK15' := hidden k14
  have HE0 := hidden (equal_likeK u0 r0 36 o0 h0 v0 (M 0) x11 (Z010.out.below b14) (W0.out.below b14))
  have HE1 := hidden (fun W (hW : Below x11.heap.size x11 W) => equal_likeK u1 r1 36 o1 h1 v1 (M 1) W ((Z110.out.below b14).below hW) ((W1.out.below b14).below hW))
  obtain ⟨a0, a1, -⟩ := HK15.out
  obtain ⟨b0, b1, -⟩ := k14
  clear b14 HX9 HX10 Z010 Z110 W0 W1 K14 Z09 Z19 K12 Y20
  go_wp2_with (first
    | (go_at_call 12; (with_reducible refine (HE0.out).mono ?_); rintro e x12 ⟨rfl, hb⟩; have HX12 := hidden (HX11.out.trans (hb.mono HX11.out.size)); have HE16 := hidden (HE1.out x12 hb); obtain ⟨a0, a1, -⟩ := HK15.out.below hb; obtain ⟨b0, b1, -⟩ := HK15'.out.below hb; clear hb HE0)
    | (go_at_call 12; (with_reducible refine (HE16.out).mono ?_); rintro e x13 ⟨rfl, hb⟩; have HX13 := hidden (HX12.out.trans (hb.mono HX12.out.size)); clear hb)
    | fail)
  go_ret
  exact ⟨rfl, HV6.out.trans (HX13.out.mono HV6.out.size)⟩
end Go.Proofs.YtgpigjoonhghhaaDoor
