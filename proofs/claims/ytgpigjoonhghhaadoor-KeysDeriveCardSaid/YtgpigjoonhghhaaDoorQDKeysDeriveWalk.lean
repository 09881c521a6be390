/-
  The law KeysDerive, walked: it returns true for every input, and only adds memory of its own.
-/
import Derived.Test.YtgpigjoonhghhaaDoorQDKeyLaw
import Derived.Deep.Cut
namespace Go.Proofs.YtgpigjoonhghhaaDoor
open Go.RowKit
set_option linter.unusedVariables false
set_option maxHeartbeats 4000000 in
set_option maxRecDepth 100000 in
theorem keysDerive_walk (p0 : Option Addr) (n0 c0 : Nat) (xs0 : List Int) (p1 : Option Addr) (n1 c1 : Nat) (xs1 : List Int) (p2 : Option Addr) (n2 c2 : Nat) (xs2 : List Int) (z3 z4 : Int) (w : World) (h0 : Byt w p0 n0 c0 xs0) (r0 : c0 ≤ 140737488351232) (h1 : Byt w p1 n1 c1 xs1) (r1 : c1 ≤ 140737488351232) (h2 : Byt w p2 n2 c2 xs2) (r2 : c2 ≤ 140737488351232)
    (g3 : 0 ≤ z3 ∧ z3 ≤ 18446744073709551615) (g4 : 0 ≤ z4 ∧ z4 ≤ 18446744073709551615) (hK : KAt w) :
    Calls Tryd.prog 3 #[.slice p0 n0 c0, .slice p1 n1 c1, .slice p2 n2 c2, .int .u64 z3, .int .u64 z4] w fun e w' => e = .returned (.bool true) ∧ Below w.heap.size w w' := by
  have HA := hidden (awake16_any w hK)
  have HK := hidden (fun W (hW : Below w.heap.size w W) => hK.below hW hK.lt)
  have H0 := hidden h0
  have H1 := hidden (fun W (hW : Below w.heap.size w W) => h1.below hW)
  have H2 := hidden (fun W (hW : Below w.heap.size w W) => h2.below hW)
  have hl1 := h1.le
  have hl2 := h2.le
  clear h0 h1 h2 hK r0 r1 r2
  go_enter Tryd.func3, Tryd.ntmps3
  by_cases s1 : n1 ≤ 300
  rotate_left
  · have e1 : (300 : Int) < n1 := by omega
    go_wp2_with (first
      | (go_at_call 7; (with_reducible refine (HA.out).mono ?_); rintro e w1 ⟨rfl, hb⟩; have HB1 := hidden hb; clear hb)
      | fail)
    go_ret
    exact ⟨rfl, HB1.out⟩
  have e1 : ¬ (300 : Int) < n1 := by omega
  by_cases s2 : n2 ≤ 300
  rotate_left
  · have e2 : (300 : Int) < n2 := by omega
    go_wp2_with (first
      | (go_at_call 7; (with_reducible refine (HA.out).mono ?_); rintro e w1 ⟨rfl, hb⟩; have HB1 := hidden hb; clear hb)
      | fail)
    go_ret
    exact ⟨rfl, HB1.out⟩
  have e2 : ¬ (300 : Int) < n2 := by omega
  go_upto_region 7 with (first
    | (go_at_call 7; (with_reducible refine (HA.out).mono ?_); rintro e w1 ⟨rfl, hb⟩; have HB1 := hidden hb; clear hb)
    | (go_at_call 8; (refine (new_any w p0 n0 c0 xs0 w1 H0.out HB1.out 160 (by omega)).mono ?_); rintro e w2 ⟨rfl, hc, hb⟩; have HN2 := hidden (nonce_any w w2 _ hc); have HB2 := hidden (HB1.out.trans (hb.mono HB1.out.size)); have hk2 := hc.base; have hk2' := hc.lt; clear hc hb)
    | (go_at_call 9; (with_reducible refine (HN2.out).mono ?_); rintro e w3 ⟨pa, na, ca, a, rfl, hy, hna, hc, hg⟩; have HY3 := hidden hy; have HN3 := hidden (nonce_any w w3 _ hc); have HB3 := hidden (HB2.out.grown hg HB2.out.size (fun k e => by cases e; exact hk2)); clear hy hc hg HN2)
    | (go_at_call 9; (with_reducible refine (HN3.out).mono ?_); rintro e w4 ⟨pb, nb, cb, b, rfl, hy, hnb, hc, hg⟩; have HA4 := hidden (HY3.out.grown hg (OffB.low hk2')).byt; have HY4 := hidden hy.byt; have HB4 := hidden (HB3.out.grown hg HB3.out.size (fun k e => by cases e; exact hk2)); clear hy hc hg HN3)
    | fail)
  have HKW := hidden (fun W (hW : Below w4.heap.size w4 W) => HK.out W (HB4.out.trans (hW.mono HB4.out.size)))
  have HW1 := hidden (fun W (hW : Below w4.heap.size w4 W) => H1.out W (HB4.out.trans (hW.mono HB4.out.size)))
  have HW2 := hidden (fun W (hW : Below w4.heap.size w4 W) => H2.out W (HB4.out.trans (hW.mono HB4.out.size)))
  have HS := hidden (fun W (hW : Below w4.heap.size w4 W) => kseed_any pa pb p1 na ca nb cb n1 c1 a b xs1 W (HA4.out.below hW) (HY4.out.below hW) (HW1.out W hW) (by omega) (HKW.out W hW))
  have HRS := hidden (fun W (hW : Below w4.heap.size w4 W) => rkseed_any pa pb p1 na ca nb cb n1 c1 a b xs1 W (HA4.out.below hW) (HY4.out.below hW) (HW1.out W hW) (by omega))
  have HR := hidden (fun W (hW : Below w4.heap.size w4 W) => krek_any p2 pa pb p1 n2 c2 na ca nb cb n1 c1 xs2 a b xs1 W (HW2.out W hW) (by omega) (HA4.out.below hW) (HY4.out.below hW) (HW1.out W hW) (by omega) (HKW.out W hW))
  have HRR := hidden (fun W (hW : Below w4.heap.size w4 W) => rkrek_any p2 pa pb p1 n2 c2 na ca nb cb n1 c1 xs2 a b xs1 W (HW2.out W hW) (by omega) (HA4.out.below hW) (HY4.out.below hW) (HW1.out W hW) (by omega))
  have HD := hidden (fun W (hW : Below w4.heap.size w4 W) => kder_any p2 pa pb n2 c2 na ca nb cb xs2 a b z3 z4 W (HW2.out W hW) (by omega) (HA4.out.below hW) (HY4.out.below hW) g3 g4 (HKW.out W hW))
  have HRD := hidden (fun W (hW : Below w4.heap.size w4 W) => rkder_any p2 pa pb n2 c2 na ca nb cb xs2 a b z3 z4 W (HW2.out W hW) (by omega) (HA4.out.below hW) (HY4.out.below hW) g3 g4)
  have HC := hidden (fun W (hW : Below w4.heap.size w4 W) => kch_any p2 pa pb p1 n2 c2 na ca nb cb n1 c1 xs2 a b xs1 W (HW2.out W hW) (by omega) (HA4.out.below hW) (HY4.out.below hW) (HW1.out W hW) (by omega) (HKW.out W hW))
  have HRC := hidden (fun W (hW : Below w4.heap.size w4 W) => rkch_any p2 pa pb p1 n2 c2 na ca nb cb n1 c1 xs2 a b xs1 W (HW2.out W hW) (by omega) (HA4.out.below hW) (HY4.out.below hW) (HW1.out W hW) (by omega))
  generalize seedR a b xs1 = R1 at *
  generalize rekR xs2 a b xs1 = R2 at *
  generalize seedE na nb n1 = E1 at *
  generalize keyK xs2 a b z3 z4 = L at *
  generalize chK xs2 a b xs1 = M at *
  generalize keyE na nb = E2 at *
  have HR0 := hidden (Below.refl w4.heap.size w4)
  clear HA H0 H1 H2 HB1 HB2 HB3 HY3 HA4 HY4 HW1 HW2 HKW HK s1 s2 e1 e2 hl1 hl2 hk2 hk2' hna hnb
  go_upto_region 16 with (first
    | (go_at_call 10; (with_reducible refine (HS.out _ HR0.out).mono ?_); rintro e v1 ⟨q1, N1, d1, rfl, hy, hb⟩; have HV1 := hidden (HR0.out.trans (hb.mono HR0.out.size)); have Y1 := hidden hy; clear hy hb HS)
    | (go_at_call 11; (with_reducible refine (HRS.out _ HV1.out).mono ?_); rintro e v2 ⟨q2, N2, d2, rfl, hy, hb⟩; have HV2 := hidden (HV1.out.trans (hb.mono HV1.out.size)); have HE2 := hidden (equal_likeK q1 q2 N1 d1 N2 d2 R1 v2 (Y1.out.below hb) hy); clear hy hb HRS Y1)
    | (go_at_call 12; (with_reducible refine (HE2.out).mono ?_); rintro e v3 ⟨rfl, hb⟩; have HV3 := hidden (HV2.out.trans (hb.mono HV2.out.size)); clear hb HE2)
    | (go_at_call 13; (with_reducible refine (HR.out _ HV3.out).mono ?_); rintro e v4 ⟨q4, N4, d4, rfl, hy, hb⟩; have HV4 := hidden (HV3.out.trans (hb.mono HV3.out.size)); have Y4 := hidden hy; clear hy hb HR)
    | (go_at_call 14; (with_reducible refine (HRR.out _ HV4.out).mono ?_); rintro e v5 ⟨q5, N5, d5, rfl, hy, hb⟩; have HV5 := hidden (HV4.out.trans (hb.mono HV4.out.size)); have HE5 := hidden (equal_likeK q4 q5 N4 d4 N5 d5 R2 v5 (Y4.out.below hb) hy); clear hy hb HRR Y4)
    | (go_at_call 12; (with_reducible refine (HE5.out).mono ?_); rintro e v6 ⟨rfl, hb⟩; have HV6 := hidden (HV5.out.trans (hb.mono HV5.out.size)); clear hb HE5)
    | (go_at_call 15; (with_reducible refine (HD.out _ HV6.out).mono ?_); rintro e v7 ⟨s0, s1, s2, s3, s4, m0, m1, m2, m3, m4, f0, f1, f2, f3, f4, rfl, ⟨y0, y1, y2, y3, y4⟩, hb⟩; have HV7 := hidden (HV6.out.trans (hb.mono HV6.out.size)); have Y7 : Hid (Rd5 v7 s0 s1 s2 s3 s4 m0 m1 m2 m3 m4 f0 f1 f2 f3 f4 L) := hidden ⟨y0, y1, y2, y3, y4⟩; clear y0 y1 y2 y3 y4 hb HD)
    | fail)
  have k8 := K5.new (p0 := s0) (p1 := s1) (p2 := s2) (p3 := s3) (p4 := s4) (n0 := m0) (n1 := m1) (n2 := m2) (n3 := m3) (n4 := m4) (c0 := f0) (c1 := f1) (c2 := f2) (c3 := f3) (c4 := f4) v7 34
  have b8 := (Below.refl v7.heap.size v7).alloc (Nat.le_refl _) (.cells #[.slice s0 m0 f0, .slice s1 m1 f1, .slice s2 m2 f2, .slice s3 m3 f3, .slice s4 m4 f4] 34)
  generalize World.alloc _ _ = v8 at *
  have HV8 := hidden (HV7.out.trans (b8.mono HV7.out.size))
  have Y8 := hidden (Y7.out.below b8)
  have K8 := hidden k8
  clear k8 b8 HV1 HV2 HV3 HV4 HV5 HV6 HR0 Y7
  go_upto_region 17 with (first
    | (go_at_call 16; (with_reducible refine (HRD.out _ HV8.out).mono ?_); rintro e v9 ⟨t0, t1, t2, t3, t4, l0, l1, l2, l3, l4, j0, j1, j2, j3, j4, rfl, ⟨y0, y1, y2, y3, y4⟩, hb⟩; have HV9 := hidden (HV8.out.trans (hb.mono HV8.out.size)); have Y89 := hidden (Y8.out.below hb); have K89 := hidden (K8.out.below hb); have Y9 : Hid (Rd5 v9 t0 t1 t2 t3 t4 l0 l1 l2 l3 l4 j0 j1 j2 j3 j4 L) := hidden ⟨y0, y1, y2, y3, y4⟩; clear y0 y1 y2 y3 y4 hb HRD)
    | fail)
  have k9 := K5.new (p0 := t0) (p1 := t1) (p2 := t2) (p3 := t3) (p4 := t4) (n0 := l0) (n1 := l1) (n2 := l2) (n3 := l3) (n4 := l4) (c0 := j0) (c1 := j1) (c2 := j2) (c3 := j3) (c4 := j4) v9 34
  have b9 := (Below.refl v9.heap.size v9).alloc (Nat.le_refl _) (.cells #[.slice t0 l0 j0, .slice t1 l1 j1, .slice t2 l2 j2, .slice t3 l3 j3, .slice t4 l4 j4] 34)
  generalize World.alloc _ _ = v10 at *
  have HV10 := hidden (HV9.out.trans (b9.mono HV9.out.size))
  have HSM := hidden (same16_any _ _ _ _ _ _ _ _ _ _ _ _ _ _ _ _ _ _ _ _ _ _ _ _ _ _ _ _ _ _ L v10 (Y89.out.below b9) (Y9.out.below b9))
  obtain ⟨a0, a1, a2, a3, a4, -⟩ := K89.out.below b9
  obtain ⟨x0, x1, x2, x3, x4, -⟩ := k9
  clear b9 HV7 HV8 HV9 Y8 Y89 Y9 K8 K89
  go_upto_region 20 with (first
    | (go_at_call 17; (with_reducible refine (HSM.out).mono ?_); rintro e v11 ⟨rfl, hb⟩; have HV11 := hidden (HV10.out.trans (hb.mono HV10.out.size)); clear hb HSM a0 a1 a2 a3 a4 x0 x1 x2 x3 x4)
    | (go_at_call 18; (with_reducible refine (HC.out _ HV11.out).mono ?_); rintro e v12 ⟨u0, u1, i0, i1, o0, o1, rfl, ⟨y0, y1⟩, hb⟩; have HV12 := hidden (HV11.out.trans (hb.mono HV11.out.size)); have Y0 := hidden y0; have Y1 := hidden y1; clear y0 y1 hb HC)
    | fail)
  have k12 := K2.new (p0 := u0) (p1 := u1) (n0 := i0) (n1 := i1) (c0 := o0) (c1 := o1) v12 39
  have b12 := (Below.refl v12.heap.size v12).alloc (Nat.le_refl _) (.cells #[.slice u0 i0 o0, .slice u1 i1 o1] 39)
  generalize World.alloc _ _ = v13 at *
  have HV13 := hidden (HV12.out.trans (b12.mono HV12.out.size))
  have Y0' := hidden (Y0.out.below b12)
  have Y1' := hidden (Y1.out.below b12)
  have K12 := hidden k12
  clear k12 b12 HV10 HV11 HV12 Y0 Y1
  go_upto_region 21 with (first
    | (go_at_call 19; (with_reducible refine (HRC.out _ HV13.out).mono ?_); rintro e v14 ⟨r0, r1, h0, h1, g0, g1, rfl, ⟨y0, y1⟩, hb⟩; have HV14 := hidden (HV13.out.trans (hb.mono HV13.out.size)); have Z0 := hidden y0; have Z1 := hidden y1; have X0 := hidden (Y0'.out.below hb); have X1 := hidden (Y1'.out.below hb); have K14 := hidden (K12.out.below hb); clear y0 y1 hb HRC)
    | fail)
  have k14 := K2.new (p0 := r0) (p1 := r1) (n0 := h0) (n1 := h1) (c0 := g0) (c1 := g1) v14 39
  have b14 := (Below.refl v14.heap.size v14).alloc (Nat.le_refl _) (.cells #[.slice r0 h0 g0, .slice r1 h1 g1] 39)
  generalize World.alloc _ _ = v15 at *
  have HV15 := hidden (HV14.out.trans (b14.mono HV14.out.size))
  have HK15 := hidden (K14.out.below b14)
  have HK15' := hidden k14
  have HE0 := hidden (equal_likeK u0 r0 i0 o0 h0 g0 (M 0) v15 (X0.out.below b14) (Z0.out.below b14))
  have HE1 := hidden (fun W (hW : Below v15.heap.size v15 W) => equal_likeK u1 r1 i1 o1 h1 g1 (M 1) W ((X1.out.below b14).below hW) ((Z1.out.below b14).below hW))
  obtain ⟨a0, a1, -⟩ := HK15.out
  obtain ⟨x0, x1, -⟩ := k14
  clear b14 HV13 HV14 X0 X1 Z0 Z1 K14 Y0' Y1' K12
  go_wp2_with (first
    | (go_at_call 12; (with_reducible refine (HE0.out).mono ?_); rintro e v16 ⟨rfl, hb⟩; have HV16 := hidden (HV15.out.trans (hb.mono HV15.out.size)); have HE16 := hidden (HE1.out v16 hb); obtain ⟨a0, a1, -⟩ := HK15.out.below hb; obtain ⟨x0, x1, -⟩ := HK15'.out.below hb; clear hb HE0)
    | (go_at_call 12; (with_reducible refine (HE16.out).mono ?_); rintro e v17 ⟨rfl, hb⟩; have HV17 := hidden (HV16.out.trans (hb.mono HV16.out.size)); clear hb)
    | fail)
  go_ret
  exact ⟨rfl, HB4.out.trans (HV17.out.mono HB4.out.size)⟩
end Go.Proofs.YtgpigjoonhghhaaDoor
