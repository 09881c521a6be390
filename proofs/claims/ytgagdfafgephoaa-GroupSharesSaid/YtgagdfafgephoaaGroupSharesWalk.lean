/-
  The law GroupShares, walked: it returns true for every input, and only adds memory of its own.
-/
import Derived.Test.YtgagdfafgephoaaGrpLaw
import Derived.Deep.RegionHeld3
namespace Go.Proofs.Ytgagdfafgephoaa
open Go.RowKit
set_option linter.unusedVariables false

theorem equal_all (q r : Option Addr) (n m d e : Nat) (R : List Int) (W : World) (h : Byt W q n d R) (h' : Byt W r m e R) :
    Calls Try.prog 21 #[.slice q n d, .slice r m e] W fun en w' => en = .returned (.bool true) ∧ Below W.heap.size W w' := by
  refine (requal_any q r n d m e R R W h h').mono ?_
  rintro en w' ⟨rfl, k, rfl⟩
  exact ⟨by rw [decide_eq_true rfl], drew_below ⟨k, rfl⟩⟩
theorem rpub_secret (s : Nat) (h1 : 1 ≤ s) (h2 : s < gq) (W : World) : Calls Try.prog 17 #[.int .u64 s] W fun e w' => e = .returned (.tuple #[.int .u64 ((gpow 4 s : Nat) : Int), .int .i64 0]) ∧ Below W.heap.size W w' := by
  have h := rpub_any s (Nat.lt_trans h2 (by decide)) W
  unfold pubV pubE at h
  rw [if_pos (gsec_yes s ⟨h1, h2⟩), if_pos (gsec_yes s ⟨h1, h2⟩)] at h
  exact h

set_option maxHeartbeats 3200000 in
set_option maxRecDepth 100000 in
theorem groupShares_walk (p0 : Option Addr) (n0 c0 : Nat) (xs0 : List Int) (z1 z2 : Int) (p3 : Option Addr) (n3 c3 : Nat) (xs3 : List Int) (w : World) (h0 : Byt w p0 n0 c0 xs0) (r0 : c0 ≤ 140737488351232) (g1 : 0 ≤ z1 ∧ z1 ≤ 18446744073709551615) (g2 : 0 ≤ z2 ∧ z2 ≤ 18446744073709551615) (h3 : Byt w p3 n3 c3 xs3) (r3 : c3 ≤ 140737488351232) :
    Calls Try.prog 4 #[.slice p0 n0 c0, .int .u64 z1, .int .u64 z2, .slice p3 n3 c3] w fun e w' => e = .returned (.bool true) ∧ Below w.heap.size w w' := by
  have HA := hidden (awake13_any w)
  have H0 := hidden h0
  have H3 := hidden h3
  have HEQ := hidden equal_all
  obtain ⟨a, rfl⟩ := Int.eq_ofNat_of_zero_le g1.1
  obtain ⟨b, rfl⟩ := Int.eq_ofNat_of_zero_le g2.1
  have ha : a < 18446744073709551616 := by omega
  have hb : b < 18446744073709551616 := by omega
  clear h0 h3
  go_enter Try.func4, Try.ntmps4
  go_upto_region 6 with (first
    | (go_at_call 8; (with_reducible refine (HA.out).mono ?_); rintro en w1 ⟨rfl, hb⟩; have HB1 := hidden hb; clear hb)
    | (go_at_call 15; (refine (new_any w p0 n0 c0 xs0 w1 H0.out HB1.out 60 (by omega)).mono ?_); rintro en w2 ⟨rfl, hc, hb⟩; have HC2 := hidden hc; have HB2 := hidden (HB1.out.trans (hb.mono HB1.out.size)); clear hc hb)
    | (go_at_call 16; (with_reducible refine (secret_any w w2 _ HC2.out).mono ?_); rintro en w3 ⟨⟨s, rfl, s1, s2⟩, hc, hg⟩; have HC3 := hidden hc; have HB3 := hidden (HB2.out.grown hg HB2.out.size (fun k e => by cases e; exact HC2.out.base)); clear hc hg)
    | (go_at_call 16; (with_reducible refine (secret_any w w3 _ HC3.out).mono ?_); rintro en w4 ⟨⟨t, rfl, t1, t2⟩, hc, hg⟩; have HB4 := hidden (HB3.out.grown hg HB3.out.size (fun k e => by cases e; exact HC3.out.base)); clear hc hg)
    | (go_at_call 17; (with_reducible refine (rpub_secret t t1 t2 w4).mono ?_); rintro en w5 ⟨rfl, hb⟩; have HB5 := hidden (HB4.out.trans (hb.mono HB4.out.size)); clear hb)
    | fail)
  have hs : s < 18446744073709551616 := Nat.lt_trans s2 (by decide)
  have hy := Nat.lt_trans (gpow_lt 4 t) gp_lt
  generalize gpow 4 t = y at *
  clear s1 s2 t1 t2
  go_upto_region 7 with fail
  generalize hw6 : w5.alloc (.cells _ 24) = w6
  obtain ⟨G, hG⟩ : ∃ G, w5.heap.size = G := ⟨_, rfl⟩
  have HB6 : Hid (Below w.heap.size w w6) := by rw [← hw6]; exact HB5.out.alloc HB5.out.size _
  have HCELL : Hid (∀ j : Nat, j < 6 → ∃ u v : Nat, u < 18446744073709551616 ∧ v < 18446744073709551616 ∧ w6.cell? ⟨G, j * 2, none⟩ = some (.int .u64 u) ∧ w6.cell? ⟨G, j * 2 + 1, none⟩ = some (.int .u64 v)) := by
    rw [← hw6, ← hG]
    intro j hj
    have : j = 0 ∨ j = 1 ∨ j = 2 ∨ j = 3 ∨ j = 4 ∨ j = 5 := by omega
    rcases this with rfl | rfl | rfl | rfl | rfl | rfl
    · exact ⟨a, b, ha, hb, by rw [World.cell?_alloc_at _ _ _ _ rfl]; rfl, by rw [World.cell?_alloc_at _ _ _ _ rfl]; rfl⟩
    · exact ⟨s, y, hs, hy, by rw [World.cell?_alloc_at _ _ _ _ rfl]; rfl, by rw [World.cell?_alloc_at _ _ _ _ rfl]; rfl⟩
    · exact ⟨a, y, ha, hy, by rw [World.cell?_alloc_at _ _ _ _ rfl]; rfl, by rw [World.cell?_alloc_at _ _ _ _ rfl]; rfl⟩
    · exact ⟨s, b, hs, hb, by rw [World.cell?_alloc_at _ _ _ _ rfl]; rfl, by rw [World.cell?_alloc_at _ _ _ _ rfl]; rfl⟩
    · refine ⟨(2305843009213688668 + (a : Int) % 3).toNat, y, by omega, hy, ?_, ?_⟩
      · rw [World.cell?_alloc_at _ _ _ _ rfl, Int.toNat_of_nonneg (by omega)]; rfl
      · rw [World.cell?_alloc_at _ _ _ _ rfl]; rfl
    · exact ⟨s, 1, hs, by decide, by rw [World.cell?_alloc_at _ _ _ _ rfl]; rfl, by rw [World.cell?_alloc_at _ _ _ _ rfl]; rfl⟩
  simp only [hG]
  have HBZ := hidden (Below.refl w6.heap.size w6)
  clear hw6 hG HA HC2 HC3
  go_wp2
  go_loopw [64] (fun i wr => ∃ j : Nat, j ≤ 6 ∧ i = .int .i64 j ∧ Below w6.heap.size w6 wr) (fun i _ => 6 - (intOf i).toNat)
  case atStart => exact ⟨0, by omega, rfl, HBZ.out⟩
  case round =>
    obtain ⟨j, hj, rfl, hbr⟩ := hrel
    have HBR := hidden hbr
    clear hbr HBZ
    by_cases hlt : j < 6
    · obtain ⟨u, v, hu, hv, c0, c1⟩ := HCELL.out j hlt
      have k0 := cell_below HBR.out _ _ c0
      have k1 := cell_below HBR.out _ _ c1
      clear c0 c1
      have hlt2 : (j : Int) < 6 := by omega
      have hnn : (0 : Int) ≤ (j : Int) := by omega
      go_upto_region 9 with fail
      clear k0 k1
      have P1 := hidden (pub_any u hu)
      have P2 := hidden (rpub_any u hu)
      have S1 := hidden (shr_any u v hu hv)
      have S2 := hidden (rshr_any u v hu hv)
      have B1 := hidden (gbytes_any v hv)
      have B2 := hidden (rgbytes_any v hv)
      generalize pubV u = pv at *
      generalize pubE u = pe at *
      generalize shrL u v = R at *
      generalize shrE u v = se at *
      generalize gbytes v = V at *
      generalize hwx : wr.alloc _ = wx
      obtain ⟨gx, hgx⟩ : ∃ g, wr.heap.size = g := ⟨_, rfl⟩
      have HK : Hid (∀ wy : World, Below wx.heap.size wx wy → wy.cell? ⟨gx, 0, none⟩ = some (.int .u64 u) ∧ wy.cell? ⟨gx, 1, none⟩ = some (.int .u64 v)) := by
        rw [← hwx, ← hgx]
        intro wy hb
        exact ⟨cell_below hb _ _ (by rw [World.cell?_alloc_at _ _ _ _ rfl]; rfl), cell_below hb _ _ (by rw [World.cell?_alloc_at _ _ _ _ rfl]; rfl)⟩
      have HBX : Hid (Below w6.heap.size w6 wx) := by rw [← hwx]; exact HBR.out.alloc HBR.out.size _
      simp only [hgx]
      clear hwx hgx
      have x0 := HK.out wx (Below.refl _ _)
      go_upto_region 13 with (first
        | (go_at_call 18; (with_reducible refine (P1.out _).mono ?_); rintro en v1 ⟨rfl, hb⟩; have HV1 := hidden hb; have x1 := HK.out v1 hb; clear hb)
        | (go_at_call 17; (with_reducible refine (P2.out _).mono ?_); rintro en v2 ⟨rfl, hb⟩; have HV2 := hidden (HV1.out.trans (hb.mono HV1.out.size)); have x2 := HK.out v2 HV2.out; clear hb)
        | (go_at_call 19; (with_reducible refine (S1.out _).mono ?_); rintro en v3 ⟨q3, n3', d3, rfl, hy3, hb⟩; have HV3 := hidden (HV2.out.trans (hb.mono HV2.out.size)); have HY3 := hidden hy3; have x3 := HK.out v3 HV3.out; clear hb hy3)
        | (go_at_call 20; (with_reducible refine (S2.out _).mono ?_); rintro en v4 ⟨q4, n4, d4, rfl, hy4, hb⟩; have HV4 := hidden (HV3.out.trans (hb.mono HV3.out.size)); have HZ3 := hidden (HY3.out.below hb); have HY4 := hidden hy4; clear hb hy4)
        | fail)
      clear x0 x1 x2 x3 HY3
      have HB : Hid (Below v4.heap.size v4 v4.drew) := hidden (drew_below ⟨1, rfl⟩)
      have HYA := hidden (fun W (hW : Below v4.heap.size v4 W) => HZ3.out.below hW)
      have HYB := hidden (fun W (hW : Below v4.heap.size v4 W) => HY4.out.below hW)
      have HKX := hidden (fun W (hW : Below v4.heap.size v4 W) => HK.out W (HV4.out.trans (hW.mono HV4.out.size)) |>.2)
      have e1 : ((pv : Int) != (pv : Int)) = false := by simp
      have e2 : (pe != pe) = false := by simp
      have e3 : (se != se) = false := by simp
      clear HK HZ3 HY4 HV1 HV2 HV3
      go_region_held3 (fun w' => w'.cell? ⟨gx, 1, none⟩ = some (.int .u64 v)) (first | exact HKX.out _ HB.out | go_keep) (first
        | (go_at_call 21; (with_reducible refine (HEQ.out _ _ _ _ _ _ _ _ (HYA.out _ HB.out) (HYB.out _ HB.out)).mono ?_); rintro en wn ⟨rfl, hb⟩; replace HB := hidden (HB.out.trans (hb.mono HB.out.size)); clear hb)
        | (go_at_call 22; (with_reducible refine (B1.out _).mono ?_); rintro en wn ⟨q5, n5, d5, rfl, hy5, hb⟩; replace HB := hidden (HB.out.trans (hb.mono HB.out.size)); have HY5 := hidden hy5; clear hb hy5)
        | (go_at_call 23; (with_reducible refine (B2.out _).mono ?_); rintro en wm ⟨q6, n6, d6, rfl, hy6, hb⟩; replace HB := hidden (HB.out.trans (hb.mono HB.out.size)); have HY6 := hidden hy6; replace HY5 := hidden (HY5.out.below hb); clear hb hy6)
        | (go_at_call 21; (with_reducible refine (HEQ.out _ _ _ _ _ _ _ _ HY5.out HY6.out).mono ?_); rintro en wo ⟨rfl, hb⟩; replace HB := hidden (HB.out.trans (hb.mono HB.out.size)); clear hb)
        | fail)
      all_goals
        go_wp2
        go_roundw
        case rel => exact ⟨j + 1, by omega, by go_num, HBX.out.trans ((HV4.out.trans (HB.out.mono HV4.out.size)).mono HBX.out.size)⟩
        case measure => simp [intOf]; omega
    · have hge : ¬ (j : Int) < 6 := by omega
      have HBW := hidden (HB6.out.trans (HBR.out.mono HB6.out.size))
      have B1 := hidden (rgbytes_any y hy)
      have B2 := hidden (rgbytes_any b hb)
      generalize gbytes y = Y at *
      generalize gbytes b = B at *
      go_upto_region 17 with (first
        | (go_at_call 23; (with_reducible refine (B1.out _).mono ?_); rintro en v1 ⟨q1, n1, d1, rfl, hy1, hb⟩; have HV1 := hidden (HBW.out.trans (hb.mono HBW.out.size)); have HY1 := hidden hy1; clear hb hy1)
        | (go_at_call 23; (with_reducible refine (B2.out _).mono ?_); rintro en v2 ⟨q2, n2, d2, rfl, hy2, hb⟩; have HV2 := hidden (HV1.out.trans (hb.mono HV1.out.size)); have HY2 := hidden hy2; have HZ1 := hidden (HY1.out.below hb); clear hb hy2)
        | fail)
      generalize hw7 : v2.alloc (.cells _ 29) = w7
      obtain ⟨G2, hG2⟩ : ∃ G, v2.heap.size = G := ⟨_, rfl⟩
      have HB7 : Hid (Below w.heap.size w w7) := by rw [← hw7]; exact HV2.out.alloc HV2.out.size _
      have HCELL2 : Hid (∀ j : Nat, j < 3 → ∃ p n c xs, w7.cell? ⟨G2, j, none⟩ = some (.slice p n c) ∧ Byt w7 p n c xs) := by
        rw [← hw7, ← hG2]
        intro j hj
        have : j = 0 ∨ j = 1 ∨ j = 2 := by omega
        rcases this with rfl | rfl | rfl
        · exact ⟨p3, n3, c3, xs3, by rw [World.cell?_alloc_at _ _ _ _ rfl]; rfl, (H3.out.below HV2.out).alloc _⟩
        · exact ⟨q1, n1, d1, Y, by rw [World.cell?_alloc_at _ _ _ _ rfl]; rfl, HZ1.out.alloc _⟩
        · exact ⟨q2, n2, d2, B, by rw [World.cell?_alloc_at _ _ _ _ rfl]; rfl, HY2.out.alloc _⟩
      simp only [hG2]
      have HBZ2 := hidden (Below.refl w7.heap.size w7)
      clear hw7 hG2 HCELL hlt hge hj
      go_wp2
      go_loopw [133] (fun i wr => ∃ j : Nat, j ≤ 3 ∧ i = .int .i64 j ∧ Below w7.heap.size w7 wr) (fun i _ => 3 - (intOf i).toNat)
      case atStart => exact ⟨0, by omega, rfl, HBZ2.out⟩
      case round =>
        obtain ⟨k, hk, rfl, hbr⟩ := hrel
        have HBS := hidden hbr
        clear hbr HBZ2
        by_cases hlt : k < 3
        · obtain ⟨px, nx, cx, xx, c0, hx⟩ := HCELL2.out k hlt
          have k0 := cell_below HBS.out _ _ c0
          have HX := hidden (hx.below HBS.out)
          have P1 := hidden (fun W h => gparse_any px nx cx xx W h)
          have P2 := hidden (fun W h => rgparse_any px nx cx xx W h)
          generalize parV xx = pv at *
          generalize parE xx = pe at *
          have e1 : (pv != pv) = false := by simp
          have e2 : (pe != pe) = false := by simp
          clear c0 hx
          have hlt2 : (k : Int) < 3 := by omega
          have hnn : (0 : Int) ≤ (k : Int) := by omega
          go_wp2_with (first
            | (go_at_call 24; (with_reducible refine (P1.out _ HX.out).mono ?_); rintro en u1 ⟨rfl, hb⟩; have HU1 := hidden (HBS.out.trans (hb.mono HBS.out.size)); have HX1 := hidden (HX.out.below hb); clear hb)
            | (go_at_call 25; (with_reducible refine (P2.out _ HX1.out).mono ?_); rintro en u2 ⟨rfl, hb⟩; have HU2 := hidden (HU1.out.trans (hb.mono HU1.out.size)); clear hb)
            | fail)
          go_roundw
          case rel => exact ⟨k + 1, by omega, by go_num, HU2.out⟩
          case measure => simp [intOf]; omega
        · have hge : ¬ (k : Int) < 3 := by omega
          go_wp2
          go_ret
          exact ⟨rfl, HB7.out.trans (HBS.out.mono HB7.out.size)⟩
end Go.Proofs.Ytgagdfafgephoaa
