/-
  The law GroupComputes, walked: it returns true for every input, and only adds memory of its own.
-/
import Derived.Test.YtgagdfafgephoaaGrpLaw
import Derived.Deep.RegionHeld3
namespace Go.Proofs.Ytgagdfafgephoaa
open Go.RowKit
set_option linter.unusedVariables false

set_option maxHeartbeats 1600000 in
set_option maxRecDepth 100000 in
theorem groupComputes_walk (z0 z1 z2 : Int) (w : World) (g0 : 0 ≤ z0 ∧ z0 ≤ 18446744073709551615) (g1 : 0 ≤ z1 ∧ z1 ≤ 18446744073709551615) (g2 : 0 ≤ z2 ∧ z2 ≤ 18446744073709551615) :
    Calls Try.prog 3 #[.int .u64 z0, .int .u64 z1, .int .u64 z2] w fun e w' => e = .returned (.bool true) ∧ Below w.heap.size w w' := by
  have HA := hidden (awake13_any w)
  obtain ⟨a, rfl⟩ := Int.eq_ofNat_of_zero_le g0.1
  obtain ⟨b, rfl⟩ := Int.eq_ofNat_of_zero_le g1.1
  obtain ⟨e, rfl⟩ := Int.eq_ofNat_of_zero_le g2.1
  have ha : a < 18446744073709551616 := by omega
  have hb : b < 18446744073709551616 := by omega
  have he : e < 18446744073709551616 := by omega
  go_enter Try.func3, Try.ntmps3
  go_upto_region 5 with (first
    | (go_at_call 8; (with_reducible refine (HA.out).mono ?_); rintro en w1 ⟨rfl, hb⟩; have HB1 := hidden hb; clear hb)
    | fail)
  generalize hw2 : w1.alloc (.cells _ 24) = w2
  obtain ⟨G, hG⟩ : ∃ G, w1.heap.size = G := ⟨_, rfl⟩
  have HB2 : Hid (Below w.heap.size w w2) := by rw [← hw2]; exact HB1.out.alloc HB1.out.size _
  have HCELL : Hid (∀ j : Nat, j < 3 → ∃ u v : Nat, u < 18446744073709551616 ∧ v < 18446744073709551616 ∧ w2.cell? ⟨G, j * 2, none⟩ = some (.int .u64 u) ∧ w2.cell? ⟨G, j * 2 + 1, none⟩ = some (.int .u64 v)) := by
    rw [← hw2, ← hG]
    intro j hj
    have : j = 0 ∨ j = 1 ∨ j = 2 := by omega
    rcases this with rfl | rfl | rfl
    · exact ⟨a, b, ha, hb, by rw [World.cell?_alloc_at _ _ _ _ rfl]; rfl, by rw [World.cell?_alloc_at _ _ _ _ rfl]; rfl⟩
    · refine ⟨(4611686018427377338 - (a : Int) % 8).toNat, (4611686018427377339 + (b : Int) % 8).toNat, by omega, by omega, ?_, ?_⟩
      · rw [World.cell?_alloc_at _ _ _ _ rfl, Int.toNat_of_nonneg (by omega)]; rfl
      · rw [World.cell?_alloc_at _ _ _ _ rfl, Int.toNat_of_nonneg (by omega)]; rfl
    · refine ⟨((a : Int) % 4611686018427377339).toNat, ((b : Int) % 5).toNat, by omega, by omega, ?_, ?_⟩
      · rw [World.cell?_alloc_at _ _ _ _ rfl, Int.toNat_of_nonneg (by omega)]; rfl
      · rw [World.cell?_alloc_at _ _ _ _ rfl, Int.toNat_of_nonneg (by omega)]; rfl
  simp only [hG]
  have HBZ := hidden (Below.refl w2.heap.size w2)
  clear hw2 hG HA
  go_wp2
  go_loopw [33] (fun i wr => ∃ j : Nat, j ≤ 3 ∧ i = .int .i64 j ∧ Below w2.heap.size w2 wr) (fun i _ => 3 - (intOf i).toNat)
  case atStart => exact ⟨0, by omega, rfl, HBZ.out⟩
  case round =>
    obtain ⟨j, hj, rfl, hbr⟩ := hrel
    have HBR := hidden hbr
    clear hbr HBZ
    by_cases hlt : j < 3
    · obtain ⟨u, v, hu, hv, c0, c1⟩ := HCELL.out j hlt
      have k0 := cell_below HBR.out _ _ c0
      have k1 := cell_below HBR.out _ _ c1
      clear c0 c1
      have hlt2 : (j : Int) < 3 := by omega
      have hnn : (0 : Int) ≤ (j : Int) := by omega
      go_upto_region 7 with fail
      clear k0 k1
      have M1 := hidden (gmul_any u v hu hv)
      have M2 := hidden (rgmul_any u v hu hv)
      have P1 := hidden (gpow_any u e hu he)
      have P2 := hidden (rgpow_any u e hu he)
      have E1 := hidden (gel_any u hu)
      have E2 := hidden (rgel_any u hu)
      generalize gmul u v = m at *
      generalize gpow u e = pw at *
      generalize gel u = el at *
      generalize hwx : wr.alloc _ = wx
      obtain ⟨gx, hgx⟩ : ∃ g, wr.heap.size = g := ⟨_, rfl⟩
      have HK : Hid (∀ wy : World, Below wx.heap.size wx wy → wy.cell? ⟨gx, 0, none⟩ = some (.int .u64 u) ∧ wy.cell? ⟨gx, 1, none⟩ = some (.int .u64 v)) := by
        rw [← hwx, ← hgx]
        intro wy hb
        exact ⟨cell_below hb _ _ (by rw [World.cell?_alloc_at _ _ _ _ rfl]; rfl), cell_below hb _ _ (by rw [World.cell?_alloc_at _ _ _ _ rfl]; rfl)⟩
      have HBX : Hid (Below w2.heap.size w2 wx) := by rw [← hwx]; exact HBR.out.alloc HBR.out.size _
      have HB : Hid (Below wx.heap.size wx wx.drew) := hidden (drew_below ⟨1, rfl⟩)
      have e1 : ((m : Int) != (m : Int)) = false := by simp
      have e2 : ((pw : Int) != (pw : Int)) = false := by simp
      have e3 : (el != el) = false := by simp
      simp only [hgx]
      clear hwx hgx
      go_region_held3 (fun w' => w'.cell? ⟨gx, 0, none⟩ = some (.int .u64 u) ∧ w'.cell? ⟨gx, 1, none⟩ = some (.int .u64 v)) (first | exact HK.out _ HB.out | go_keep) (first
        | (go_at_call 9; (with_reducible refine (M1.out _).mono ?_); rintro en wn ⟨rfl, hb⟩; replace HB := hidden (HB.out.trans (hb.mono HB.out.size)); clear hb)
        | (go_at_call 10; (with_reducible refine (M2.out _).mono ?_); rintro en wn ⟨rfl, hb⟩; replace HB := hidden (HB.out.trans (hb.mono HB.out.size)); clear hb)
        | (go_at_call 11; (with_reducible refine (P1.out _).mono ?_); rintro en wn ⟨rfl, hb⟩; replace HB := hidden (HB.out.trans (hb.mono HB.out.size)); clear hb)
        | (go_at_call 12; (with_reducible refine (P2.out _).mono ?_); rintro en wn ⟨rfl, hb⟩; replace HB := hidden (HB.out.trans (hb.mono HB.out.size)); clear hb)
        | (go_at_call 13; (with_reducible refine (E1.out _).mono ?_); rintro en wn ⟨rfl, hb⟩; replace HB := hidden (HB.out.trans (hb.mono HB.out.size)); clear hb)
        | (go_at_call 14; (with_reducible refine (E2.out _).mono ?_); rintro en wn ⟨rfl, hb⟩; replace HB := hidden (HB.out.trans (hb.mono HB.out.size)); clear hb)
        | fail)
      all_goals
        go_wp2
        go_roundw
        case rel => exact ⟨j + 1, by omega, by go_num, HBX.out.trans (HB.out.mono HBX.out.size)⟩
        case measure => simp [intOf]; omega
    · have hge : ¬ (j : Int) < 3 := by omega
      go_wp2
      go_ret
      exact ⟨rfl, HB2.out.trans (HBR.out.mono HB2.out.size)⟩
end Go.Proofs.Ytgagdfafgephoaa
