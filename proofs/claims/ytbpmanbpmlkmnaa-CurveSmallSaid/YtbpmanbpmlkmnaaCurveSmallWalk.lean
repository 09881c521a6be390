/-
  The law CurveSmall, walked: it returns true for every input, and only adds memory of its own.
-/
import Derived.Test.YtbpmanbpmlkmnaaCrvPub
import Derived.Test.YtbpmanbpmlkmnaaCodes2
import Derived.Test.YtbpmanbpmlkmnaaMkBytes
namespace Go.Proofs.Ytbpmanbpmlkmnaa
open Go.RowKit
set_option linter.unusedVariables false

theorem bytes32_sml (W w : World) (k : Nat) (h : Cod W w k) :
    Calls Try.prog 9 #[.pointer (some ⟨k, 0, none⟩), .int .i64 32] w fun e w' => ∃ p c ys, e = .returned (.slice p 32 c) ∧ Bod w' w.heap.size p 32 c ys ∧ Cod W w' k ∧ w.grownBy w' (some k) := mbytes_any W w k h 32 (by omega)
/-- The points of small order. -/
def small1 : List Int := [1, 0, 0, 0, 0, 0, 0, 0, 0, 0, 0, 0, 0, 0, 0, 0, 0, 0, 0, 0, 0, 0, 0, 0, 0, 0, 0, 0, 0, 0, 0, 0]
def smallP (x : Int) : List Int := [x, 255, 255, 255, 255, 255, 255, 255, 255, 255, 255, 255, 255, 255, 255, 255, 255, 255, 255, 255, 255, 255, 255, 255, 255, 255, 255, 255, 255, 255, 255, 127]
theorem set_small1 : (List.replicate 32 (0 : Int)).set 0 1 = small1 := by decide
theorem set_smallP (x : Int) : ((List.replicate 32 (255 : Int)).set 0 x).set 31 127 = smallP x := by simp [List.replicate, smallP]
theorem small_rng1 : ∀ x ∈ small1, 0 ≤ x ∧ x ≤ 255 := by decide
theorem small_rngP (x : Int) (h : 0 ≤ x ∧ x ≤ 255) : ∀ y ∈ smallP x, 0 ≤ y ∧ y ≤ 255 := by
  intro y hy
  simp [smallP] at hy
  omega
theorem mul_small1 (s : List Int) (hs : s.length = 32) : mulB s small1 = List.replicate 32 0 := small_one s small1 hs (by decide +kernel)
theorem mul_smallP (s : List Int) (hs : s.length = 32) (z : Int) (h : z = 2 ∨ z = 3 ∨ z = 4) : mulB s (smallP (234 + z)) = List.replicate 32 0 := by
  rcases h with rfl | rfl | rfl
  · exact small_one s _ hs (by decide +kernel)
  · exact mulB_zero _ _ (by rw [show uK (smallP (234 + 3)) = 0 by decide +kernel]; exact endK_zero _ (bit_clamp s hs 0 (by decide)))
  · exact small_one s _ hs (by decide +kernel)
/-- The bytes while they are filled. -/
def fillL (j : Nat) : List Int := List.replicate j 255 ++ List.replicate (32 - j) 0
theorem fillL_zero : fillL 0 = List.replicate 32 0 := by simp [fillL]
theorem fillL_len (j : Nat) (h : j ≤ 32) : (fillL j).length = 32 := by simp [fillL]; omega
theorem fillL_end : fillL 32 = List.replicate 32 255 := by simp [fillL]
theorem fillL_succ (j : Nat) (h : j < 32) : (fillL j).set j 255 = fillL (j + 1) := by
  unfold fillL
  rw [List.set_append_right _ _ (by simp), List.length_replicate, Nat.sub_self, show 32 - j = (32 - (j + 1)) + 1 by omega, List.replicate_succ, List.set_cons_zero, List.replicate_succ', List.append_assoc]
  rfl

set_option maxHeartbeats 3200000 in
set_option maxRecDepth 100000 in
theorem curveSmall_walk (p0 : Option Addr) (n0 c0 : Nat) (xs0 : List Int) (z1 : Int) (w : World) (h0 : Byt w p0 n0 c0 xs0) (r0 : c0 ≤ 140737488351232) (g1 : 0 ≤ z1 ∧ z1 ≤ 255) :
    Calls Try.prog 6 #[.slice p0 n0 c0, .int .u8 z1] w fun e w' => e = .returned (.bool true) ∧ Below w.heap.size w w' := by
  obtain ⟨i0, hi, hz0, hz1, hz2⟩ := info_parts Try.infoByte
  obtain ⟨Z1, HZ1, hmk⟩ := make_eq (P := Try.prog) 22 5 i0 Try.underlying22 hi hz0 hz1 hz2 32 (by omega)
  have hmk1 : ∀ w : World, (Instr.makeSlice 22 (.int .i64 32) (.int .i64 32)).run Try.prog w = .ok (.slice (some ⟨w.heap.size, 0, none⟩) 32 32) (w.alloc (.cells Z1 5)) := hmk
  have HMK := hidden hmk1
  have HA := hidden (awake14_any w)
  have H0 := hidden h0
  clear h0 hi hz0 hz1 hz2 hmk
  go_enter Try.func6, Try.ntmps6
  go_upto_region 3 with (first
    | (go_at_call 7; (with_reducible refine (HA.out).mono ?_); rintro e w1 ⟨rfl, hb⟩; have HB1 := hidden hb; clear hb)
    | fail)
  go_upto_region 4 with (first
    | (go_at_call 8; (refine (new_any w p0 n0 c0 xs0 w1 H0.out HB1.out 40 (by omega)).mono ?_); rintro e w2 ⟨rfl, hcod, hbel⟩; have HC := hidden hcod; have HB2 := hidden (HB1.out.trans (hbel.mono HB1.out.size)); have hk := HC.out.lt; have hkb := HC.out.base; clear hcod hbel)
    | (go_at_call 9; (with_reducible refine (bytes32_sml w w2 _ HC.out).mono ?_); rintro e w3 ⟨p1, c1, s, rfl, hb1, hc1, hg1⟩; have HKS := hidden hb1.byt; have HB3 := hidden (HB2.out.grown hg1 HB2.out.size (fun j e => by cases e; exact hkb)); clear hb1 hc1 hg1)
    | fail)
  have HLS := Is.mk HKS.out.len
  clear HC hk hkb HB1 HB2 HA H0
  go_upto_region 5 with fail
  generalize hw4 : World.alloc w3 (.cells Z1 5) = w4
  obtain ⟨n, hn⟩ : ∃ n, w3.heap.size = n := ⟨_, rfl⟩
  have hO : Wb w4 n 5 (List.replicate 32 0) := by
    rw [← hw4, ← hn]
    exact Wb.new w3 5 (List.replicate 32 0) Z1 HZ1.out
  have hb : Below n w3 w4 := by
    rw [← hw4, ← hn]
    exact (Below.refl _ w3).alloc (Nat.le_refl _) _
  clear hw4 hmk1
  simp only [hn]
  have HO := hidden hO
  have HB4 := hidden hb
  have HN := Is.mk hn
  have HKS4 : Hid (∀ W, Below n w3 W → Byt W p1 32 c1 s) := fun W hW => HKS.out.below (by rw [HN.eq]; exact hW)
  have HBW : Hid (∀ W, Below n w3 W → Below w.heap.size w W) := fun W hW => HB3.out.trans (hW.mono (by rw [← HN.eq]; exact HB3.out.size))
  have hr5 : z1 % 5 = 0 ∨ z1 % 5 = 1 ∨ z1 % 5 = 2 ∨ z1 % 5 = 3 ∨ z1 % 5 = 4 := by omega
  have HR5 := hidden hr5
  clear hO hb hn HKS HB3 hr5
  rcases HR5.out with hr | hr | hr | hr | hr
  · have HQ := HO
    have HBX := HB4
    clear HO HB4
    go_upto_region 17 with fail
    have HM := hidden (mult_any p1 (some ⟨n, 0, none⟩) c1 32 s (List.replicate 32 0) w4 (HKS4.out w4 HBX.out) (HQ.out.byt32 (by simp) (zeros_rng 32)))
    rw [small_zero s HLS.eq] at HM
    have HSH := hidden (fun W (hW : Below w4.heap.size w4 W) => shared_zero p1 (some ⟨n, 0, none⟩) c1 32 s (List.replicate 32 0) W ((HKS4.out w4 HBX.out).below hW) ((HQ.out.below hW).byt32 (by simp) (zeros_rng 32)) (small_zero s HLS.eq))
    have HWB := hidden (HBW.out w4 HBX.out)
    have HE := hidden (fun W x y (hx : Wb W x 5 (List.replicate 32 0)) (hy : Wb W y 5 (List.replicate 32 0)) => requal_any (some ⟨x, 0, none⟩) (some ⟨y, 0, none⟩) 32 32 32 32 _ _ W (hx.byt32 (by simp) (zeros_rng 32)) (hy.byt32 (by simp) (zeros_rng 32)))
    have hd1 : decide ((List.replicate 32 (0 : Int)) = List.replicate 32 0) = true := decide_eq_true rfl
    rw [hd1] at HE
    clear hd1
    go_upto_region 18 with (first
      | (go_at_call 10; (with_reducible refine (HM.out).mono ?_); rintro e v1 ⟨x, rfl, hx, hw, hb⟩; have HX := hidden hw; have HV1 := hidden hb; clear hw hb hx)
      | fail)
    go_upto_region 19 with (first
      | (go_at_call 13; (with_reducible refine (HSH.out _ HV1.out).mono ?_); rintro e v2 ⟨rfl, hb⟩; have HX2 := hidden (HX.out.below hb); have HV2 := hidden (HWB.out.trans ((HV1.out.trans (hb.mono HV1.out.size)).mono HWB.out.size)); clear hb)
      | fail)
    have hmk2 := HMK.out
    go_wp2_with (first
      | (go_at_call 12; (with_reducible refine (HE.out _ x _ (HX2.out.alloc _) (Wb.new v2 5 (List.replicate 32 0) Z1 HZ1.out)).mono ?_); rintro e v3 ⟨rfl, r9, rfl⟩)
      | fail)
    go_ret
    exact ⟨rfl, (HV2.out.alloc HV2.out.size _).trans (below_drewN _)⟩
  · have c0 := HO.out.cell 0 (by simp)
    have f0 := HO.out.fr 0
    have ho2 := HO.out.set 0 1
    rw [set_small1] at ho2
    have HQ := hidden ho2
    have HBX := hidden (HB4.out.setCell (p := ⟨n, 0, none⟩) (Nat.le_refl _) (.int .u8 1))
    clear HO HB4 ho2
    go_upto_region 17 with fail
    clear c0 f0
    generalize World.setCell w4 _ _ = w5 at *
    have HM := hidden (mult_any p1 (some ⟨n, 0, none⟩) c1 32 s small1 w5 (HKS4.out w5 HBX.out) (HQ.out.byt32 rfl small_rng1))
    rw [mul_small1 s HLS.eq] at HM
    have HSH := hidden (fun W (hW : Below w5.heap.size w5 W) => shared_zero p1 (some ⟨n, 0, none⟩) c1 32 s small1 W ((HKS4.out w5 HBX.out).below hW) ((HQ.out.below hW).byt32 rfl small_rng1) (mul_small1 s HLS.eq))
    have HWB := hidden (HBW.out w5 HBX.out)
    have HE := hidden (fun W x y (hx : Wb W x 5 (List.replicate 32 0)) (hy : Wb W y 5 (List.replicate 32 0)) => requal_any (some ⟨x, 0, none⟩) (some ⟨y, 0, none⟩) 32 32 32 32 _ _ W (hx.byt32 (by simp) (zeros_rng 32)) (hy.byt32 (by simp) (zeros_rng 32)))
    have hd1 : decide ((List.replicate 32 (0 : Int)) = List.replicate 32 0) = true := decide_eq_true rfl
    rw [hd1] at HE
    clear hd1
    go_upto_region 18 with (first
      | (go_at_call 10; (with_reducible refine (HM.out).mono ?_); rintro e v1 ⟨x, rfl, hx, hw, hb⟩; have HX := hidden hw; have HV1 := hidden hb; clear hw hb hx)
      | fail)
    go_upto_region 19 with (first
      | (go_at_call 13; (with_reducible refine (HSH.out _ HV1.out).mono ?_); rintro e v2 ⟨rfl, hb⟩; have HX2 := hidden (HX.out.below hb); have HV2 := hidden (HWB.out.trans ((HV1.out.trans (hb.mono HV1.out.size)).mono HWB.out.size)); clear hb)
      | fail)
    have hmk2 := HMK.out
    go_wp2_with (first
      | (go_at_call 12; (with_reducible refine (HE.out _ x _ (HX2.out.alloc _) (Wb.new v2 5 (List.replicate 32 0) Z1 HZ1.out)).mono ?_); rintro e v3 ⟨rfl, r9, rfl⟩)
      | fail)
    go_ret
    exact ⟨rfl, (HV2.out.alloc HV2.out.size _).trans (below_drewN _)⟩
  · have HF0 : Hid (Wb w4 n 5 (fillL 0)) := by rw [fillL_zero]; exact HO
    clear HO
    have hz4 : IntKind.u8.wrap (236 + z1 % 5) = 236 + z1 % 5 := by rw [IntKind.wrap_u8]; omega
    go_upto_region 11 with fail
    go_wp2
    go_loopw [30] (fun i wr => ∃ j : Nat, j ≤ 32 ∧ i = .int .i64 j ∧ Wb wr n 5 (fillL j) ∧ Below n w3 wr) (fun i _ => 32 - (intOf i).toNat)
    case atStart => exact ⟨0, by omega, rfl, HF0.out, HB4.out⟩
    case round =>
      clear HF0 HB4
      obtain ⟨j, hj, rfl, ho, hb⟩ := hrel
      have HO := hidden ho
      have HB := hidden hb
      clear ho hb
      by_cases hlt : j < 32
      · have cj := HO.out.cell j (by rw [fillL_len j hj]; exact hlt)
        have fj := HO.out.fr j
        have ho2 := HO.out.set j 255
        rw [fillL_succ j hlt] at ho2
        have HO2 := hidden ho2
        generalize (fillL j).getD j 0 = old at cj
        have b0 : (j : Int) < 32 := by omega
        have b1 : (0 : Int) ≤ (j : Int) := by omega
        clear ho2
        go_wp2
        go_roundw
        case rel => exact ⟨j + 1, by omega, by go_num, HO2.out, HB.out.setCell (Nat.le_refl _) _⟩
        case measure => simp [intOf]; omega
      · have hje : j = 32 := by omega
        have hge : ¬ (j : Int) < 32 := by omega
        have ho := HO.out
        rw [hje, fillL_end] at ho
        have c0 := ho.cell 0 (by simp)
        have f0 := ho.fr 0
        have c31 := ho.cell 31 (by simp)
        have f31 := ho.fr 31
        have hq := (ho.set 0 (234 + 2)).set 31 127
        rw [set_smallP] at hq
        have HQ := hidden hq
        have HBX := hidden ((HB.out.setCell (p := ⟨n, 0, none⟩) (Nat.le_refl _) (.int .u8 (234 + 2))).setCell (p := ⟨n, 31, none⟩) (Nat.le_refl _) (.int .u8 127))
        have hv : (234 + 2 : Int) = 236 := rfl
        rw [hv] at HQ HBX
        clear ho hq HO HB hje
        go_upto_region 17 with fail
        clear c0 f0 c31 f31
        generalize World.setCell (World.setCell wr _ _) _ _ = w5 at *
        have HM := hidden (mult_any p1 (some ⟨n, 0, none⟩) c1 32 s (smallP 236) w5 (HKS4.out w5 HBX.out) (HQ.out.byt32 rfl (small_rngP 236 (by decide))))
        rw [(show mulB s (smallP 236) = List.replicate 32 0 from mul_smallP s HLS.eq 2 (by decide))] at HM
        have HSH := hidden (fun W (hW : Below w5.heap.size w5 W) => shared_zero p1 (some ⟨n, 0, none⟩) c1 32 s (smallP 236) W ((HKS4.out w5 HBX.out).below hW) ((HQ.out.below hW).byt32 rfl (small_rngP 236 (by decide))) ((show mulB s (smallP 236) = List.replicate 32 0 from mul_smallP s HLS.eq 2 (by decide))))
        have HWB := hidden (HBW.out w5 HBX.out)
        have HE := hidden (fun W x y (hx : Wb W x 5 (List.replicate 32 0)) (hy : Wb W y 5 (List.replicate 32 0)) => requal_any (some ⟨x, 0, none⟩) (some ⟨y, 0, none⟩) 32 32 32 32 _ _ W (hx.byt32 (by simp) (zeros_rng 32)) (hy.byt32 (by simp) (zeros_rng 32)))
        have hd1 : decide ((List.replicate 32 (0 : Int)) = List.replicate 32 0) = true := decide_eq_true rfl
        rw [hd1] at HE
        clear hd1
        go_upto_region 18 with (first
          | (go_at_call 10; (with_reducible refine (HM.out).mono ?_); rintro e v1 ⟨x, rfl, hx, hw, hb⟩; have HX := hidden hw; have HV1 := hidden hb; clear hw hb hx)
          | fail)
        go_upto_region 19 with (first
          | (go_at_call 13; (with_reducible refine (HSH.out _ HV1.out).mono ?_); rintro e v2 ⟨rfl, hb⟩; have HX2 := hidden (HX.out.below hb); have HV2 := hidden (HWB.out.trans ((HV1.out.trans (hb.mono HV1.out.size)).mono HWB.out.size)); clear hb)
          | fail)
        have hmk2 := HMK.out
        go_wp2_with (first
          | (go_at_call 12; (with_reducible refine (HE.out _ x _ (HX2.out.alloc _) (Wb.new v2 5 (List.replicate 32 0) Z1 HZ1.out)).mono ?_); rintro e v3 ⟨rfl, r9, rfl⟩)
          | fail)
        go_ret
        exact ⟨rfl, (HV2.out.alloc HV2.out.size _).trans (below_drewN _)⟩
  · have HF0 : Hid (Wb w4 n 5 (fillL 0)) := by rw [fillL_zero]; exact HO
    clear HO
    have hz4 : IntKind.u8.wrap (236 + z1 % 5) = 236 + z1 % 5 := by rw [IntKind.wrap_u8]; omega
    go_upto_region 11 with fail
    go_wp2
    go_loopw [30] (fun i wr => ∃ j : Nat, j ≤ 32 ∧ i = .int .i64 j ∧ Wb wr n 5 (fillL j) ∧ Below n w3 wr) (fun i _ => 32 - (intOf i).toNat)
    case atStart => exact ⟨0, by omega, rfl, HF0.out, HB4.out⟩
    case round =>
      clear HF0 HB4
      obtain ⟨j, hj, rfl, ho, hb⟩ := hrel
      have HO := hidden ho
      have HB := hidden hb
      clear ho hb
      by_cases hlt : j < 32
      · have cj := HO.out.cell j (by rw [fillL_len j hj]; exact hlt)
        have fj := HO.out.fr j
        have ho2 := HO.out.set j 255
        rw [fillL_succ j hlt] at ho2
        have HO2 := hidden ho2
        generalize (fillL j).getD j 0 = old at cj
        have b0 : (j : Int) < 32 := by omega
        have b1 : (0 : Int) ≤ (j : Int) := by omega
        clear ho2
        go_wp2
        go_roundw
        case rel => exact ⟨j + 1, by omega, by go_num, HO2.out, HB.out.setCell (Nat.le_refl _) _⟩
        case measure => simp [intOf]; omega
      · have hje : j = 32 := by omega
        have hge : ¬ (j : Int) < 32 := by omega
        have ho := HO.out
        rw [hje, fillL_end] at ho
        have c0 := ho.cell 0 (by simp)
        have f0 := ho.fr 0
        have c31 := ho.cell 31 (by simp)
        have f31 := ho.fr 31
        have hq := (ho.set 0 (234 + 3)).set 31 127
        rw [set_smallP] at hq
        have HQ := hidden hq
        have HBX := hidden ((HB.out.setCell (p := ⟨n, 0, none⟩) (Nat.le_refl _) (.int .u8 (234 + 3))).setCell (p := ⟨n, 31, none⟩) (Nat.le_refl _) (.int .u8 127))
        have hv : (234 + 3 : Int) = 237 := rfl
        rw [hv] at HQ HBX
        clear ho hq HO HB hje
        go_upto_region 17 with fail
        clear c0 f0 c31 f31
        generalize World.setCell (World.setCell wr _ _) _ _ = w5 at *
        have HM := hidden (mult_any p1 (some ⟨n, 0, none⟩) c1 32 s (smallP 237) w5 (HKS4.out w5 HBX.out) (HQ.out.byt32 rfl (small_rngP 237 (by decide))))
        rw [(show mulB s (smallP 237) = List.replicate 32 0 from mul_smallP s HLS.eq 3 (by decide))] at HM
        have HSH := hidden (fun W (hW : Below w5.heap.size w5 W) => shared_zero p1 (some ⟨n, 0, none⟩) c1 32 s (smallP 237) W ((HKS4.out w5 HBX.out).below hW) ((HQ.out.below hW).byt32 rfl (small_rngP 237 (by decide))) ((show mulB s (smallP 237) = List.replicate 32 0 from mul_smallP s HLS.eq 3 (by decide))))
        have HWB := hidden (HBW.out w5 HBX.out)
        have HE := hidden (fun W x y (hx : Wb W x 5 (List.replicate 32 0)) (hy : Wb W y 5 (List.replicate 32 0)) => requal_any (some ⟨x, 0, none⟩) (some ⟨y, 0, none⟩) 32 32 32 32 _ _ W (hx.byt32 (by simp) (zeros_rng 32)) (hy.byt32 (by simp) (zeros_rng 32)))
        have hd1 : decide ((List.replicate 32 (0 : Int)) = List.replicate 32 0) = true := decide_eq_true rfl
        rw [hd1] at HE
        clear hd1
        go_upto_region 18 with (first
          | (go_at_call 10; (with_reducible refine (HM.out).mono ?_); rintro e v1 ⟨x, rfl, hx, hw, hb⟩; have HX := hidden hw; have HV1 := hidden hb; clear hw hb hx)
          | fail)
        go_upto_region 19 with (first
          | (go_at_call 13; (with_reducible refine (HSH.out _ HV1.out).mono ?_); rintro e v2 ⟨rfl, hb⟩; have HX2 := hidden (HX.out.below hb); have HV2 := hidden (HWB.out.trans ((HV1.out.trans (hb.mono HV1.out.size)).mono HWB.out.size)); clear hb)
          | fail)
        have hmk2 := HMK.out
        go_wp2_with (first
          | (go_at_call 12; (with_reducible refine (HE.out _ x _ (HX2.out.alloc _) (Wb.new v2 5 (List.replicate 32 0) Z1 HZ1.out)).mono ?_); rintro e v3 ⟨rfl, r9, rfl⟩)
          | fail)
        go_ret
        exact ⟨rfl, (HV2.out.alloc HV2.out.size _).trans (below_drewN _)⟩
  · have HF0 : Hid (Wb w4 n 5 (fillL 0)) := by rw [fillL_zero]; exact HO
    clear HO
    have hz4 : IntKind.u8.wrap (236 + z1 % 5) = 236 + z1 % 5 := by rw [IntKind.wrap_u8]; omega
    go_upto_region 11 with fail
    go_wp2
    go_loopw [30] (fun i wr => ∃ j : Nat, j ≤ 32 ∧ i = .int .i64 j ∧ Wb wr n 5 (fillL j) ∧ Below n w3 wr) (fun i _ => 32 - (intOf i).toNat)
    case atStart => exact ⟨0, by omega, rfl, HF0.out, HB4.out⟩
    case round =>
      clear HF0 HB4
      obtain ⟨j, hj, rfl, ho, hb⟩ := hrel
      have HO := hidden ho
      have HB := hidden hb
      clear ho hb
      by_cases hlt : j < 32
      · have cj := HO.out.cell j (by rw [fillL_len j hj]; exact hlt)
        have fj := HO.out.fr j
        have ho2 := HO.out.set j 255
        rw [fillL_succ j hlt] at ho2
        have HO2 := hidden ho2
        generalize (fillL j).getD j 0 = old at cj
        have b0 : (j : Int) < 32 := by omega
        have b1 : (0 : Int) ≤ (j : Int) := by omega
        clear ho2
        go_wp2
        go_roundw
        case rel => exact ⟨j + 1, by omega, by go_num, HO2.out, HB.out.setCell (Nat.le_refl _) _⟩
        case measure => simp [intOf]; omega
      · have hje : j = 32 := by omega
        have hge : ¬ (j : Int) < 32 := by omega
        have ho := HO.out
        rw [hje, fillL_end] at ho
        have c0 := ho.cell 0 (by simp)
        have f0 := ho.fr 0
        have c31 := ho.cell 31 (by simp)
        have f31 := ho.fr 31
        have hq := (ho.set 0 (234 + 4)).set 31 127
        rw [set_smallP] at hq
        have HQ := hidden hq
        have HBX := hidden ((HB.out.setCell (p := ⟨n, 0, none⟩) (Nat.le_refl _) (.int .u8 (234 + 4))).setCell (p := ⟨n, 31, none⟩) (Nat.le_refl _) (.int .u8 127))
        have hv : (234 + 4 : Int) = 238 := rfl
        rw [hv] at HQ HBX
        clear ho hq HO HB hje
        go_upto_region 17 with fail
        clear c0 f0 c31 f31
        generalize World.setCell (World.setCell wr _ _) _ _ = w5 at *
        have HM := hidden (mult_any p1 (some ⟨n, 0, none⟩) c1 32 s (smallP 238) w5 (HKS4.out w5 HBX.out) (HQ.out.byt32 rfl (small_rngP 238 (by decide))))
        rw [(show mulB s (smallP 238) = List.replicate 32 0 from mul_smallP s HLS.eq 4 (by decide))] at HM
        have HSH := hidden (fun W (hW : Below w5.heap.size w5 W) => shared_zero p1 (some ⟨n, 0, none⟩) c1 32 s (smallP 238) W ((HKS4.out w5 HBX.out).below hW) ((HQ.out.below hW).byt32 rfl (small_rngP 238 (by decide))) ((show mulB s (smallP 238) = List.replicate 32 0 from mul_smallP s HLS.eq 4 (by decide))))
        have HWB := hidden (HBW.out w5 HBX.out)
        have HE := hidden (fun W x y (hx : Wb W x 5 (List.replicate 32 0)) (hy : Wb W y 5 (List.replicate 32 0)) => requal_any (some ⟨x, 0, none⟩) (some ⟨y, 0, none⟩) 32 32 32 32 _ _ W (hx.byt32 (by simp) (zeros_rng 32)) (hy.byt32 (by simp) (zeros_rng 32)))
        have hd1 : decide ((List.replicate 32 (0 : Int)) = List.replicate 32 0) = true := decide_eq_true rfl
        rw [hd1] at HE
        clear hd1
        go_upto_region 18 with (first
          | (go_at_call 10; (with_reducible refine (HM.out).mono ?_); rintro e v1 ⟨x, rfl, hx, hw, hb⟩; have HX := hidden hw; have HV1 := hidden hb; clear hw hb hx)
          | fail)
        go_upto_region 19 with (first
          | (go_at_call 13; (with_reducible refine (HSH.out _ HV1.out).mono ?_); rintro e v2 ⟨rfl, hb⟩; have HX2 := hidden (HX.out.below hb); have HV2 := hidden (HWB.out.trans ((HV1.out.trans (hb.mono HV1.out.size)).mono HWB.out.size)); clear hb)
          | fail)
        have hmk2 := HMK.out
        go_wp2_with (first
          | (go_at_call 12; (with_reducible refine (HE.out _ x _ (HX2.out.alloc _) (Wb.new v2 5 (List.replicate 32 0) Z1 HZ1.out)).mono ?_); rintro e v3 ⟨rfl, r9, rfl⟩)
          | fail)
        go_ret
        exact ⟨rfl, (HV2.out.alloc HV2.out.size _).trans (below_drewN _)⟩
end Go.Proofs.Ytbpmanbpmlkmnaa
