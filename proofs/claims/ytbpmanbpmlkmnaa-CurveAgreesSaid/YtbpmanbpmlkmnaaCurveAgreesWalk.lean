/-
  The law CurveAgrees, walked: it returns true for every input, and only adds memory of its own.
-/
import Derived.Test.YtbpmanbpmlkmnaaCrvPub
import Derived.Test.YtbpmanbpmlkmnaaCodes2
import Derived.Test.YtbpmanbpmlkmnaaMkBytes
namespace Go.Proofs.Ytbpmanbpmlkmnaa
open Go.RowKit
set_option linter.unusedVariables false

/-- What Bytes(32) returns. -/
theorem bytes32_any (W w : World) (k : Nat) (h : Cod W w k) :
    Calls Try.prog 9 #[.pointer (some ⟨k, 0, none⟩), .int .i64 32] w fun e w' => ∃ p c ys, e = .returned (.slice p 32 c) ∧ Bod w' w.heap.size p 32 c ys ∧ Cod W w' k ∧ w.grownBy w' (some k) := mbytes_any W w k h 32 (by omega)

set_option maxHeartbeats 1600000 in
set_option maxRecDepth 100000 in
theorem curveAgrees_walk (p0 : Option Addr) (n0 c0 : Nat) (xs0 : List Int) (w : World) (h0 : Byt w p0 n0 c0 xs0) (r0 : c0 ≤ 140737488351232) :
    Calls Try.prog 4 #[.slice p0 n0 c0] w fun e w' => e = .returned (.bool true) ∧ Below w.heap.size w w' := by
  have HA := hidden (awake14_any w)
  have H0 := hidden h0
  clear h0
  go_enter Try.func4, Try.ntmps4
  go_upto_region 4 with (first
    | (go_at_call 7; (with_reducible refine (HA.out).mono ?_); rintro e w1 ⟨rfl, hb⟩; have HB1 := hidden hb; clear hb)
    | (go_at_call 8; (refine (new_any w p0 n0 c0 xs0 w1 H0.out HB1.out 100 (by omega)).mono ?_); rintro e w2 ⟨rfl, hcod, hbel⟩; have HC := hidden hcod; have HB2 := hidden (HB1.out.trans (hbel.mono HB1.out.size)); clear hcod hbel)
    | fail)
  have hk := HC.out.lt
  have hkb := HC.out.base
  generalize w1.heap.size = k at *
  go_upto_region 5 with (first
    | (go_at_call 9; (with_reducible refine (bytes32_any w w2 k HC.out).mono ?_); rintro e w3 ⟨p1, c1, a, rfl, hb1, hc1, hg1⟩; have HK1 := hidden hb1; have HC1 := hidden hc1; have HB3 := hidden (HB2.out.grown hg1 HB2.out.size (fun j e => by cases e; exact hkb)); have hs3 := hg1.size; clear hb1 hc1 hg1)
    | (go_at_call 9; (with_reducible refine (bytes32_any w w3 k HC1.out).mono ?_); rintro e w4 ⟨p2, c2, b, rfl, hb2, hc2, hg2⟩; have HK2 := hidden hb2.byt; have HK1B := hidden ((HK1.out.grown hg2 (fun r hr => Or.inl (by cases hr; exact hk))).byt); have HB4 := hidden (HB3.out.grown hg2 HB3.out.size (fun j e => by cases e; exact hkb)); clear hb2 hc2 hg2)
    | fail)
  have hag := agree_ok a b base9 HK1B.out.len HK2.out.len uK_base9
  have HP1 := hidden (fun W (hW : Below w4.heap.size w4 W) => public_any p1 c1 a W (HK1B.out.below hW))
  have HP2 := hidden (fun W (hW : Below w4.heap.size w4 W) => public_any p2 c2 b W (HK2.out.below hW))
  have HM1 := hidden (fun W (hW : Below w4.heap.size w4 W) g (hg : Wb W g 5 (mulB b base9)) => mult_any p1 (some ⟨g, 0, none⟩) c1 32 a (mulB b base9) W (HK1B.out.below hW) (hg.byt32 (mulB_len _ _) (mulB_rng _ _)))
  have HM2 := hidden (fun W (hW : Below w4.heap.size w4 W) g (hg : Wb W g 5 (mulB a base9)) => mult_any p2 (some ⟨g, 0, none⟩) c2 32 b (mulB a base9) W (HK2.out.below hW) (hg.byt32 (mulB_len _ _) (mulB_rng _ _)))
  rw [hag] at HM1
  have HLM := Is.mk (mulB_len b (mulB a base9))
  have HRM := hidden (mulB_rng b (mulB a base9))
  generalize mulB b (mulB a base9) = M at *
  have HE := hidden (fun W x y (hx : Wb W x 5 M) (hy : Wb W y 5 M) => requal_any (some ⟨x, 0, none⟩) (some ⟨y, 0, none⟩) 32 32 32 32 _ _ W (hx.byt32 HLM.eq HRM.out) (hy.byt32 HLM.eq HRM.out))
  have hd1 : decide (M = M) = true := decide_eq_true rfl
  rw [hd1] at HE
  clear hag hd1 HK1 HK2 HK1B HC HC1 HB1 HB2 HB3
  generalize mulB a base9 = PA at *
  generalize mulB b base9 = PB at *
  go_upto_region 6 with (first
    | (go_at_call 15; (with_reducible refine (HP1.out _ (Below.refl _ w4)).mono ?_); rintro e w5 ⟨x, rfl, hx, hw5, hb5⟩; have HX5 := hidden hw5; have HB5 := hidden hb5; clear hw5 hb5 hx)
    | fail)
  go_upto_region 7 with (first
    | (go_at_call 15; (with_reducible refine (HP2.out _ HB5.out).mono ?_); rintro e w6 ⟨y, rfl, hy, hw6, hb6⟩; have HY6 := hidden hw6; have HX6 := hidden (HX5.out.below hb6); have HB6 := hidden (HB5.out.trans (hb6.mono HB5.out.size)); clear hw6 hb6 hy HX5 HB5)
    | fail)
  go_upto_region 8 with (first
    | (go_at_call 10; (with_reducible refine (HM1.out _ HB6.out y HY6.out).mono ?_); rintro e w7 ⟨u, rfl, hu, hw7, hb7⟩; have HU7 := hidden hw7; have HX7 := hidden (HX6.out.below hb7); have HB7 := hidden (HB6.out.trans (hb7.mono HB6.out.size)); clear hw7 hb7 hu HX6 HB6 HY6)
    | fail)
  go_upto_region 9 with (first
    | (go_at_call 10; (with_reducible refine (HM2.out _ HB7.out x HX7.out).mono ?_); rintro e w8 ⟨v, rfl, hv, hw8, hb8⟩; have HV8 := hidden hw8; have HU8 := hidden (HU7.out.below hb8); have HB8 := hidden (HB4.out.trans ((HB7.out.trans (hb8.mono HB7.out.size)).mono HB4.out.size)); clear hw8 hb8 hv HU7 HB7 HX7)
    | fail)
  go_wp2_with (first
    | (go_at_call 12; (with_reducible refine (HE.out _ u v HU8.out HV8.out).mono ?_); rintro e w9 ⟨rfl, r9, rfl⟩)
    | fail)
  go_ret
  exact ⟨rfl, HB8.out.trans (below_drewN _)⟩
end Go.Proofs.Ytbpmanbpmlkmnaa
