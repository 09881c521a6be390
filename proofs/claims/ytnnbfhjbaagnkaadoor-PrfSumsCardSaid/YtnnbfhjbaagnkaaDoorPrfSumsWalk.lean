/-
  The law PrfSums, walked: it returns true for every input, and only adds memory of its own.
-/
import Derived.Test.YtnnbfhjbaagnkaaDoorPrf09
import Derived.Test.YtnnbfhjbaagnkaaDoorRPrfHmac
import Derived.Test.YtnnbfhjbaagnkaaDoorRCompare
import Derived.Test.YtnnbfhjbaagnkaaDoorPrfZero
import Derived.Deep.Cut
import Derived.Deep.CutRange
import Derived.Deep.CutBlock
namespace Go.Proofs.YtnnbfhjbaagnkaaDoor
open Go.RowKit
set_option linter.unusedVariables false

set_option maxHeartbeats 1600000 in
set_option maxRecDepth 100000 in
theorem prfSums_walk (p0 : Option Addr) (n0 c0 : Nat) (xs0 : List Int) (p1 : Option Addr) (n1 c1 : Nat) (xs1 : List Int) (b2 : Bool) (w : World) (h0 : Byt w p0 n0 c0 xs0) (r0 : c0 ≤ 140737488351232) (h1 : Byt w p1 n1 c1 xs1) (r1 : c1 ≤ 140737488351232) (hK : KAt w) :
    Calls Tryd.prog 3 #[.slice p0 n0 c0, .slice p1 n1 c1, .bool b2] w fun e w' => e = .returned (.bool true) ∧ Below w.heap.size w w' := by
  have HA := hidden (awake09_any w hK)
  have H0 := hidden h0
  have H1 := hidden h1
  have HK := hidden (fun W (hW : Below w.heap.size w W) => hK.below hW hK.lt)
  have hc0 := h0.cap
  have hc1 := h1.cap
  have hl0 := h0.len
  have HL0 := Is.mk hl0
  obtain ⟨i0, hi, hz0, hz1, hz2⟩ := info_parts Tryd.infoByte
  clear h0 h1 hK hl0
  go_enter Tryd.func3, Tryd.ntmps3
  by_cases hs : n0 ≤ 1000 ∧ n1 ≤ 1000
  rotate_left
  · by_cases ha : (1000 : Int) < n0
    · go_wp2_with (first
        | (go_at_call 7; (with_reducible refine (HA.out).mono ?_); rintro e w1 ⟨rfl, hb⟩; have HB1 := hidden hb; clear hb)
        | fail)
      go_ret
      exact ⟨rfl, HB1.out⟩
    · have hb : (1000 : Int) < n1 := by omega
      go_wp2_with (first
        | (go_at_call 7; (with_reducible refine (HA.out).mono ?_); rintro e w1 ⟨rfl, hb⟩; have HB1 := hidden hb; clear hb)
        | fail)
      go_ret
      exact ⟨rfl, HB1.out⟩
  obtain ⟨s0, s1⟩ := hs
  have e0 : ¬ (1000 : Int) < n0 := by omega
  have e1 : ¬ (1000 : Int) < n1 := by omega
  go_upto_if 17 with (first
    | (go_at_call 7; (with_reducible refine (HA.out).mono ?_); rintro e w1 ⟨rfl, hb⟩; have HB1 := hidden hb; clear hb)
    | fail)
  go_cut [0] from 17 to 20 (fun a wx => ∃ q k d ks, a = .slice q k d ∧ k ≤ 1065 ∧ Byt wx q k d ks ∧ Below w.heap.size w wx)
  case first =>
    cases b2 with
    | false =>
      go_wp2
      go_meet
      case rel => exact ⟨p0, n0, c0, xs0, rfl, by omega, H0.out.below HB1.out, HB1.out⟩
    | true =>
      have HY := hidden (H0.out.below HB1.out)
      go_wp2_with (first
        | (at_builtin; refine wpList_append_byt _ rfl (.const (.slice none 0 0)) (.tmp 18) 22 rfl w.heap.size 5 i0 (.int .u8 0) Tryd.underlying22 hi hz0 hz1 hz2 rfl _ _ rfl (Own.nil _ w.heap.size 5) _ _ _ _ _ rfl HY.out rfl ?b1 HB1.out.size ?_; case b1 => (simp; omega))
        | fail)
      intro u w2 hown hg
      have HB2 := hidden (HB1.out.grown hg HB1.out.size (nob _))
      have HO2 := hidden hown
      clear hown hg
      have hzr : ∀ x ∈ xs0 ++ List.replicate 65 0, 0 ≤ x ∧ x ≤ 255 := rng_append H0.out.rng (rng_zeros _)
      have hzl : (xs0 ++ List.replicate 65 0).length = n0 + 65 := by rw [List.length_append, List.length_replicate, HL0.eq]
      have HZR := hidden hzr
      have HZL := hidden hzl
      obtain ⟨Z, hZ⟩ : ∃ Z, xs0 ++ List.replicate 65 0 = Z := ⟨_, rfl⟩
      rw [hZ] at HZR HZL
      have HZ := hidden hZ
      clear hzr hzl hZ
      go_wp2_with (first
        | (at_builtin; refine wpList_append_more rfl _ _ 22 3 rfl w.heap.size 5 i0 Tryd.underlying22 Tryd.underlying3 hi hz0 hz1 hz2 _ xs0 rfl HO2.out 65 65 rfl rfl (by decide) (by decide) (by rw [HL0.eq]; omega) HB2.out.size Z HZ.out ?_)
        | fail)
      intro v w3 HO3 HG3
      have HB3 := hidden (HB2.out.grown HG3.out HB2.out.size (fun k hk => (HO2.out.lt k hk).1))
      obtain ⟨q, d, rfl, hbyt⟩ := HO3.out.bytN rfl HZL.out HZR.out
      have HY3 := hidden hbyt
      clear hbyt HG3
      go_wp2
      go_meet
      case rel => exact ⟨q, n0 + 65, d, Z, rfl, by omega, HY3.out, HB3.out⟩
  case rest =>
    obtain ⟨q, k, d, ks, rfl, hk, hy, hb⟩ := hcut
    have HB := hidden hb
    have HY := hidden hy
    have H1B := hidden (H1.out.below hb)
    have HH := hidden (hmac_any q p1 k d n1 c1 ks xs1 wc hy (by omega) (H1.out.below hb) (by omega) (HK.out wc hb))
    have HR : Hid (∀ W, Below wc.heap.size wc W → Calls Tryd.prog 10 #[.slice q k d, .slice p1 n1 c1] W fun e w' => ∃ v, e = .returned v ∧ Own w' W.heap.size 5 v (hmacS ks xs1) ∧ Below W.heap.size W w') := fun W hW => rhmac_any q p1 k d n1 c1 ks xs1 W (HY.out.below hW) (by omega) (H1B.out.below hW) (by omega)
    have HDL : Is (hmacS ks xs1).length 32 := ⟨hmacS_len _ _⟩
    have HDR : Hid (∀ x ∈ hmacS ks xs1, 0 ≤ x ∧ x ≤ 255) := hmacS_rng _ _
    generalize hmacS ks xs1 = D at HH HR HDL HDR
    have HE : Hid (∀ W q1 q2 d1 d2, Byt W q1 32 d1 D → Byt W q2 32 d2 D → Calls Tryd.prog 8 #[.slice q1 32 d1, .slice q2 32 d2] W fun e w' => e = .returned (.bool true) ∧ ∃ r, w' = W.drewN r) := fun W q1 q2 d1 d2 h1 h2 => by
      have := requal_any q1 q2 32 d1 32 d2 D D W h1 h2
      rwa [show decide (D = D) = true from decide_eq_true rfl] at this
    clear hb hy HA H0 H1 HB1 HK
    go_wp2_with (first
      | (go_at_call 9; (with_reducible refine (HH.out).mono ?_); rintro _ w2 ⟨v2, rfl, hown2, hbel2⟩; obtain ⟨q2, d2, rfl, hbyt2⟩ := hown2.bytN rfl HDL.eq HDR.out; have HB2 := hidden hbel2; have H2 := hidden hbyt2; clear hown2 hbel2 hbyt2)
      | (go_at_call 10; (with_reducible refine (HR.out _ HB2.out).mono ?_); rintro _ w3 ⟨v3, rfl, hown3, hbel3⟩; obtain ⟨q3, d3, rfl, hbyt3⟩ := hown3.bytN rfl HDL.eq HDR.out; have HB3 := hidden (HB2.out.trans (hbel3.mono HB2.out.size)); have H32 := hidden (H2.out.below hbel3); have H33 := hidden hbyt3; clear hown3 hbel3 hbyt3)
      | (go_at_call 8; (with_reducible refine (HE.out _ _ _ _ _ H32.out H33.out).mono ?_); rintro _ w4 ⟨rfl, r4, rfl⟩; have HB4 := hidden (HB3.out.trans (below_drewN r4)))
      | fail)
    go_ret
    exact ⟨rfl, HB.out.trans (HB4.out.mono HB.out.size)⟩
end Go.Proofs.YtnnbfhjbaagnkaaDoor
