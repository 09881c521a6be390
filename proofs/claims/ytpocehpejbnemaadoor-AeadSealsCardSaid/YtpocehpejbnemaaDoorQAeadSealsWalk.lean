/-
  The law AeadSeals, walked: it returns true for every input, and only adds memory of its own.
-/
import Derived.Test.YtpocehpejbnemaaDoorQAeadAll
import Derived.Deep.Cut
import Derived.Deep.CutRange
namespace Go.Proofs.YtpocehpejbnemaaDoor
open Go.RowKit
set_option linter.unusedVariables false

set_option maxHeartbeats 3200000 in
set_option maxRecDepth 100000 in
theorem aeadSeals_walk (pk : Option Addr) (nk ck : Nat) (xk : List Int) (pn : Option Addr) (nn cn : Nat) (xn : List Int) (p0 : Option Addr) (n0 c0 : Nat) (xs0 : List Int) (p1 : Option Addr) (n1 c1 : Nat) (xs1 : List Int) (p2 : Option Addr) (n2 c2 : Nat) (xs2 : List Int) (w : World)
    (hk0 : Byt w pk nk ck xk) (rk : ck ≤ 140737488351232) (hn0 : Byt w pn nn cn xn) (rn : cn ≤ 140737488351232) (h0 : Byt w p0 n0 c0 xs0) (r0 : c0 ≤ 140737488351232)
    (h1 : Byt w p1 n1 c1 xs1) (r1 : c1 ≤ 140737488351232) (h2 : Byt w p2 n2 c2 xs2) (r2 : c2 ≤ 140737488351232) (hQ : QAt w) :
    Calls Tryd.prog 4 #[.slice pk nk ck, .slice pn nn cn, .slice p0 n0 c0, .slice p1 n1 c1, .slice p2 n2 c2] w fun e w' => e = .returned (.bool true) ∧ Below w.heap.size w w' := by
  have HA := hidden (awake12_any w hQ)
  by_cases hs : n1 ≤ 300 ∧ n0 ≤ 300
  rotate_left
  · by_cases hs1 : n1 ≤ 300
    · have e1 : ¬ (300 : Int) < n1 := by omega
      have e0 : (300 : Int) < n0 := by omega
      clear h0 h1 h2 hQ hk0 hn0
      go_enter Tryd.func4, Tryd.ntmps4
      go_wp2_with (first
        | (go_at_call 15; (with_reducible refine (HA.out).mono ?_); rintro e w1 ⟨rfl, hb⟩; have HB1 := hidden hb; clear hb)
        | fail)
      go_ret
      exact ⟨rfl, HB1.out⟩
    · have e1 : (300 : Int) < n1 := by omega
      clear h0 h1 h2 hQ hk0 hn0
      go_enter Tryd.func4, Tryd.ntmps4
      go_wp2_with (first
        | (go_at_call 15; (with_reducible refine (HA.out).mono ?_); rintro e w1 ⟨rfl, hb⟩; have HB1 := hidden hb; clear hb)
        | fail)
      go_ret
      exact ⟨rfl, HB1.out⟩
  obtain ⟨s1, s0⟩ := hs
  have e1 : ¬ (300 : Int) < n1 := by omega
  have e0 : ¬ (300 : Int) < n0 := by omega
  have H0 := hidden (fun W (hW : Below w.heap.size w W) => h0.below hW)
  have H1 := hidden (fun W (hW : Below w.heap.size w W) => h1.below hW)
  have HK := hidden (fun W (hW : Below w.heap.size w W) => hk0.below hW)
  have HN := hidden (fun W (hW : Below w.heap.size w W) => hn0.below hW)
  have H2 := hidden h2
  have HQ := hidden (fun W (hW : Below w.heap.size w W) => hQ.below hW hQ.lt)
  clear h0 h1 h2 hQ hk0 hn0
  go_enter Tryd.func4, Tryd.ntmps4
  go_upto_region 6 with (first
    | (go_at_call 15; (with_reducible refine (HA.out).mono ?_); rintro e w1 ⟨rfl, hb⟩; have HB1 := hidden hb; have HNW := hidden (new_at w p2 n2 c2 xs2 w1 H2.out hb 60 (by omega) 60 rfl); clear hb)
    | (go_at_call 9; (with_reducible refine (HNW.out).mono ?_); rintro e w2 ⟨rfl, hcod, hbel⟩; have HC := hidden hcod; have HB2 := hidden (HB1.out.trans (hbel.mono HB1.out.size)); clear hcod hbel HNW)
    | fail)
  have hk := HC.out.lt
  have hkb := HC.out.base
  generalize w1.heap.size = k at *
  have HC1 := hidden (bytes_at w w2 k HC.out 32 (by omega) 32 rfl)
  go_upto_region 7 with (first
    | (go_at_call 16; (with_reducible refine (HC1.out).mono ?_); rintro e w3 ⟨kp, kc, ky, rfl, hb1, hc1, hg1⟩; have HK1 := hidden hb1; have HB3 := hidden (HB2.out.grown hg1 HB2.out.size (fun j e => by cases e; exact hkb)); have hs3 := hg1.size; have HC2 := hidden (bytes_at w w3 k hc1 12 (by omega) 12 rfl); clear hb1 hc1 hg1 HC1)
    | (go_at_call 16; (with_reducible refine (HC2.out).mono ?_); rintro e w4 ⟨np, nc, ny, rfl, hb2, hc2, hg2⟩; have HK2 := hidden (HK1.out.stay hg2 hk).byt; have HN2 := hidden hb2.byt; have HB4 := hidden (HB3.out.grown hg2 HB3.out.size (fun j e => by cases e; exact hkb)); clear hb2 hc2 hg2 HC2)
    | fail)
  have HK4 := hidden (fun W (hW : Below w4.heap.size w4 W) => HK2.out.below hW)
  have HN4 := hidden (fun W (hW : Below w4.heap.size w4 W) => HN2.out.below hW)
  have HBw := hidden (fun W (hW : Below w4.heap.size w4 W) => HB4.out.trans (hW.mono HB4.out.size))
  clear HK2 HN2 HC HA
  go_upto_region 8 with fail
  generalize hw5 : w4.alloc (.cells _ 53) = w5
  have hw5s : w5.heap.size = w4.heap.size + 1 := by rw [← hw5]; simp
  have hb45 : Below w4.heap.size w4 w5 := by rw [← hw5]; exact (Below.refl _ _).alloc (Nat.le_refl _) _
  have HPR : Hid (∀ j, j < 4 → ∃ qp qn qc qx rp rn rc rx, w5.cell? ⟨w4.heap.size, j * 2, none⟩ = some (.slice qp qn qc) ∧ w5.cell? ⟨w4.heap.size, j * 2 + 1, none⟩ = some (.slice rp rn rc) ∧
      (∀ W, Below w4.heap.size w4 W → Byt W qp qn qc qx) ∧ (∀ W, Below w4.heap.size w4 W → Byt W rp rn rc rx)) := by
    have hK := fun W (hW : Below w4.heap.size w4 W) => HK.out W (HBw.out W hW)
    have hN := fun W (hW : Below w4.heap.size w4 W) => HN.out W (HBw.out W hW)
    intro j hj
    have : j = 0 ∨ j = 1 ∨ j = 2 ∨ j = 3 := by omega
    rw [← hw5]
    clear hw5 hb45 hw5s
    rcases this with rfl | rfl | rfl | rfl
    · exact ⟨pk, nk, ck, xk, pn, nn, cn, xn, by go_simp, by go_simp, hK, hN⟩
    · exact ⟨kp, 32, kc, ky, np, 12, nc, ny, by go_simp, by go_simp, HK4.out, HN4.out⟩
    · exact ⟨kp, 32, kc, ky, pn, nn, cn, xn, by go_simp, by go_simp, HK4.out, hN⟩
    · exact ⟨pk, nk, ck, xk, np, 12, nc, ny, by go_simp, by go_simp, hK, HN4.out⟩
  clear hw5
  have HB45 := hidden hb45
  clear HK HN HK4 HN4 hb45
  go_loopw [54] (fun i wr => ∃ (j : Nat), j ≤ 4 ∧ i = .int .i64 j ∧ Below w5.heap.size w5 wr) (fun i _ => 4 - (intOf i).toNat)
  case atStart => exact ⟨0, by omega, rfl, Below.refl _ _⟩
  case round =>
    obtain ⟨j, hj, rfl, hb⟩ := hrel
    have HB := hidden hb
    by_cases hlt : j < 4
    · have hlt' : (j : Int) < 4 := by omega
      obtain ⟨qp, qn, qc, qx, rp, rn, rc, rx, hc0, hc1, hq, hr⟩ := HPR.out j hlt
      have HC0 := cell_below hb _ _ hc0
      have HC1 := cell_below hb _ _ hc1
      have HQ1 := hidden hq
      have HR1 := hidden hr
      clear hc0 hc1 hq hr hb
      go_upto_region 10 with fail
      generalize hw6 : wr.alloc (.cells _ 53) = w6
      have hd0 : w6.cell? ⟨wr.heap.size, 0, none⟩ = some (.slice qp qn qc) := by rw [← hw6]; clear hw6; go_simp
      have hd1 : w6.cell? ⟨wr.heap.size, 1, none⟩ = some (.slice rp rn rc) := by rw [← hw6]; clear hw6; go_simp
      have HB6 : Hid (Below w5.heap.size w5 w6) := by rw [← hw6]; exact hidden (HB.out.alloc HB.out.size _)
      have HCC := hidden (fun W (hW : Below w6.heap.size w6 W) => (⟨cell_below hW _ _ hd0, cell_below hW _ _ hd1⟩ : W.cell? ⟨wr.heap.size, 0, none⟩ = some (.slice qp qn qc) ∧ W.cell? ⟨wr.heap.size, 1, none⟩ = some (.slice rp rn rc)))
      generalize wr.heap.size = B at *
      have hs5 : w4.heap.size ≤ w5.heap.size := HB45.out.size
      have H46 := hidden (fun W (hW : Below w6.heap.size w6 W) => (HB45.out.trans (HB6.out.mono hs5)).trans (hW.mono (Nat.le_trans hs5 HB6.out.size)))
      have HS1 := hidden (fun W (hW : Below w6.heap.size w6 W) => seal_to qp rp p0 p1 qn qc rn rc n0 c0 n1 c1 qx rx xs0 xs1 W (HQ1.out W (H46.out W hW)) (HR1.out W (H46.out W hW)) (H0.out W (HBw.out W (H46.out W hW))) (H1.out W (HBw.out W (H46.out W hW))) (by omega) (by omega) (HQ.out W (HBw.out W (H46.out W hW))))
      have HS2 := hidden (fun W (hW : Below w6.heap.size w6 W) => rseal_to qp rp p0 p1 qn qc rn rc n0 c0 n1 c1 qx rx xs0 xs1 W (HQ1.out W (H46.out W hW)) (HR1.out W (H46.out W hW)) (H0.out W (HBw.out W (H46.out W hW))) (H1.out W (HBw.out W (H46.out W hW))) (by omega) (by omega))
      have HT1 := hidden (fun W (hW : Below w6.heap.size w6 W) => tag_to qp rp p0 p1 qn qc rn rc n0 c0 n1 c1 qx rx xs0 xs1 W (HQ1.out W (H46.out W hW)) (HR1.out W (H46.out W hW)) (H0.out W (HBw.out W (H46.out W hW))) (H1.out W (HBw.out W (H46.out W hW))) (by omega) (by omega) (HQ.out W (HBw.out W (H46.out W hW))))
      have HT2 := hidden (fun W (hW : Below w6.heap.size w6 W) => rtag_to qp rp p0 p1 qn qc rn rc n0 c0 n1 c1 qx rx xs0 xs1 W (HQ1.out W (H46.out W hW)) (HR1.out W (H46.out W hW)) (H0.out W (HBw.out W (H46.out W hW))) (H1.out W (HBw.out W (H46.out W hW))) (by omega) (by omega))
      generalize sealAny qn rn qx rx xs0 xs1 = S at *
      generalize tagAny qn rn qx rx xs0 xs1 = T at *
      generalize sealErr qn rn = E at *
      generalize decide (qn = 32 ∧ rn = 12) = F at *
      generalize S.length = SN at *
      generalize T.length = TN at *
      have HC10 := hidden (HS1.out w6 (Below.refl _ _))
      clear hw6 HC0 HC1 HB HQ1 HR1
      go_upto_region 14 with (first
        | (go_at_call 17; (with_reducible refine (HC10.out).mono ?_); rintro en w7 ⟨p7, c7, rfl, hy7, hb7⟩; have HY7 := hidden (fun W (hW : Below w7.heap.size w7 W) => hy7.below hW); have HB7 := hidden hb7; have HC11 := hidden (HS2.out w7 hb7); obtain ⟨c70, c71⟩ := HCC.out w7 hb7; clear hy7 hb7)
        | (go_at_call 18; (with_reducible refine (HC11.out).mono ?_); rintro en w8 ⟨p8, c8, rfl, hy8, hb8⟩; have HY8 := hidden (fun W (hW : Below w8.heap.size w8 W) => hy8.below hW); have HX8 := hidden hb8; have HB8 := hidden (HB7.out.trans (hb8.mono HB7.out.size)); have HC12 := hidden (HT1.out w8 HB8.out); obtain ⟨c80, c81⟩ := HCC.out w8 HB8.out; clear hy8 hb8)
        | (go_at_call 19; (with_reducible refine (HC12.out).mono ?_); rintro en w9 ⟨p9, c9, rfl, hy9, hb9⟩; have HY9 := hidden (fun W (hW : Below w9.heap.size w9 W) => hy9.below hW); have HX9 := hidden hb9; have HB9 := hidden (HB8.out.trans (hb9.mono HB8.out.size)); have HC13 := hidden (HT2.out w9 HB9.out); obtain ⟨c90, c91⟩ := HCC.out w9 HB9.out; clear hy9 hb9)
        | (go_at_call 20; (with_reducible refine (HC13.out).mono ?_); rintro en w10 ⟨p10, c10, rfl, hy10, hb10⟩; have HY10 := hidden (fun W (hW : Below w10.heap.size w10 W) => hy10.below hW); have HX10 := hidden hb10; have HB10 := hidden (HB9.out.trans (hb10.mono HB9.out.size)); clear hb10)
        | fail)
      have h8 : Below w8.heap.size w8 w10 := HX9.out.trans (HX10.out.mono HX9.out.size)
      have h7 : Below w7.heap.size w7 w10 := HX8.out.trans (h8.mono HX8.out.size)
      have he1 := requal_any p7 p8 SN c7 SN c8 S S w10 (HY7.out w10 h7) (HY8.out w10 h8)
      have he2 := fun rr => requal_any p9 p10 TN c9 TN c10 T T (w10.drewN rr) ((HY9.out w10 HX10.out).below (drew_below ⟨rr, rfl⟩)) ((HY10.out w10 (Below.refl _ _)).below (drew_below ⟨rr, rfl⟩))
      rw [decide_eq_true rfl] at he1
      simp only [decide_true] at he2
      have HE1 := hidden he1
      have HE2 := hidden he2
      clear he1 he2 h7 h8 hy10 c70 c71 c80 c81 c90 c91 hd0 hd1
      go_wp2_with (first
        | (go_at_call 21; (with_reducible refine (HE1.out).mono ?_); rintro e w11 ⟨rfl, r11, rfl⟩)
        | (go_at_call 21; (with_reducible refine (HE2.out _).mono ?_); rintro e w12 ⟨rfl, r12, rfl⟩)
        | fail)
      refine ⟨⟨j + 1, by omega, by go_num, ?_⟩, by simp [intOf]; omega⟩
      exact (HB6.out.trans (HB10.out.mono HB6.out.size)).trans ((drew_below ⟨r11 + r12, rfl⟩ : Below w10.heap.size w10 (w10.drewN (r11 + r12))).mono (Nat.le_trans HB6.out.size HB10.out.size))
    · have hge : ¬ (j : Int) < 4 := by omega
      obtain rfl : j = 4 := by omega
      clear hlt
      go_wp2
      go_ret
      exact ⟨rfl, HBw.out _ (HB45.out.trans (HB.out.mono HB45.out.size))⟩
end Go.Proofs.YtpocehpejbnemaaDoor
