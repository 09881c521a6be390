/-
  The law AeadOpens, walked: it returns true for every input, and only adds memory of its own.
-/
import Derived.Test.YtpocehpejbnemaaDoorQAeadAll
import Derived.Deep.Cut
import Derived.Deep.CutRange
namespace Go.Proofs.YtpocehpejbnemaaDoor
open Go.RowKit
set_option linter.unusedVariables false

set_option maxHeartbeats 3200000 in
set_option maxRecDepth 100000 in
theorem aeadOpens_walk (p0 : Option Addr) (n0 c0 : Nat) (xs0 : List Int) (p1 : Option Addr) (n1 c1 : Nat) (xs1 : List Int) (p2 : Option Addr) (n2 c2 : Nat) (xs2 : List Int) (w : World) (h0 : Byt w p0 n0 c0 xs0) (r0 : c0 ≤ 140737488351232)
    (h1 : Byt w p1 n1 c1 xs1) (r1 : c1 ≤ 140737488351232) (h2 : Byt w p2 n2 c2 xs2) (r2 : c2 ≤ 140737488351232) (hQ : QAt w) :
    Calls Tryd.prog 5 #[.slice p0 n0 c0, .slice p1 n1 c1, .slice p2 n2 c2] w fun e w' => e = .returned (.bool true) ∧ Below w.heap.size w w' := by
  have HA := hidden (awake12_any w hQ)
  by_cases hs : n1 ≤ 300 ∧ n0 ≤ 300
  rotate_left
  · by_cases hs1 : n1 ≤ 300
    · have e1 : ¬ (300 : Int) < n1 := by omega
      have e0 : (300 : Int) < n0 := by omega
      clear h0 h1 h2 hQ
      go_enter Tryd.func5, Tryd.ntmps5
      go_wp2_with (first
        | (go_at_call 15; (with_reducible refine (HA.out).mono ?_); rintro e w1 ⟨rfl, hb⟩; have HB1 := hidden hb; clear hb)
        | fail)
      go_ret
      exact ⟨rfl, HB1.out⟩
    · have e1 : (300 : Int) < n1 := by omega
      clear h0 h1 h2 hQ
      go_enter Tryd.func5, Tryd.ntmps5
      go_wp2_with (first
        | (go_at_call 15; (with_reducible refine (HA.out).mono ?_); rintro e w1 ⟨rfl, hb⟩; have HB1 := hidden hb; clear hb)
        | fail)
      go_ret
      exact ⟨rfl, HB1.out⟩
  obtain ⟨s1, s0⟩ := hs
  have e1 : ¬ (300 : Int) < n1 := by omega
  have e0 : ¬ (300 : Int) < n0 := by omega
  have H0 := hidden (fun W (hW : Below w.heap.size w W) => h0.below hW)
  have H1 := hidden (fun W (hW : Below w.heap.size w W) => h1.below hW)
  have H2 := hidden h2
  have HBr := hidden (Below.refl w.heap.size w)
  have HQ := hidden (fun W (hW : Below w.heap.size w W) => hQ.below hW hQ.lt)
  clear h0 h1 h2 hQ
  go_enter Tryd.func5, Tryd.ntmps5
  go_upto_region 6 with (first
    | (go_at_call 15; (with_reducible refine (HA.out).mono ?_); rintro e w1 ⟨rfl, hb⟩; have HB1 := hidden hb; have HNW := hidden (new_at w p2 n2 c2 xs2 w1 H2.out hb 80 (by omega) 80 rfl); clear hb)
    | (go_at_call 9; (with_reducible refine (HNW.out).mono ?_); rintro e w2 ⟨rfl, hcod, hbel⟩; have HC := hidden hcod; have HB2 := hidden (HB1.out.trans (hbel.mono HB1.out.size)); clear hcod hbel HNW)
    | fail)
  have hk := HC.out.lt
  have hkb := HC.out.base
  generalize w1.heap.size = k at *
  have HC1 := hidden (bytes_at w w2 k HC.out 32 (by omega) 32 rfl)
  go_upto_region 7 with (first
    | (go_at_call 16; (with_reducible refine (HC1.out).mono ?_); rintro e w3 ⟨kp, kc, ky, rfl, hb1, hc1, hg1⟩; have HK1 := hidden hb1; have HB3 := hidden (HB2.out.grown hg1 HB2.out.size (fun j e => by cases e; exact hkb)); have hs3 := hg1.size; have HC2 := hidden (bytes_at w w3 k hc1 12 (by omega) 12 rfl); clear hb1 hc1 hg1 HC1)
    | (go_at_call 16; (with_reducible refine (HC2.out).mono ?_); rintro e w4 ⟨np, nc, ny, rfl, hb2, hc2, hg2⟩; have HCD := hidden hc2; have HKB4 := hidden (HK1.out.stay hg2 hk); have HNB4 := hidden hb2; have HK2 := hidden HKB4.out.byt; have HN2 := hidden hb2.byt; have HB4 := hidden (HB3.out.grown hg2 HB3.out.size (fun j e => by cases e; exact hkb)); clear hb2 hc2 hg2 HC2)
    | fail)
  have HK4 := hidden (fun W (hW : Below w4.heap.size w4 W) => HK2.out.below hW)
  have HN4 := hidden (fun W (hW : Below w4.heap.size w4 W) => HN2.out.below hW)
  have HBw := hidden (fun W (hW : Below w4.heap.size w4 W) => HB4.out.trans (hW.mono HB4.out.size))
  have hsl := sealA_len ky ny xs0 xs1
  have hsr := sealA_rng ky ny xs0 xs1
  have HSE := hidden (rseal_yes kp np p0 p1 kc nc n0 c0 n1 c1 ky ny xs0 xs1 w4 HK2.out HN2.out (H0.out w4 HB4.out) (H1.out w4 HB4.out) (by omega) (by omega))
  rw [(H1.out w HBr.out).len] at hsl
  generalize sealA ky ny xs0 xs1 = S at *
  have HSL := Is.mk hsl
  have HSR := hidden hsr
  clear HK2 HN2 HC HA hsl hsr
  have hk4 : k < w4.heap.size := HCD.out.lt
  go_upto_region 8 with (first
    | (go_at_call 18; (with_reducible refine (HSE.out).mono ?_); rintro en w5 ⟨v5, rfl, ho5, hb5⟩; obtain ⟨sp, sc, rfl, hy5⟩ := ho5.bod HSL.eq HSR.out; have HS5 := hidden hy5; have HX5 := hidden hb5; have HCD5 := hidden (HCD.out.below hb5); clear ho5 hb5 hy5)
    | fail)
  have hk2 : k < w2.heap.size := hk
  have hk3 : k < w3.heap.size := by omega
  have HKB := hidden (HKB4.out.below HX5.out)
  have HNB := hidden (HNB4.out.below HX5.out)
  have HB5 := hidden (HBw.out w5 HX5.out)
  have HCH1 := hidden (change_bod w w5 k HCD5.out sp (n1 + 16) sc S HS5.out.byt (by omega))
  go_upto_region 9 with (first
    | (go_at_call 14; (with_reducible refine (HCH1.out).mono ?_); rintro en w6 ⟨tp, tn, tc, ty, rfl, hy6, hn6, hc6, hg6⟩; have HT6 := hidden hy6; have HK6 := hidden (HKB.out.stay hg6 hk2); have HN6 := hidden (HNB.out.stay hg6 hk3); have HS6 := hidden (HS5.out.stay hg6 hk4); have hs6 := hg6.size; have HB6 := hidden (HB5.out.grown hg6 HB5.out.size (fun j e => by cases e; exact hkb)); have HCH2 := hidden (change_bod w w6 k hc6 p0 n0 c0 xs0 (H0.out w6 HB6.out) (by omega)); have h56 := HX5.out.size; clear hy6 hc6 hg6 HCH1)
    | (go_at_call 14; (with_reducible refine (HCH2.out).mono ?_); rintro en w7 ⟨up, un, uc, uy, rfl, hy7, hn7, hc7, hg7⟩; have HU7 := hidden hy7.byt; have HT7 := hidden (HT6.out.stay hg7 (by omega)).byt; have HK7 := hidden (HK6.out.stay hg7 hk2).byt; have HN7 := hidden (HN6.out.stay hg7 hk3).byt; have HS7 := hidden (HS6.out.stay hg7 hk4).byt; have HB7 := hidden (HB6.out.grown hg7 HB6.out.size (fun j e => by cases e; exact hkb)); clear hy7 hc7 hg7 HCH2)
    | fail)
  generalize hw8 : w7.alloc (.cells _ 53) = w8
  have hb78 : Below w7.heap.size w7 w8 := by rw [← hw8]; exact (Below.refl _ _).alloc (Nat.le_refl _) _
  have HBx := hidden (fun W (hW : Below w7.heap.size w7 W) => HB7.out.trans (hW.mono HB7.out.size))
  have HK8 := hidden (fun W (hW : Below w7.heap.size w7 W) => HK7.out.below hW)
  have HN8 := hidden (fun W (hW : Below w7.heap.size w7 W) => HN7.out.below hW)
  have HPR : Hid (∀ j, j < 4 → ∃ qp qn qc qx rp rn rc rx, w8.cell? ⟨w7.heap.size, j * 2, none⟩ = some (.slice qp qn qc) ∧ w8.cell? ⟨w7.heap.size, j * 2 + 1, none⟩ = some (.slice rp rn rc) ∧
      (∀ W, Below w7.heap.size w7 W → Byt W qp qn qc qx) ∧ (∀ W, Below w7.heap.size w7 W → Byt W rp rn rc rx) ∧ qn ≤ 20000 ∧ rn ≤ 20000) := by
    have h0 := fun W (hW : Below w7.heap.size w7 W) => H0.out W (HBx.out W hW)
    have h1 := fun W (hW : Below w7.heap.size w7 W) => H1.out W (HBx.out W hW)
    have hS := fun W (hW : Below w7.heap.size w7 W) => HS7.out.below hW
    have hT := fun W (hW : Below w7.heap.size w7 W) => HT7.out.below hW
    have hU := fun W (hW : Below w7.heap.size w7 W) => HU7.out.below hW
    intro j hj
    have : j = 0 ∨ j = 1 ∨ j = 2 ∨ j = 3 := by omega
    rw [← hw8]
    clear hw8 hb78
    rcases this with rfl | rfl | rfl | rfl
    · exact ⟨p0, n0, c0, xs0, sp, n1 + 16, sc, S, by go_simp, by go_simp, h0, hS, by omega, by omega⟩
    · exact ⟨p0, n0, c0, xs0, tp, tn, tc, ty, by go_simp, by go_simp, h0, hT, by omega, by omega⟩
    · exact ⟨up, un, uc, uy, sp, n1 + 16, sc, S, by go_simp, by go_simp, hU, hS, by omega, by omega⟩
    · exact ⟨p0, n0, c0, xs0, p1, n1, c1, xs1, by go_simp, by go_simp, h0, h1, by omega, by omega⟩
  clear hw8
  have HB78 := hidden hb78
  have HEND := hidden (fun q W (hW : Below w7.heap.size w7 W) => open_no q np p0 sp 31 (kc - 1) 12 nc n0 c0 (n1 + 16) sc W (by omega) (by omega) (by omega) HS7.out.cap (by have := HS7.out.big; unfold maxLen at this; omega))
  have hkc := HK7.out.cap
  clear hb78 HKB HNB HKB4 HNB4 HS5 HS6 HT6 HK6 HN6 HCD HCD5 HSE
  go_loopw [62] (fun i wr => ∃ (j : Nat), j ≤ 4 ∧ i = .int .i64 j ∧ Below w8.heap.size w8 wr) (fun i _ => 4 - (intOf i).toNat)
  case atStart => exact ⟨0, by omega, rfl, Below.refl _ _⟩
  case round =>
    obtain ⟨j, hj, rfl, hb⟩ := hrel
    have HB := hidden hb
    by_cases hlt : j < 4
    · have hlt' : (j : Int) < 4 := by omega
      obtain ⟨qp, qn, qc, qx, rp, rn, rc, rx, hc0, hc1, hq, hr, hqn, hrn⟩ := HPR.out j hlt
      have HC0 := cell_below hb _ _ hc0
      have HC1 := cell_below hb _ _ hc1
      have HQ1 := hidden hq
      have HR1 := hidden hr
      clear hc0 hc1 hq hr hb
      go_upto_region 11 with fail
      generalize hw9 : wr.alloc (.cells _ 53) = w9
      have hd0 : w9.cell? ⟨wr.heap.size, 0, none⟩ = some (.slice qp qn qc) := by rw [← hw9]; clear hw9; go_simp
      have hd1 : w9.cell? ⟨wr.heap.size, 1, none⟩ = some (.slice rp rn rc) := by rw [← hw9]; clear hw9; go_simp
      have HB9 : Hid (Below w8.heap.size w8 w9) := by rw [← hw9]; exact hidden (HB.out.alloc HB.out.size _)
      have HCC := hidden (fun W (hW : Below w9.heap.size w9 W) => (⟨cell_below hW _ _ hd0, cell_below hW _ _ hd1⟩ : W.cell? ⟨wr.heap.size, 0, none⟩ = some (.slice qp qn qc) ∧ W.cell? ⟨wr.heap.size, 1, none⟩ = some (.slice rp rn rc)))
      generalize wr.heap.size = B at *
      have hs8 : w7.heap.size ≤ w8.heap.size := HB78.out.size
      have H79 := hidden (fun W (hW : Below w9.heap.size w9 W) => (HB78.out.trans (HB9.out.mono hs8)).trans (hW.mono (Nat.le_trans hs8 HB9.out.size)))
      have HO1 := hidden (fun W (hW : Below w9.heap.size w9 W) => open_to kp np qp rp kc nc qn qc rn rc ky ny qx rx W (HK8.out W (H79.out W hW)) (HN8.out W (H79.out W hW)) (HQ1.out W (H79.out W hW)) (HR1.out W (H79.out W hW)) hqn hrn (HQ.out W (HBx.out W (H79.out W hW))))
      have HO2 := hidden (fun W (hW : Below w9.heap.size w9 W) => ropen_to kp np qp rp kc nc qn qc rn rc ky ny qx rx W (HK8.out W (H79.out W hW)) (HN8.out W (H79.out W hW)) (HQ1.out W (H79.out W hW)) (HR1.out W (H79.out W hW)) hqn hrn)
      generalize openL ky ny qx rx = L at *
      generalize openE ky ny qx rx = E at *
      generalize L.length = LN at *
      have HC10 := hidden (HO1.out w9 (Below.refl _ _))
      clear hw9 HC0 HC1 HB HQ1 HR1
      go_upto_region 13 with (first
        | (go_at_call 22; (with_reducible refine (HC10.out).mono ?_); rintro en w10 ⟨p10, c10, rfl, hy10, hb10⟩; have HY10 := hidden (fun W (hW : Below w10.heap.size w10 W) => hy10.below hW); have HB10 := hidden hb10; have HC11 := hidden (HO2.out w10 hb10); obtain ⟨c100, c101⟩ := HCC.out w10 hb10; clear hy10 hb10)
        | (go_at_call 23; (with_reducible refine (HC11.out).mono ?_); rintro en w11 ⟨p11, c11, rfl, hy11, hb11⟩; have HB11 := hidden (HB10.out.trans (hb11.mono HB10.out.size)); have he1 := requal_any p10 p11 LN c10 LN c11 L L w11 (HY10.out w11 hb11) hy11; rw [decide_eq_true rfl] at he1; have HE1 := hidden he1; clear hy11 hb11 he1)
        | fail)
      clear c100 c101 hd0 hd1
      go_wp2_with (first
        | (go_at_call 21; (with_reducible refine (HE1.out).mono ?_); rintro e w12 ⟨rfl, r12, rfl⟩)
        | fail)
      refine ⟨⟨j + 1, by omega, by go_num, ?_⟩, by simp [intOf]; omega⟩
      exact (HB9.out.trans (HB11.out.mono HB9.out.size)).trans ((drew_below ⟨r12, rfl⟩ : Below w11.heap.size w11 (w11.drewN r12)).mono (Nat.le_trans HB9.out.size HB11.out.size))
    · have hge : ¬ (j : Int) < 4 := by omega
      obtain rfl : j = 4 := by omega
      have HW := hidden (HB78.out.trans (HB.out.mono HB78.out.size))
      have HE := hidden (fun q => HEND.out q wr HW.out)
      clear hlt hb
      go_wp2_with (first
        | (go_at_call 22; (with_reducible refine (HE.out _).mono ?_); rintro en w10 ⟨rfl, rfl⟩)
        | fail)
      go_ret
      exact ⟨rfl, HBx.out _ HW.out⟩
end Go.Proofs.YtpocehpejbnemaaDoor
