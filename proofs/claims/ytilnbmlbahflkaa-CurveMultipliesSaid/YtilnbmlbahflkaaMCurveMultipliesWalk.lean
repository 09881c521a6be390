/-
  The law CurveMultiplies, walked: it returns true for every input, and only adds memory of its own.
-/
import Derived.Test.YtilnbmlbahflkaaMRCrvLaw
import Derived.Test.YtilnbmlbahflkaaMZ0
import Derived.Test.YtilnbmlbahflkaaMZ2
import Derived.Deep.Cut
import Derived.Deep.CutRange
import Derived.Deep.CutBlock
namespace Go.Proofs.Ytilnbmlbahflkaa
open Go.RowKit
set_option linter.unusedVariables false

theorem bytes32_mul (W w : World) (k : Nat) (h : Cod W w k) :
    Calls Try.prog 6 #[.pointer (some ⟨k, 0, none⟩), .int .i64 32] w fun e w' => ∃ v ys, e = .returned v ∧ ys.length = 32 ∧ (∀ x ∈ ys, 0 ≤ x ∧ x ≤ 255) ∧ Own w' w.heap.size 5 v ys ∧ Cod W w' k ∧ w.grownBy w' (some k) := mbytes_ownC W w k h 32 (by omega)
theorem set_rngM (a : List Int) (i : Nat) (x : Int) (h : ∀ y ∈ a, 0 ≤ y ∧ y ≤ 255) (hx : 0 ≤ x ∧ x ≤ 255) : ∀ y ∈ a.set i x, 0 ≤ y ∧ y ≤ 255 := fun y hy => by
  rcases List.mem_or_eq_of_mem_set hy with h1 | rfl
  · exact h y h1
  · exact hx
theorem Own.bytM {w : World} {base g n c : Nat} {xs : List Int} (h : Own w base 5 (.slice (some ⟨g, 0, none⟩) n c) xs) (hl : xs.length = n) (hr : ∀ x ∈ xs, 0 ≤ x ∧ x ≤ 255) : Byt w (some ⟨g, 0, none⟩) n c xs := by
  obtain ⟨p, c', e, hb⟩ := h.bytN rfl hl hr
  simp at e
  obtain ⟨rfl, rfl⟩ := e
  exact hb
theorem byt_lowM {w W : World} {N g n c : Nat} {xs : List Int} (h : Byt w (some ⟨g, 0, none⟩) n c xs) (hb : Below N w W) (hg : g < N) : Byt W (some ⟨g, 0, none⟩) n c xs :=
  ⟨h.len, h.cap, h.big, h.rng, fun hn => by
    obtain ⟨b, o, e, hc⟩ := h.mem hn
    simp at e
    obtain ⟨rfl, rfl⟩ := e
    exact ⟨g, 0, rfl, fun i hi => (hb.cell (p := ⟨g, 0 + i, none⟩) hg).trans (hc i hi)⟩⟩

set_option maxHeartbeats 3200000 in
set_option maxRecDepth 100000 in
theorem curveMultiplies_walk (p0 : Option Addr) (n0 c0 : Nat) (xs0 : List Int) (p1 : Option Addr) (n1 c1 : Nat) (xs1 : List Int) (p2 : Option Addr) (n2 c2 : Nat) (xs2 : List Int) (z3 : Int) (w : World) (h0 : Byt w p0 n0 c0 xs0) (r0 : c0 ≤ 140737488351232)
    (h1 : Byt w p1 n1 c1 xs1) (r1 : c1 ≤ 140737488351232) (h2 : Byt w p2 n2 c2 xs2) (r2 : c2 ≤ 140737488351232) (g3 : 0 ≤ z3 ∧ z3 ≤ 255) :
    Calls Try.prog 3 #[.slice p0 n0 c0, .slice p1 n1 c1, .slice p2 n2 c2, .int .u8 z3] w fun e w' => e = .returned (.bool true) ∧ Below w.heap.size w w' := by
  obtain ⟨i0, hi, hz0, hz1, hz2⟩ := info_parts Try.infoByte
  obtain ⟨Z1, HZ1, hmk⟩ := make_eq (P := Try.prog) 22 5 i0 Try.underlying22 hi hz0 hz1 hz2 32 (by omega)
  have hmk1 : ∀ w : World, (Instr.makeSlice 22 (.int .i64 32) (.int .i64 32)).run Try.prog w = .ok (.slice (some ⟨w.heap.size, 0, none⟩) 32 32) (w.alloc (.cells Z1 5)) := hmk
  have HMK := hidden hmk1
  have HA := hidden (awake14_any w)
  have H0 := hidden h0
  have H1 := hidden (fun W (hW : Below w.heap.size w W) => h1.below hW)
  have H2 := hidden (fun W (hW : Below w.heap.size w W) => h2.below hW)
  clear h0 h1 h2 hi hz0 hz1 hz2 hmk hmk1
  go_enter Try.func3, Try.ntmps3
  go_upto_region 4 with (first
    | (go_at_call 4; (with_reducible refine (HA.out).mono ?_); rintro e w1 ⟨rfl, hb⟩; have HB1 := hidden hb; clear hb)
    | (go_at_call 5; (refine (new_any w p0 n0 c0 xs0 w1 H0.out HB1.out 100 (by omega)).mono ?_); rintro e w2 ⟨rfl, hcod, hbel⟩; have HC := hidden hcod; have HB2 := hidden (HB1.out.trans (hbel.mono HB1.out.size)); clear hcod hbel)
    | fail)
  have hk := HC.out.lt
  have hkb := HC.out.base
  generalize w1.heap.size = k at *
  have HC1 := hidden (bytes32_mul w w2 k HC.out)
  go_upto_region 5 with (first
    | (go_at_call 6; (with_reducible refine (HC1.out).mono ?_); rintro e w3 ⟨v1, s, rfl, hl1, hr1, ho1, hc1, hg1⟩; obtain ⟨gs, cs, rfl, hgs, hgl, -, -⟩ := ho1.at_ hl1 (by omega); have HS3 := hidden ho1; have HSL := Is.mk hl1; have HSR := hidden hr1; have HGS := hidden hgs; have HGL := hidden hgl; have HB3 := hidden (HB2.out.grown hg1 HB2.out.size (fun j e => by cases e; exact hkb)); have hk3 : k < w3.heap.size := (by have := hg1.size; omega); have HC2 := hidden (bytes32_mul w w3 k hc1); clear hl1 hr1 ho1 hc1 hg1 hgs hgl HC1)
    | (go_at_call 6; (with_reducible refine (HC2.out).mono ?_); rintro e w4 ⟨v2, ys, rfl, hl2, hr2, ho2, hc2, hg2⟩; obtain ⟨gp, cp, rfl, -, -, -, -⟩ := ho2.at_ hl2 (by omega); have HP := hidden ho2; have HPL := Is.mk hl2; have HPR := hidden hr2; have HB4 := hidden (HB3.out.grown hg2 HB3.out.size (fun j e => by cases e; exact hkb)); have HG2 := hidden hg2; clear hl2 hr2 ho2 hc2 hg2 HC2)
    | fail)
  obtain ⟨N, hN⟩ : ∃ N, w3.heap.size = N := ⟨_, rfl⟩
  have hs4 : Byt w4 (some ⟨gs, 0, none⟩) 32 cs s := by
    have hb := HS3.out.bytM HSL.eq HSR.out
    refine ⟨hb.len, hb.cap, hb.big, hb.rng, fun hn => ?_⟩
    obtain ⟨b, o, e, hc⟩ := hb.mem hn
    simp at e
    obtain ⟨rfl, rfl⟩ := e
    exact ⟨gs, 0, rfl, fun i hi => HG2.out.cell (a := ⟨gs, 0 + i, none⟩) (hc i hi) (by intro e; have h9 : gs = k := (by simpa using e); have := HGS.out; omega)⟩
  have hgsN : gs < N := by rw [← hN]; exact HGL.out
  have HNN : Hid (N ≤ w4.heap.size) := by rw [← hN]; exact hidden HG2.out.size
  have HWN : Hid (w.heap.size ≤ N) := by rw [← hN]; exact hidden HB3.out.size
  have HS4 := hidden (fun W (hW : Below N w4 W) => byt_lowM hs4 hW hgsN)
  have HB44 := hidden (Below.refl N w4)
  have HBW := hidden (fun W (hW : Below N w4 W) => HB4.out.trans (hW.mono HWN.out))
  rw [hN] at HP
  clear hs4 hgsN hN HS3 HSL HSR HGS HGL HB1 HB2 HB3 HB4 HG2 HC HA hk hkb hk3
  have HR5 : Hid (z3 % 5 = 0 ∨ z3 % 5 = 1 ∨ z3 % 5 = 2 ∨ z3 % 5 = 3 ∨ z3 % 5 = 4) := by show _ ∨ _ ∨ _ ∨ _ ∨ _; omega
  go_upto_block 0 with fail
  go_cut [11, 33] from 34 to 77 (fun v _ wx => ∃ p' c' t, v = .slice p' 32 c' ∧ Byt wx p' 32 c' t ∧ Below N w4 wx)
  case first =>
    rcases HR5.out with hr | hr | hr | hr | hr
    · go_wp2
      go_meet
      case rel => exact ⟨_, _, ys, rfl, HP.out.bytM HPL.eq HPR.out, HB44.out⟩
    · skip
      go_upto_region 8 with fail
      go_wp2
      go_loopw [38] (fun i wr => ∃ (j : Nat) (Y : List Int), j ≤ 32 ∧ i = .int .i64 j ∧ Y.length = 32 ∧ (∀ x ∈ Y, 0 ≤ x ∧ x ≤ 255) ∧ Own wr N 5 (.slice (some ⟨gp, 0, none⟩) 32 cp) Y ∧ Below N w4 wr) (fun i _ => 32 - (intOf i).toNat)
      case atStart => exact ⟨0, ys, by omega, rfl, HPL.eq, HPR.out, HP.out, HB44.out⟩
      case round =>
        obtain ⟨j, Y, hj, rfl, hYl, hYr, ho, hb⟩ := hrel
        obtain ⟨gq, cq, ev, hgN, -, hcell, hfro⟩ := ho.at_ hYl (by omega)
        obtain ⟨rfl, rfl⟩ : gp = gq ∧ cp = cq := by simp at ev; omega
        have HG := hidden hgN
        have HB := hidden hb
        by_cases hlt : j < 32
        · have cj := hcell j hlt
          have fj := hfro j
          have HO2 := hidden (ho.set hYl j 255)
          have HY2 : Hid ((Y.set j 255).length = 32) := by show _ = _; rw [List.length_set]; exact hYl
          have HR2 := hidden (set_rngM Y j 255 hYr (by omega))
          generalize Y.getD j 0 = old at cj
          have b0 : (j : Int) < 32 := by omega
          have b1 : (0 : Int) ≤ (j : Int) := by omega
          clear ho hYl hYr hcell hfro hb ev hgN
          go_wp2
          go_roundw
          case rel => exact ⟨j + 1, _, by omega, by go_num, HY2.out, HR2.out, HO2.out, HB.out.setCell (p := ⟨gp, j, none⟩) HG.out _⟩
          case measure => simp [intOf]; omega
        · have hge : ¬ (j : Int) < 32 := by omega
          have c0 := hcell 0 (by omega)
          have f0 := hfro 0
          have HO2 := hidden (ho.set hYl 0 (236 + z3 / 5 % 8))
          have HR2 := hidden (set_rngM Y 0 (236 + z3 / 5 % 8) hYr (by omega))
          generalize Y.getD 0 0 = old at c0
          have hv : IntKind.u8.wrap (236 + z3 / 5 % 8) = 236 + z3 / 5 % 8 := by rw [IntKind.wrap_u8]; omega
          have HL2 : Hid ((Y.set 0 (236 + z3 / 5 % 8)).length = 32) := by show _ = _; rw [List.length_set]; exact hYl
          clear ho hYl hYr hcell hfro hb ev hgN
          go_wp2
          go_meet
          case rel => exact ⟨_, _, _, rfl, HO2.out.bytM HL2.out HR2.out, HB.out.setCell (p := ⟨gp, 0, none⟩) HG.out _⟩
    · skip
      go_upto_region 15 with fail
      go_wp2
      go_loopw [55] (fun i wr => ∃ (j : Nat) (Y : List Int), j ≤ 32 ∧ i = .int .i64 j ∧ Y.length = 32 ∧ (∀ x ∈ Y, 0 ≤ x ∧ x ≤ 255) ∧ Own wr N 5 (.slice (some ⟨gp, 0, none⟩) 32 cp) Y ∧ Below N w4 wr) (fun i _ => 32 - (intOf i).toNat)
      case atStart => exact ⟨0, ys, by omega, rfl, HPL.eq, HPR.out, HP.out, HB44.out⟩
      case round =>
        obtain ⟨j, Y, hj, rfl, hYl, hYr, ho, hb⟩ := hrel
        obtain ⟨gq, cq, ev, hgN, -, hcell, hfro⟩ := ho.at_ hYl (by omega)
        obtain ⟨rfl, rfl⟩ : gp = gq ∧ cp = cq := by simp at ev; omega
        have HG := hidden hgN
        have HB := hidden hb
        by_cases hlt : j < 32
        · have cj := hcell j hlt
          have fj := hfro j
          have HO2 := hidden (ho.set hYl j 255)
          have HY2 : Hid ((Y.set j 255).length = 32) := by show _ = _; rw [List.length_set]; exact hYl
          have HR2 := hidden (set_rngM Y j 255 hYr (by omega))
          generalize Y.getD j 0 = old at cj
          have b0 : (j : Int) < 32 := by omega
          have b1 : (0 : Int) ≤ (j : Int) := by omega
          clear ho hYl hYr hcell hfro hb ev hgN
          go_wp2
          go_roundw
          case rel => exact ⟨j + 1, _, by omega, by go_num, HY2.out, HR2.out, HO2.out, HB.out.setCell (p := ⟨gp, j, none⟩) HG.out _⟩
          case measure => simp [intOf]; omega
        · have hge : ¬ (j : Int) < 32 := by omega
          have c0 := hcell 0 (by omega)
          have f0 := hfro 0
          have c31 := hcell 31 (by omega)
          have f31 := hfro 31
          have HL2 : Hid ((Y.set 0 (236 + z3 / 5 % 8)).length = 32) := by show _ = _; rw [List.length_set]; exact hYl
          have HO2 := hidden ((ho.set hYl 0 (236 + z3 / 5 % 8)).set HL2.out 31 127)
          have HL3 : Hid (((Y.set 0 (236 + z3 / 5 % 8)).set 31 127).length = 32) := by show _ = _; rw [List.length_set]; exact HL2.out
          have HR2 := hidden (set_rngM _ 31 127 (set_rngM Y 0 (236 + z3 / 5 % 8) hYr (by omega)) (by omega))
          generalize Y.getD 0 0 = old at c0
          generalize Y.getD 31 0 = old1 at c31
          have hv : IntKind.u8.wrap (236 + z3 / 5 % 8) = 236 + z3 / 5 % 8 := by rw [IntKind.wrap_u8]; omega
          clear ho hYl hYr hcell hfro hb ev hgN
          go_wp2
          go_meet
          case rel => exact ⟨_, _, _, rfl, HO2.out.bytM HL3.out HR2.out, (HB.out.setCell (p := ⟨gp, 0, none⟩) HG.out _).setCell (p := ⟨gp, 31, none⟩) HG.out _⟩
    · have hmk1 := HMK.out
      go_upto_region 22 with fail
      generalize hw5 : World.alloc w4 (.cells Z1 5) = w5
      have hO : Wb w5 w4.heap.size 5 (List.replicate 32 0) := by
        rw [← hw5]
        exact Wb.new w4 5 (List.replicate 32 0) Z1 HZ1.out
      have hb : Below N w4 w5 := by
        rw [← hw5]
        exact HB44.out.alloc HNN.out _
      obtain ⟨n, hn⟩ : ∃ n, w4.heap.size = n := ⟨_, rfl⟩
      have hnN : N ≤ n := by rw [← hn]; exact HNN.out
      rw [hn] at hO
      simp only [hn]
      have c0 := hO.cell 0 (by simp)
      have f0 := hO.fr 0
      have hq := hO.set 0 (z3 / 5 % 3)
      have HQ := hidden (hq.byt32 (by simp) (set_rngM _ _ _ (zeros_rng 32) (by omega)))
      have HB := hidden (hb.setCell (p := ⟨n, 0, none⟩) hnN (.int .u8 (z3 / 5 % 3)))
      clear hw5 hO hb hn hq hmk1
      go_wp2
      go_meet
      case rel => exact ⟨_, _, _, rfl, HQ.out, HB.out⟩
    · go_wp2
      go_meet
      case rel => exact ⟨_, _, ys, rfl, HP.out.bytM HPL.eq HPR.out, HB44.out⟩
  case rest =>
    obtain ⟨p', c', t, rfl, hbt, hbw⟩ := hcut
    obtain ⟨w7, rfl⟩ : ∃ x, x = wc := ⟨_, rfl⟩
    have hN7 : N ≤ w7.heap.size := Nat.le_trans HNN.out hbw.size
    have HBx := hidden (fun W (hW : Below w7.heap.size w7 W) => HBW.out W (hbw.trans (hW.mono hN7)))
    have HS7 := hidden (fun W (hW : Below w7.heap.size w7 W) => HS4.out W (hbw.trans (hW.mono hN7)))
    have HT7 := hidden (fun W (hW : Below w7.heap.size w7 W) => hbt.below hW)
    clear hbt hbw hN7 HP HPL HPR HBW HS4 HB44 HNN HWN HR5 HMK HZ1
    go_upto_region 24 with fail
    generalize hw8 : w7.alloc (.cells _ 27) = w8
    have hb78 : Below w7.heap.size w7 w8 := by rw [← hw8]; exact (Below.refl _ _).alloc (Nat.le_refl _) _
    have HPRS : Hid (∀ j, j < 3 → ∃ qp qn qc qx rp rn rc rx, w8.cell? ⟨w7.heap.size, j * 2, none⟩ = some (.slice qp qn qc) ∧ w8.cell? ⟨w7.heap.size, j * 2 + 1, none⟩ = some (.slice rp rn rc) ∧
        (∀ W, Below w7.heap.size w7 W → Byt W qp qn qc qx) ∧ (∀ W, Below w7.heap.size w7 W → Byt W rp rn rc rx)) := by
      have h1 := fun W (hW : Below w7.heap.size w7 W) => H1.out W (HBx.out W hW)
      have h2 := fun W (hW : Below w7.heap.size w7 W) => H2.out W (HBx.out W hW)
      have hS := HS7.out
      have hT := HT7.out
      intro j hj
      have : j = 0 ∨ j = 1 ∨ j = 2 := by omega
      rw [← hw8]
      clear hw8 hb78
      rcases this with rfl | rfl | rfl
      · exact ⟨_, _, _, s, _, _, _, t, by go_simp, by go_simp, hS, hT⟩
      · exact ⟨p1, n1, c1, xs1, p2, n2, c2, xs2, by go_simp, by go_simp, h1, h2⟩
      · exact ⟨_, _, _, s, p2, n2, c2, xs2, by go_simp, by go_simp, hS, h2⟩
    clear hw8
    have HB78 := hidden hb78
    clear hb78
    go_wp2
    go_loopw [89] (fun i wr => ∃ (j : Nat), j ≤ 3 ∧ i = .int .i64 j ∧ Below w8.heap.size w8 wr) (fun i _ => 3 - (intOf i).toNat)
    case atStart => exact ⟨0, by omega, rfl, Below.refl _ _⟩
    case round =>
      obtain ⟨j, hj, rfl, hb⟩ := hrel
      have HB := hidden hb
      by_cases hlt : j < 3
      · have hlt' : (j : Int) < 3 := by omega
        obtain ⟨qp, qn, qc, qx, rp, rn, rc, rx, hc0, hc1, hq, hr⟩ := HPRS.out j hlt
        have HC0 := cell_below hb _ _ hc0
        have HC1 := cell_below hb _ _ hc1
        have HQ1 := hidden hq
        have HR1 := hidden hr
        clear hc0 hc1 hq hr hb
        go_upto_region 26 with fail
        generalize hw9 : wr.alloc (.cells _ 27) = w9
        have hd0 : w9.cell? ⟨wr.heap.size, 0, none⟩ = some (.slice qp qn qc) := by rw [← hw9]; clear hw9; go_simp
        have hd1 : w9.cell? ⟨wr.heap.size, 1, none⟩ = some (.slice rp rn rc) := by rw [← hw9]; clear hw9; go_simp
        have HB9 : Hid (Below w8.heap.size w8 w9) := by rw [← hw9]; exact hidden (HB.out.alloc HB.out.size _)
        have HCC := hidden (fun W (hW : Below w9.heap.size w9 W) => (⟨cell_below hW _ _ hd0, cell_below hW _ _ hd1⟩ : W.cell? ⟨wr.heap.size, 0, none⟩ = some (.slice qp qn qc) ∧ W.cell? ⟨wr.heap.size, 1, none⟩ = some (.slice rp rn rc)))
        generalize wr.heap.size = B at *
        have hs8 : w7.heap.size ≤ w8.heap.size := HB78.out.size
        have H79 := hidden (fun W (hW : Below w9.heap.size w9 W) => (HB78.out.trans (HB9.out.mono hs8)).trans (hW.mono (Nat.le_trans hs8 HB9.out.size)))
        have HO1 := hidden (fun W (hW : Below w9.heap.size w9 W) => mult_to qp rp qn rn qc rc qx rx W (HQ1.out W (H79.out W hW)) (HR1.out W (H79.out W hW)))
        have HO2 := hidden (fun W (hW : Below w9.heap.size w9 W) => rmult_to qp rp qn rn qc rc qx rx W (HQ1.out W (H79.out W hW)) (HR1.out W (H79.out W hW)))
        generalize mulL qn rn qx rx = L at *
        generalize mulE qn rn = E at *
        have HC10 := hidden (HO1.out w9 (Below.refl _ _))
        clear hw9 HC0 HC1 HB HQ1 HR1 HO1
        go_upto_region 27 with (first
          | (go_at_call 7; (with_reducible refine (HC10.out).mono ?_); rintro en w10 ⟨p10, c10, rfl, hy10, hb10⟩; have HY10 := hidden (fun W (hW : Below w10.heap.size w10 W) => hy10.below hW); have HB10 := hidden hb10; have HC11 := hidden (HO2.out w10 hb10); obtain ⟨c100, c101⟩ := HCC.out w10 hb10; clear hy10 hb10)
          | fail)
        clear HC10 HO2 hd0 hd1
        go_upto_region 28 with (first
          | (go_at_call 8; (with_reducible refine (HC11.out).mono ?_); rintro en w11 ⟨p11, c11, rfl, hy11, hb11⟩; have HB11 := hidden (HB10.out.trans (hb11.mono HB10.out.size)); have he1 := requal_any p10 p11 L.length c10 L.length c11 L L w11 (HY10.out w11 hb11) hy11; rw [decide_eq_true rfl] at he1; have HE1 := hidden he1; clear hy11 hb11 he1)
          | fail)
        clear c100 c101 HC11 HCC
        go_wp2_with (first
          | (go_at_call 9; (with_reducible refine (HE1.out).mono ?_); rintro e w12 ⟨rfl, r12, rfl⟩)
          | fail)
        go_roundw
        case rel => exact ⟨j + 1, by omega, by go_num, (HB9.out.trans (HB11.out.mono HB9.out.size)).trans ((drew_below ⟨r12, rfl⟩ : Below w11.heap.size w11 (w11.drewN r12)).mono (Nat.le_trans HB9.out.size HB11.out.size))⟩
        case measure => simp [intOf]; omega
      · have hge : ¬ (j : Int) < 3 := by omega
        have HW := hidden (HB78.out.trans (HB.out.mono HB78.out.size))
        have HSH := hidden (shared_to (some ⟨gs, 0, none⟩) p' cs c' s t wr (HS7.out wr HW.out) (HT7.out wr HW.out))
        have HRS := hidden (fun W (hW : Below w7.heap.size w7 W) => rshared_to (some ⟨gs, 0, none⟩) p' cs c' s t W (HS7.out W hW) (HT7.out W hW))
        generalize shaL s t = L at *
        generalize shaE s t = E at *
        have hsz : w7.heap.size ≤ wr.heap.size := HW.out.size
        clear hlt hb hj HPRS
        go_upto_region 32 with (first
          | (go_at_call 10; (with_reducible refine (HSH.out).mono ?_); rintro en w10 ⟨p10, c10, rfl, hy10, hb10⟩; have HY10 := hidden (fun W (hW : Below w10.heap.size w10 W) => hy10.below hW); have HB10 := hidden (HW.out.trans (hb10.mono hsz)); clear hy10 hb10)
          | fail)
        have HC11 := hidden (HRS.out w10 HB10.out)
        clear HSH HRS
        go_upto_region 33 with (first
          | (go_at_call 11; (with_reducible refine (HC11.out).mono ?_); rintro en w11 ⟨p11, c11, rfl, hy11, hb11⟩; have HB11 := hidden (HB10.out.trans (hb11.mono HB10.out.size)); have he1 := requal_any p10 p11 L.length c10 L.length c11 L L w11 (HY10.out w11 hb11) hy11; rw [decide_eq_true rfl] at he1; have HE1 := hidden he1; clear hy11 hb11 he1)
          | fail)
        clear HC11
        go_wp2_with (first
          | (go_at_call 9; (with_reducible refine (HE1.out).mono ?_); rintro e w12 ⟨rfl, r12, rfl⟩)
          | fail)
        go_ret
        exact ⟨rfl, (HBx.out _ HB11.out).trans (below_drewN _)⟩
end Go.Proofs.Ytilnbmlbahflkaa
