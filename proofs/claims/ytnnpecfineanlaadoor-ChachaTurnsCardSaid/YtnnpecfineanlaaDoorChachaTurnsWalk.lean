/-
  The law ChachaTurns, walked: it returns true for every input, and only adds memory of its own.
-/
import Derived.Test.YtnnpecfineanlaaDoorChaKey
import Derived.Deep.Cut
import Derived.Deep.CutRange
namespace Go.Proofs.YtnnpecfineanlaaDoor
open Go.RowKit
set_option linter.unusedVariables false

set_option maxHeartbeats 3200000 in
set_option maxRecDepth 100000 in
theorem chachaTurns_walk (p0 : Option Addr) (n0 c0 : Nat) (xs0 : List Int) (ctr : Int) (p2 : Option Addr) (n2 c2 : Nat) (xs2 : List Int) (z : Int) (w : World) (h0 : Byt w p0 n0 c0 xs0) (r0 : c0 ≤ 140737488351232) (g1 : 0 ≤ ctr ∧ ctr ≤ 4294967295)
    (h2 : Byt w p2 n2 c2 xs2) (r2 : c2 ≤ 140737488351232) (g3 : 0 ≤ z ∧ z ≤ 255) (hQ : QAt w) :
    Calls Tryd.prog 5 #[.slice p0 n0 c0, .int .u32 ctr, .slice p2 n2 c2, .int .u8 z] w fun e w' => e = .returned (.bool true) ∧ Below w.heap.size w w' := by
  have HA := hidden (awake10_any w)
  have H0 := hidden (fun W (hW : Below w.heap.size w W) => h0.below hW)
  have H2 := hidden (fun W (hW : Below w.heap.size w W) => h2.below hW)
  have HQ := hidden (fun W (hW : Below w.heap.size w W) => hQ.below hW hQ.lt)
  have hc2 := h2.cap
  have HX2 := Is.mk h2.len
  clear h0 h2 hQ
  go_enter Tryd.func5, Tryd.ntmps5
  go_upto_if 24 with (first
    | (go_at_call 14; (with_reducible refine (HA.out).mono ?_); rintro e w1 ⟨rfl, hb⟩; have HB1 := hidden hb; clear hb)
    | fail)
  go_cut [2] from 22 to 29 (fun x wx => ∃ (N : Nat) (B : List Int), x = .slice p2 N c2 ∧ N ≤ 400 ∧ Byt wx p2 N c2 B ∧ Below w.heap.size w wx)
  case first =>
    have hx := H2.out w1 HB1.out
    by_cases hl : n2 ≤ 400
    · have hl' : ¬ (400 : Int) < (n2 : Int) := by omega
      have HX := hidden hx
      clear hx
      go_wp2
      go_meet
      case rel => exact ⟨n2, xs2, rfl, hl, HX.out, HB1.out⟩
    · have hl' : (400 : Int) < (n2 : Int) := by omega
      have HX := hidden (hx.front 400 (by omega))
      clear hx
      go_wp2
      go_meet
      case rel => exact ⟨400, xs2.take 400, rfl, by omega, HX.out, HB1.out⟩
  case rest =>
    obtain ⟨N, B, rfl, hN, hB, hb⟩ := hcut
    have HB := hidden hb
    have HBY := hidden (fun W (hW : Below wc.heap.size wc W) => hB.below hW)
    have HBL := Is.mk hB.len
    have HBR := hidden hB.rng
    have hNc := hB.cap
    have HKEY := hidden (key_any p0 n0 c0 xs0 wc (H0.out wc hb))
    obtain ⟨m, hm⟩ : ∃ m : Nat, z % ((N : Int) + 1) = (m : Int) := Int.eq_ofNat_of_zero_le (Int.emod_nonneg _ (by omega))
    have hmN : m ≤ N := by
      have := Int.emod_lt_of_pos z (show (0 : Int) < (N : Int) + 1 by omega)
      omega
    have hm2 : z.tmod ((N : Int) + 1) = (m : Int) := by rw [Int.tmod_eq_emod_of_nonneg g3.1]; exact hm
    clear hb hB H0 H2
    go_upto_region 6 with (first
      | (go_at_call 15; (with_reducible refine (HKEY.out).mono ?_); rintro e w2 ⟨kp, kc, ky, np, nc, ny, rfl, hk, hn, hbel⟩; have HK := hidden (fun W (hW : Below w2.heap.size w2 W) => hk.below hW); have HNO := hidden (fun W (hW : Below w2.heap.size w2 W) => hn.below hW); have HB2 := hidden hbel; clear hk hn hbel)
      | fail)
    have HBw := hidden (fun W (hW : Below w2.heap.size w2 W) => (HB.out.trans (HB2.out.mono HB.out.size)).trans (hW.mono (Nat.le_trans HB.out.size HB2.out.size)))
    have HBc := hidden (fun W (hW : Below w2.heap.size w2 W) => HB2.out.trans (hW.mono HB2.out.size))
    have HXO := hidden (fun r n e b ct W (hW : Below w2.heap.size w2 W) (hy : Byt W r n e b) (hn : n ≤ 1000000) (h1 : 0 ≤ ct) (h2 : ct < 4294967296) => cxor_to kp np r kc nc n e ky ny b ct W (HK.out W hW) (HNO.out W hW) hy hn (HQ.out W (HBw.out W hW)) h1 h2)
    have HC1 := hidden (HXO.out p2 N c2 B ctr w2 (Below.refl _ _) (HBY.out w2 HB2.out) (by omega) g1.1 (by omega))
    obtain ⟨X, hX⟩ : ∃ X, xorC ky ctr ny B = X := ⟨_, rfl⟩
    have hXl : X.length = N := by rw [← hX, xorC_len]; exact HBL.eq
    have hXX : xorC ky ctr ny X = B := by rw [← hX]; exact xorC_twice _ _ _ _ HBR.out
    have hXm : xorC ky ctr ny (B.take m) = X.take m := by rw [← hX]; exact xorC_take _ _ _ _ _
    obtain ⟨k, hk⟩ : ∃ k, m / 64 = k := ⟨_, rfl⟩
    have hXd : xorC ky ((ctr + (k : Int)) % 4294967296) ny (B.drop (64 * k)) = X.drop (64 * k) := by rw [← hX]; exact xorC_drop _ _ _ _ _ (by rw [HBL.eq]; omega)
    rw [hX] at HC1
    have HXL := Is.mk hXl
    have HXX := Is.mk hXX
    have HXM := Is.mk hXm
    have HXD := Is.mk hXd
    clear hX hXl hXX hXm hXd
    go_upto_region 7 with (first
      | (go_at_call 18; (with_reducible refine (HC1.out).mono ?_); rintro e w3 ⟨xp, xc, rfl, hx, hb3⟩; have HX3 := hidden (fun W (hW : Below w3.heap.size w3 W) => hx.below hW); have HB3 := hidden hb3; clear hb3)
      | fail)
    have hxc := hx.cap
    have HC2 := hidden (HXO.out xp N xc X ctr w3 HB3.out hx (by omega) g1.1 (by omega))
    rw [HXX.eq] at HC2
    clear hx HC1
    go_upto_region 9 with (first
      | (go_at_call 18; (with_reducible refine (HC2.out).mono ?_); rintro e w4 ⟨yp, yc, rfl, hy, hb4⟩; have HY4 := hidden (fun W (hW : Below w4.heap.size w4 W) => hy.below hW); have HB4 := hidden hb4; clear hb4)
      | fail)
    have b4 : Below w2.heap.size w2 w4 := HB3.out.trans (HB4.out.mono HB3.out.size)
    have hBm := (HBY.out w4 (HBc.out w4 b4)).front m hmN
    have HC3 := hidden (HXO.out p2 m c2 (B.take m) ctr w4 b4 hBm (by omega) g1.1 (by omega))
    rw [HXM.eq] at HC3
    have HB4' := hidden b4
    have m0 : (0 : Int) ≤ (m : Int) := by omega
    have m1 : (m : Int) ≤ (N : Int) := by omega
    have m2 : (m : Int) ≤ (c2 : Int) := by omega
    have m3 : (m : Int) ≤ (xc : Int) := by omega
    clear hBm HC2 hm hm2 b4
    go_upto_region 10 with (first
      | (go_at_call 18; (with_reducible refine (HC3.out).mono ?_); rintro e w5 ⟨zp, zc, rfl, hz, hb5⟩; have HZ5 := hidden (fun W (hW : Below w5.heap.size w5 W) => hz.below hW); have HB5 := hidden hb5; clear hb5 hz)
      | fail)
    have b35 : Below w3.heap.size w3 w5 := HB4.out.trans (HB5.out.mono HB4.out.size)
    have b25 : Below w2.heap.size w2 w5 := HB4'.out.trans (HB5.out.mono HB4'.out.size)
    have HE1 := hidden (requal_any yp p2 N yc N c2 B B w5 (HY4.out w5 HB5.out) (HBY.out w5 (HBc.out w5 b25)))
    have HE2 := hidden (fun rr => requal_any zp xp m zc m xc (X.take m) (X.take m) (w5.drewN rr) (HZ5.out _ (drew_below ⟨rr, rfl⟩)) ((HX3.out _ (b35.trans ((drew_below ⟨rr, rfl⟩ : Below w5.heap.size w5 (w5.drewN rr)).mono b35.size))).front m hmN))
    simp only [decide_true] at HE1 HE2
    have HB25 := hidden b25
    have HB35 := hidden b35
    clear b35 b25 HC3
    go_upto_region 12 with (first
      | (go_at_call 20; (with_reducible refine (HE1.out).mono ?_); rintro e w6 ⟨rfl, r1, rfl⟩)
      | (go_at_call 20; (with_reducible refine (HE2.out _).mono ?_); rintro e w7 ⟨rfl, r2, rfl⟩)
      | fail)
    go_upto_region 13 with fail
    obtain ⟨A, hA⟩ : ∃ A : Nat, 64 * k = A := ⟨_, rfl⟩
    have f1 : (m : Int) - (m : Int) % 64 = (A : Int) := by omega
    simp only [f1]
    have hAN : A ≤ N := by omega
    have q1 : (A : Int) / 64 = (k : Int) := by omega
    have q2 : (A : Int).tdiv 64 = (k : Int) := by rw [Int.tdiv_eq_ediv_of_nonneg (by omega)]; omega
    have q3 : IntKind.u32.wrap (k : Int) = (k : Int) := by rw [IntKind.wrap_u32']; omega
    have k0 : (0 : Int) ≤ (A : Int) := by omega
    have k1 : (A : Int) ≤ (N : Int) := by omega
    have k2 : (A : Int) ≤ (c2 : Int) := by omega
    have k3 : (A : Int) ≤ (xc : Int) := by omega
    have hW := HB25.out.trans ((drew_below ⟨r1 + r2, rfl⟩ : Below w5.heap.size w5 (w5.drewN (r1 + r2))).mono HB25.out.size)
    have hP := (HBY.out _ (HBc.out _ hW)).part A N hAN (Nat.le_refl N)
    have hXP := (HX3.out _ (HB35.out.trans ((drew_below ⟨r1 + r2, rfl⟩ : Below w5.heap.size w5 (w5.drewN (r1 + r2))).mono HB35.out.size))).part A N hAN (Nat.le_refl N)
    obtain ⟨bp, hbp⟩ : ∃ bp, (if c2 = A then p2 else Option.map (fun x => x.add A) p2) = bp := ⟨_, rfl⟩
    obtain ⟨bx, hbx⟩ : ∃ bx, (if xc = A then xp else Option.map (fun x => x.add A) xp) = bx := ⟨_, rfl⟩
    rw [hbp, List.take_of_length_le (by rw [HBL.eq]; exact Nat.le_refl N)] at hP
    rw [hbx, List.take_of_length_le (by rw [HXL.eq]; exact Nat.le_refl N)] at hXP
    have HC5 := hidden (HXO.out bp (N - A) (c2 - A) (B.drop A) ((ctr + (k : Int)) % 4294967296) _ hW hP (by omega) (by omega) (by omega))
    rw [← hA, HXD.eq, hA] at HC5
    have HXP := hidden (fun W (hWW : Below (w5.drewN (r1 + r2)).heap.size (w5.drewN (r1 + r2)) W) => hXP.below hWW)
    have hNA : ((N - A : Nat) : Int) = (N : Int) - (A : Int) := by omega
    have HW := hidden (HBw.out _ hW)
    clear f1 hk hA hP hXP hW
    generalize w5.drewN (r1 + r2) = w8 at *
    go_wp2_with (first
      | (go_at_call 18; go_loud (with_reducible refine (HC5.out).mono ?_); rintro e w9 ⟨vp, vc, rfl, hv, hb9⟩; have HE3 := hidden (requal_any vp bx (N - A) vc (N - A) (xc - A) (X.drop A) (X.drop A) w9 hv (HXP.out w9 hb9)); have HB9 := hidden (HW.out.trans (hb9.mono HW.out.size)); simp only [decide_true] at HE3; clear hv hb9)
      | (go_at_call 20; go_loud (with_reducible refine (HE3.out).mono ?_); rintro e w10 ⟨rfl, r3, rfl⟩)
      | fail)
    go_ret
    exact ⟨rfl, HB9.out.trans (drew_below ⟨r3, rfl⟩)⟩
end Go.Proofs.YtnnpecfineanlaaDoor
