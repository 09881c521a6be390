/-
  Package payload's reader of authentications.
  Codes.Payload, a type at a time.
-/
import Derived.Test.YtnbkffehhahckaaGreatJPayIdent
import Derived.Test.YtnbkffehhahckaaGreatJPayMkB
namespace Go.Proofs.YtnbkffehhahckaaGreat
open Go.RowKit
set_option linter.unusedVariables false
def authE (m : Int) (n : Nat) : Int := if m ≠ 2 ∧ m ≠ 14 then 5 else if n = 0 then 2 else 0
def authenE (xs : List Int) (n : Nat) : Int := if n < 4 then 1 else authE (nthB xs 0) (n - 4)
set_option maxHeartbeats 800000 in
theorem checkAuth_any (m : Int) (p : Option Addr) (n c : Nat) (w : World) (hn : n ≤ 9223372036854775807) (E : Int) (hE : authE m n = E) :
    Calls Tryz.prog 65 #[.agg #[.int .i64 m, .slice p n c]] w fun e w' => e = .returned (.int .i64 E) ∧ Below w.heap.size w w' := by
  have HB := hidden ((Below.refl w.heap.size w).alloc (Nat.le_refl _) (.cells #[.int .i64 m, .slice p n c] 48))
  unfold authE at hE
  by_cases h1 : m ≠ 2 ∧ m ≠ 14
  · rw [if_pos h1] at hE
    subst hE
    have e1 : (m != 2) = true := by simpa using h1.1
    have e2 : (m != 14) = true := by simpa using h1.2
    clear h1
    go_enter Tryz.func65, Tryz.ntmps65
    go_wp2
    go_ret
    exact ⟨rfl, HB.out⟩
  rw [if_neg h1] at hE
  have hm : m = 2 ∨ m = 14 := by omega
  clear h1
  by_cases h3 : n = 0
  · rw [if_pos h3] at hE
    subst hE h3
    rcases hm with rfl | rfl
    all_goals
      go_enter Tryz.func65, Tryz.ntmps65
      go_wp2
      go_ret
      exact ⟨rfl, HB.out⟩
  · rw [if_neg h3] at hE
    subst hE
    have hz : ((n : Int) == 0) = false := by simp; omega
    clear h3
    rcases hm with rfl | rfl
    all_goals
      go_enter Tryz.func65, Tryz.ntmps65
      go_wp2
      go_ret
      exact ⟨rfl, HB.out⟩
set_option maxHeartbeats 1600000 in
set_option maxRecDepth 100000 in
theorem auth_read (p : Option Addr) (n c : Nat) (xs : List Int) (w : World) (h : Byt w p n c xs) (hb : n ≤ 140737488355328) :
    Calls Tryz.prog 77 #[.slice p n c] w (ReadPv w (authenE xs n) fun w' x => x.am = (nthB xs 0) ∧ FrV w' w.heap.size x.ad (xs.drop 4)) := by
  have hn := h.le
  have H1 := hidden (h.alloc (.cells #[.int .i64 0, .slice none 0 0, .int .i64 0, .slice none 0 0, .int .i64 0, .slice none 0 0, .int .i64 0, .slice none 0 0, .int .i64 0, .slice none 0 0, .int .i64 0, .slice none 0 0, .int .i64 0, .slice none 0 0, .slice none 0 0, .slice none 0 0] 56))
  have HB := hidden ((Below.refl w.heap.size w).alloc (Nat.le_refl _) (.cells #[.int .i64 0, .slice none 0 0, .int .i64 0, .slice none 0 0, .int .i64 0, .slice none 0 0, .int .i64 0, .slice none 0 0, .int .i64 0, .slice none 0 0, .int .i64 0, .slice none 0 0, .int .i64 0, .slice none 0 0, .slice none 0 0, .slice none 0 0] 56))
  have HZ : Hid (PvIn (w.alloc (.cells #[.int .i64 0, .slice none 0 0, .int .i64 0, .slice none 0 0, .int .i64 0, .slice none 0 0, .int .i64 0, .slice none 0 0, .int .i64 0, .slice none 0 0, .int .i64 0, .slice none 0 0, .int .i64 0, .slice none 0 0, .slice none 0 0, .slice none 0 0] 56)) w.heap.size zeroP) := hidden (PvIn.new w zeroP 56)
  have b0 := nthB_rng h.rng 0
  have b1 := nthB_rng h.rng 1
  have b2 := nthB_rng h.rng 2
  have b3 := nthB_rng h.rng 3
  obtain ⟨E, hE⟩ : ∃ E, authenE xs n = E := ⟨_, rfl⟩
  rw [hE]
  unfold authenE at hE
  by_cases h4 : n < 4
  · rw [if_pos h4] at hE
    subst hE
    clear h
    go_enter Tryz.func77, Tryz.ntmps77
    go_wp2_with (first
      | (go_at_call 101; (with_reducible refine (split_any _ _ _ _ _ H1.out hb).mono ?_); rintro e w2 ⟨hb2, ⟨-, rfl⟩ | ⟨k4, -⟩⟩; rotate_left; (exact absurd k4 (by omega)); have HB2 := hidden ((HB.out.trans (hb2.mono HB.out.size)).alloc (HB.out.trans (hb2.mono HB.out.size)).size (.cells #[.int .u8 0, .int .u8 0, .int .u8 0, .int .u8 0] 141)); have HZ2 := hidden ((HZ.out.below hb2).alloc (.cells #[.int .u8 0, .int .u8 0, .int .u8 0, .int .u8 0] 141)); obtain ⟨z0, z1, z2, z3, z4, z5, z6, z7, z8, z9, z10, z11, z12, z13, z14, z15, zf⟩ := HZ2.out; clear hb2)
      | fail)
    have hz := stored_pv HZ2.out HB2.out (Nat.le_refl _) zeroP
    simp only [setPv, zeroP, nilV] at hz
    exact ret_pv (g := w.heap.size) rfl rfl rfl rfl hz.1 ⟨_, rfl, hz.2, fun h => by cases h⟩
  · rw [if_neg h4] at hE
    have HCI := hidden (fun q d => checkAuth_any (nthB xs 0) q (n - 4) d · (by omega) E hE)
    have HV := hidden (show val (([nthB xs 0, nthB xs 1, nthB xs 2, nthB xs 3].drop 0).take 1) = (nthB xs 0) by simp [val])
    clear h hE
    go_enter Tryz.func77, Tryz.ntmps77
    go_upto_region 5 with (first
      | (go_at_call 101; (with_reducible refine (split_any _ _ _ _ _ H1.out hb).mono ?_); rintro e w2 ⟨hb2, ⟨k4, -⟩ | ⟨-, q2, d2, rfl, hf⟩⟩; (exact absurd k4 h4); have HB2 := hidden ((HB.out.trans (hb2.mono HB.out.size)).alloc (HB.out.trans (hb2.mono HB.out.size)).size (.cells #[.int .u8 (nthB xs 0), .int .u8 (nthB xs 1), .int .u8 (nthB xs 2), .int .u8 (nthB xs 3)] 141)); have HZ2 := hidden ((HZ.out.below hb2).alloc (.cells #[.int .u8 (nthB xs 0), .int .u8 (nthB xs 1), .int .u8 (nthB xs 2), .int .u8 (nthB xs 3)] 141)); have HF2 := hidden (hf.alloc (.cells #[.int .u8 (nthB xs 0), .int .u8 (nthB xs 1), .int .u8 (nthB xs 2), .int .u8 (nthB xs 3)] 141)); clear hb2 hf)
      | (go_at_call 102; (with_reducible refine (fnumber_any _ _ _ _ b0 b1 b2 b3 0 1 0 1 rfl rfl (by omega) (by omega) _ HV.out _).mono ?_); rintro e w3 ⟨rfl, hb3⟩; have HB3 := hidden (HB2.out.trans (hb3.mono HB2.out.size)); have HZ3 := hidden (HZ2.out.below hb3); have HF3 := hidden (HF2.out.below hb3); clear hb3 HB2 HZ2 HF2)
      | fail)
    have HB4 := hidden (HB3.out.alloc HB3.out.size (.cells #[.int .i64 ((nthB xs 0)), .slice q2 (n - 4) d2] 48))
    have HZ4 := hidden (HZ3.out.alloc (.cells #[.int .i64 ((nthB xs 0)), .slice q2 (n - 4) d2] 48))
    have HF4 := hidden (HF3.out.alloc (.cells #[.int .i64 ((nthB xs 0)), .slice q2 (n - 4) d2] 48))
    have d0 : (w3.alloc (.cells #[.int .i64 ((nthB xs 0)), .slice q2 (n - 4) d2] 48)).cell? ⟨w3.heap.size, 0, none⟩ = some (.int .i64 ((nthB xs 0))) := by go_simp
    have d1 : (w3.alloc (.cells #[.int .i64 ((nthB xs 0)), .slice q2 (n - 4) d2] 48)).cell? ⟨w3.heap.size, 1, none⟩ = some (.slice q2 (n - 4) d2) := by go_simp
    generalize hw4 : w3.alloc (.cells #[.int .i64 ((nthB xs 0)), .slice q2 (n - 4) d2] 48) = w4 at *
    have hgl := HZ3.out.lt
    generalize w3.heap.size = g3 at *
    have hn1 : ¬ g3 = w.heap.size := by omega
    have hn2 : ¬ w.heap.size = g3 := by omega
    have hgk : w.heap.size < (w.alloc (.cells #[.int .i64 0, .slice none 0 0, .int .i64 0, .slice none 0 0, .int .i64 0, .slice none 0 0, .int .i64 0, .slice none 0 0, .int .i64 0, .slice none 0 0, .int .i64 0, .slice none 0 0, .int .i64 0, .slice none 0 0, .slice none 0 0, .slice none 0 0] 56)).heap.size := by simp
    have HKG := hidden hgk
    clear hw4 HB3 HZ3 HF3 hgk hgl
    go_upto_region 5 with fail
    have HK := hidden (fun wx (hb : Below w4.heap.size w4 wx) => And.intro (cell_below hb _ _ d0) (cell_below hb _ _ d1))
    have HBD := hidden (show Below w4.heap.size w4 w4.drew from drew_below ⟨1, rfl⟩)
    have HZD := hidden (HZ4.out.below (w' := w4.drew) HBD.out)
    obtain ⟨y0, y1, y2, y3, y4, y5, y6, y7, y8, y9, y10, y11, y12, y13, y14, y15, z0, z1, z2, z3, z4, z5, z6, z7, z8, z9, z10, z11, z12, z13, z14, z15, zf⟩ := HZD.out.any
    go_region_with
      (first
      | (go_at_call 65; (with_reducible refine (HCI.out _ q2 d2).mono ?_); rintro e w5 ⟨rfl, hbc⟩; have hB := HBD.out.trans hbc; have HB5 := hidden (HB4.out.trans (hB.mono HB4.out.size)); have HZ5 := hidden (HZ4.out.below hB); have HF5 := hidden (HF4.out.below hB); obtain ⟨d0', d1'⟩ := HK.out _ hB; clear z0 z1 z2 z3 z4 z5 z6 z7 z8 z9 z10 z11 z12 z13 z14 z15 zf y0 y1 y2 y3 y4 y5 y6 y7 y8 y9 y10 y11 y12 y13 y14 y15; obtain ⟨y0, y1, y2, y3, y4, y5, y6, y7, y8, y9, y10, y11, y12, y13, y14, y15, z0, z1, z2, z3, z4, z5, z6, z7, z8, z9, z10, z11, z12, z13, z14, z15, zf⟩ := HZ5.out.any; clear hB)
      | fail)
    all_goals
      have hz := stored_pv HZ5.out HB5.out (Nat.le_refl _) ⟨0, nilV, 0, nilV, 0, nilV, nthB xs 0, ⟨q2, n - 4, d2⟩, 0, nilV, 0, nilV, 0, nilV, nilV, nilV⟩
      have hfl := (HF5.out.low (setPv_grown w5 w.heap.size ⟨0, nilV, 0, nilV, 0, nilV, nthB xs 0, ⟨q2, n - 4, d2⟩, 0, nilV, 0, nilV, 0, nilV, nilV, nilV⟩) HKG.out).mono (Nat.le_of_lt HKG.out)
      simp only [setPv, nilV] at hz hfl
      have HZZ := hidden hz
      have HFF := hidden hfl
      clear hz hfl hbc
      go_wp2
      exact ret_pv (g := w.heap.size) rfl rfl rfl rfl HZZ.out.1 ⟨_, rfl, HZZ.out.2, fun _ => ⟨rfl, HFF.out⟩⟩
end Go.Proofs.YtnbkffehhahckaaGreat

namespace Go.Proofs.YtnbkffehhahckaaGreat
open Go.RowKit
set_option linter.unusedVariables false
set_option maxHeartbeats 3200000 in
set_option maxRecDepth 100000 in
theorem mkpay34 (W w : World) (k : Nat) (h : Cod W w k) : Calls Tryz.prog 14 #[.pointer (some ⟨k, 0, none⟩), .int .i64 34] w (MadePv W w k 34) := by
  have hk := h.lt
  have hbase := h.bel.size
  have H0 := hidden (PyS.new h 34)
  clear h
  go_enter Tryz.func14, Tryz.ntmps14
  go_upto_region 2 with fail
  generalize hw0 : (w.alloc (.cells #[.int .i64 0, .slice none 0 0, .int .i64 0, .slice none 0 0, .int .i64 0, .slice none 0 0, .int .i64 0, .slice none 0 0, .int .i64 0, .slice none 0 0, .int .i64 0, .slice none 0 0, .int .i64 0, .slice none 0 0, .slice none 0 0, .slice none 0 0] 56)).alloc (.cells #[.int .i64 34, .slice none 0 0, .int .i64 0, .slice none 0 0, .int .i64 0, .slice none 0 0, .int .i64 0, .slice none 0 0, .int .i64 0, .slice none 0 0, .int .i64 0, .slice none 0 0, .int .i64 0, .slice none 0 0, .slice none 0 0, .slice none 0 0] 56) = w0 at *
  clear hw0
  have hk0 : k < w0.heap.size := by have := H0.out.ge; omega
  go_upto_region 2 with fail
  go_upto_block 0 with fail
  go_cut [] from 9 to 114 (fun wx => ∃ (t : Int) (p : Option Addr) (n c : Nat) (ys : List Int), PyS W w wx k ⟨34, nilV, t, ⟨p, n, c⟩, 0, nilV, 0, nilV, 0, nilV, 0, nilV, 0, nilV, nilV, nilV⟩ ∧ (0 ≤ t ∧ t ≤ 65535) ∧ ((t = 31 ∨ t = 1024) ∧ n = 8) ∧ ∀ w', Kpt wx w' (w.heap.size + 2) → Byt w' p n c ys)
  case first =>
    go_wp2_with fail
    go_region_law (first
      | (go_simp; go_at_call_of 13 (Value.int IntKind.i64 2); (with_reducible refine (next_pa H0 hk _ ?_ _ ?_).mono ?_); (repeat' (first | with_reducible exact H0.out | (with_reducible refine PyS.alloc ?_ _) | (with_reducible refine PyS.drew ?_))); omega; rintro e wA ⟨j, rfl, j0, j1, hdA, hgA⟩; obtain ⟨j, rfl⟩ := Int.eq_ofNat_of_zero_le j0; obtain ⟨t, hta, htl, t0, t1, tv⟩ := lst34 j (by omega); (try have hcA : wA.cell? ⟨w0.heap.size, j, none⟩ = some (.int .i64 t) := row_cell w0 wA k _ _ j _ htl hk0 (grown_trans (grown_drewN _ 1 _) hgA)))
      | (go_simp; go_at_call 29; (refine (bytes_pa H0 hk _ ?_ 8 ?_).mono ?_); (first | exact hdA | exact hdA.alloc _); omega; rintro e wY ⟨p, c, ys, rfl, hbY, hdY, hgY⟩; have hkA := hdA.cod.lt; (try have hcY1 : wY.cell? ⟨w0.heap.size, j, none⟩ = some (.int .i64 t) := hgY.cell hcA (by simp; omega)); (try have hcY3 : wY.cell? ⟨wA.heap.size, j, none⟩ = some (.int .i64 t) := row_cell wA wY k _ _ j _ htl hkA hgY); have hn1 : ¬ w.heap.size + 1 = wY.heap.size := (by have := hdY.ge; omega); have hn2 : ¬ w.heap.size = wY.heap.size := (by have := hdY.ge; omega); have hn3 : ¬ wY.heap.size = w.heap.size + 1 := (by have := hdY.ge; omega); have hn4 : ¬ wY.heap.size = w.heap.size := (by have := hdY.ge; omega); have hq1 : w.heap.size + 1 < wY.heap.size := (by have := hdY.ge; omega); have hq2 : w.heap.size < wY.heap.size := (by have := hdY.ge; omega); have s2 := hdY.S.c2; have s3 := hdY.S.c3; have sf := hdY.S.fr; simp only [zeroP, nilV] at s2 s3; have HDY := hidden hdY; have HBY := hidden hbY; clear hdY hbY))
    all_goals
      clear s2 s3 sf
      go_wp2
      go_meet
    all_goals first
      | (have q := hcY1; clear q; exact ⟨t, p, 8, c, ys, (HDY.out.put hk hbase (wy := ((wY.setCell ⟨w.heap.size + 1, 2, none⟩ (.int .i64 t)).setCell ⟨w.heap.size + 1, 3, none⟩ (.slice p 8 c))) (grown_trans (grown_set _ _ _ _) (grown_set _ _ _ _)) (x' := ⟨34, nilV, t, ⟨p, 8, c⟩, 0, nilV, 0, nilV, 0, nilV, 0, nilV, 0, nilV, nilV, nilV⟩) (HDY.out.S.setE t ⟨p, 8, c⟩)), ⟨t0, t1⟩, ⟨tv, rfl⟩, fun w' hk' => HBY.out.kp (((Kpt.low (grown_set _ _ _ _) (by omega)).trans (Kpt.low (grown_set _ _ _ _) (by omega))).trans hk')⟩)
      | (have q := hcY3; clear q; exact ⟨t, p, 8, c, ys, (HDY.out.put hk hbase (wy := ((wY.setCell ⟨w.heap.size + 1, 2, none⟩ (.int .i64 t)).setCell ⟨w.heap.size + 1, 3, none⟩ (.slice p 8 c))) (grown_trans (grown_set _ _ _ _) (grown_set _ _ _ _)) (x' := ⟨34, nilV, t, ⟨p, 8, c⟩, 0, nilV, 0, nilV, 0, nilV, 0, nilV, 0, nilV, nilV, nilV⟩) (HDY.out.S.setE t ⟨p, 8, c⟩)), ⟨t0, t1⟩, ⟨tv, rfl⟩, fun w' hk' => HBY.out.kp (((Kpt.low (grown_set _ _ _ _) (by omega)).trans (Kpt.low (grown_set _ _ _ _) (by omega))).trans hk')⟩)
      | (exact ⟨t, p, 8, c, ys, (HDY.out.put hk hbase (wy := ((wY.setCell ⟨w.heap.size + 1, 2, none⟩ (.int .i64 t)).setCell ⟨w.heap.size + 1, 3, none⟩ (.slice p 8 c))) (grown_trans (grown_set _ _ _ _) (grown_set _ _ _ _)) (x' := ⟨34, nilV, t, ⟨p, 8, c⟩, 0, nilV, 0, nilV, 0, nilV, 0, nilV, 0, nilV, nilV, nilV⟩) (HDY.out.S.setE t ⟨p, 8, c⟩)).alloc _, ⟨t0, t1⟩, ⟨tv, rfl⟩, fun w' hk' => HBY.out.kp ((((Kpt.low (grown_set _ _ _ _) (by omega)).trans (Kpt.low (grown_set _ _ _ _) (by omega))).trans (Kpt.alloc _ _ _)).trans hk')⟩)
  case rest =>
    obtain ⟨t, p, n, c, ys, hd, ht, hv, hy⟩ := hcut
    have HV := hidden hv
    clear hv
    have H2 := hidden hd
    have HY := hidden hy
    have HT := hidden ht
    rename World => w2
    clear hd hy ht
    obtain ⟨y0, y1, y2, y3, y4, y5, y6, y7, y8, y9, y10, y11, y12, y13, y14, y15, z0_, z1_, z2_, z3_, z4_, z5_, z6_, z7_, z8_, z9_, z10_, z11_, z12_, z13_, z14_, z15_, zf⟩ := H2.out.R.any
    obtain ⟨s0, s1, s2, s3, s4, s5, s6, s7, s8, s9, s10, s11, s12, s13, s14, s15, sf⟩ := H2.out.S
    simp only [nilV] at s0 s1 s2 s3 s4 s5 s6 s7 s8 s9 s10 s11 s12 s13 s14 s15
    go_wp2
    have hz := H2.out.ret hk hbase (wy := w2) (grown_refl _ _) ⟨34, nilV, t, ⟨p, n, c⟩, 0, nilV, 0, nilV, 0, nilV, 0, nilV, 0, nilV, nilV, nilV⟩
    simp only [setPv, nilV] at hz
    exact ret_pv1 (g := w.heap.size) rfl rfl rfl hz.1 (made_plain (C := { C0 with ed := ys }) rfl rfl rfl (fun w' hk' => ⟨rdg_nil _ _ _, HY.out w' hk', byt_nil _, byt_nil _, byt_nil _, byt_nil _, rdg_nil _ _ _, rdg_nil _ _ _, byt_nil _⟩) hz.2.1 hz.2.2.1 hz.2.2.2 ((vld34 rfl).2 HV.out))
end Go.Proofs.YtnbkffehhahckaaGreat
