/-
  Package payload's reader of key exchanges.
  Package payload's Parse of the type 35, given what the reader returns.
-/
import Derived.Test.YtkniifopfgeopaaGreatJPayIdent
import Derived.Test.YtkniifopfgeopaaGreatJZ7
namespace Go.Proofs.YtkniifopfgeopaaGreat
open Go.RowKit
set_option linter.unusedVariables false

def exchE (g : Int) (n : Nat) : Int := if g < 0 ∨ 65535 < g then 5 else if n = 0 then 13 else 0
def exchangeE (xs : List Int) (n : Nat) : Int := if n < 4 then 1 else exchE (nthB xs 0 * 256 + nthB xs 1) (n - 4)
set_option maxHeartbeats 800000 in
theorem checkExchange_any (g : Int) (p : Option Addr) (n c : Nat) (w : World) (hn : n ≤ 9223372036854775807) (E : Int) (hE : exchE g n = E) :
    Calls Tryz.prog 84 #[.agg #[.int .i64 g, .slice p n c]] w fun e w' => e = .returned (.int .i64 E) ∧ Below w.heap.size w w' := by
  have HB := hidden ((Below.refl w.heap.size w).alloc (Nat.le_refl _) (.cells #[.int .i64 g, .slice p n c] 48))
  unfold exchE at hE
  by_cases h1 : g < 0
  · rw [if_pos (Or.inl h1)] at hE
    subst hE
    go_enter Tryz.func84, Tryz.ntmps84
    go_wp2
    go_ret
    exact ⟨rfl, HB.out⟩
  by_cases h2 : 65535 < g
  · rw [if_pos (Or.inr h2)] at hE
    subst hE
    go_enter Tryz.func84, Tryz.ntmps84
    go_wp2
    go_ret
    exact ⟨rfl, HB.out⟩
  rw [if_neg (by omega)] at hE
  by_cases h3 : n = 0
  · rw [if_pos h3] at hE
    subst hE h3
    go_enter Tryz.func84, Tryz.ntmps84
    go_wp2
    go_ret
    exact ⟨rfl, HB.out⟩
  · rw [if_neg h3] at hE
    subst hE
    have hz : ((n : Int) == 0) = false := by simp; omega
    clear h3
    go_enter Tryz.func84, Tryz.ntmps84
    go_wp2
    go_ret
    exact ⟨rfl, HB.out⟩
set_option maxHeartbeats 1600000 in
set_option maxRecDepth 100000 in
theorem exchange_read (p : Option Addr) (n c : Nat) (xs : List Int) (w : World) (h : Byt w p n c xs) (hb : n ≤ 140737488355328) :
    Calls Tryz.prog 71 #[.slice p n c] w (ReadPv w (exchangeE xs n) fun w' x => x.eg = (nthB xs 0 * 256 + nthB xs 1) ∧ FrV w' w.heap.size x.ed (xs.drop 4)) := by
  have hn := h.le
  have H1 := hidden (h.alloc (.cells #[.int .i64 0, .slice none 0 0, .int .i64 0, .slice none 0 0, .int .i64 0, .slice none 0 0, .int .i64 0, .slice none 0 0, .int .i64 0, .slice none 0 0, .int .i64 0, .slice none 0 0, .int .i64 0, .slice none 0 0, .slice none 0 0, .slice none 0 0] 59))
  have HB := hidden ((Below.refl w.heap.size w).alloc (Nat.le_refl _) (.cells #[.int .i64 0, .slice none 0 0, .int .i64 0, .slice none 0 0, .int .i64 0, .slice none 0 0, .int .i64 0, .slice none 0 0, .int .i64 0, .slice none 0 0, .int .i64 0, .slice none 0 0, .int .i64 0, .slice none 0 0, .slice none 0 0, .slice none 0 0] 59))
  have HZ : Hid (PvIn (w.alloc (.cells #[.int .i64 0, .slice none 0 0, .int .i64 0, .slice none 0 0, .int .i64 0, .slice none 0 0, .int .i64 0, .slice none 0 0, .int .i64 0, .slice none 0 0, .int .i64 0, .slice none 0 0, .int .i64 0, .slice none 0 0, .slice none 0 0, .slice none 0 0] 59)) w.heap.size zeroP) := hidden (PvIn.new w zeroP 59)
  have b0 := nthB_rng h.rng 0
  have b1 := nthB_rng h.rng 1
  have b2 := nthB_rng h.rng 2
  have b3 := nthB_rng h.rng 3
  obtain ⟨E, hE⟩ : ∃ E, exchangeE xs n = E := ⟨_, rfl⟩
  rw [hE]
  unfold exchangeE at hE
  by_cases h4 : n < 4
  · rw [if_pos h4] at hE
    subst hE
    clear h
    go_enter Tryz.func71, Tryz.ntmps71
    go_wp2_with (first
      | (go_at_call 97; (with_reducible refine (split_any _ _ _ _ _ H1.out hb).mono ?_); rintro e w2 ⟨hb2, ⟨-, rfl⟩ | ⟨k4, -⟩⟩; rotate_left; (exact absurd k4 (by omega)); have HB2 := hidden ((HB.out.trans (hb2.mono HB.out.size)).alloc (HB.out.trans (hb2.mono HB.out.size)).size (.cells #[.int .u8 0, .int .u8 0, .int .u8 0, .int .u8 0] 134)); have HZ2 := hidden ((HZ.out.below hb2).alloc (.cells #[.int .u8 0, .int .u8 0, .int .u8 0, .int .u8 0] 134)); obtain ⟨z0, z1, z2, z3, z4, z5, z6, z7, z8, z9, z10, z11, z12, z13, z14, z15, zf⟩ := HZ2.out; clear hb2)
      | fail)
    have hz := stored_pv HZ2.out HB2.out (Nat.le_refl _) zeroP
    simp only [setPv, zeroP, nilV] at hz
    exact ret_pv (g := w.heap.size) rfl rfl rfl rfl hz.1 ⟨_, rfl, hz.2, fun h => by cases h⟩
  · rw [if_neg h4] at hE
    have HCI := hidden (fun q d => checkExchange_any (nthB xs 0 * 256 + nthB xs 1) q (n - 4) d · (by omega) E hE)
    have HV := hidden (show val (([nthB xs 0, nthB xs 1, nthB xs 2, nthB xs 3].drop 0).take 2) = (nthB xs 0 * 256 + nthB xs 1) by simp [val])
    clear h hE
    go_enter Tryz.func71, Tryz.ntmps71
    go_upto_region 5 with (first
      | (go_at_call 97; (with_reducible refine (split_any _ _ _ _ _ H1.out hb).mono ?_); rintro e w2 ⟨hb2, ⟨k4, -⟩ | ⟨-, q2, d2, rfl, hf⟩⟩; (exact absurd k4 h4); have HB2 := hidden ((HB.out.trans (hb2.mono HB.out.size)).alloc (HB.out.trans (hb2.mono HB.out.size)).size (.cells #[.int .u8 (nthB xs 0), .int .u8 (nthB xs 1), .int .u8 (nthB xs 2), .int .u8 (nthB xs 3)] 134)); have HZ2 := hidden ((HZ.out.below hb2).alloc (.cells #[.int .u8 (nthB xs 0), .int .u8 (nthB xs 1), .int .u8 (nthB xs 2), .int .u8 (nthB xs 3)] 134)); have HF2 := hidden (hf.alloc (.cells #[.int .u8 (nthB xs 0), .int .u8 (nthB xs 1), .int .u8 (nthB xs 2), .int .u8 (nthB xs 3)] 134)); clear hb2 hf)
      | (go_at_call 98; (with_reducible refine (fnumber_any _ _ _ _ b0 b1 b2 b3 0 2 0 2 rfl rfl (by omega) (by omega) _ HV.out _).mono ?_); rintro e w3 ⟨rfl, hb3⟩; have HB3 := hidden (HB2.out.trans (hb3.mono HB2.out.size)); have HZ3 := hidden (HZ2.out.below hb3); have HF3 := hidden (HF2.out.below hb3); clear hb3 HB2 HZ2 HF2)
      | fail)
    have HB4 := hidden (HB3.out.alloc HB3.out.size (.cells #[.int .i64 ((nthB xs 0 * 256 + nthB xs 1)), .slice q2 (n - 4) d2] 48))
    have HZ4 := hidden (HZ3.out.alloc (.cells #[.int .i64 ((nthB xs 0 * 256 + nthB xs 1)), .slice q2 (n - 4) d2] 48))
    have HF4 := hidden (HF3.out.alloc (.cells #[.int .i64 ((nthB xs 0 * 256 + nthB xs 1)), .slice q2 (n - 4) d2] 48))
    have d0 : (w3.alloc (.cells #[.int .i64 ((nthB xs 0 * 256 + nthB xs 1)), .slice q2 (n - 4) d2] 48)).cell? ⟨w3.heap.size, 0, none⟩ = some (.int .i64 ((nthB xs 0 * 256 + nthB xs 1))) := by go_simp
    have d1 : (w3.alloc (.cells #[.int .i64 ((nthB xs 0 * 256 + nthB xs 1)), .slice q2 (n - 4) d2] 48)).cell? ⟨w3.heap.size, 1, none⟩ = some (.slice q2 (n - 4) d2) := by go_simp
    generalize hw4 : w3.alloc (.cells #[.int .i64 ((nthB xs 0 * 256 + nthB xs 1)), .slice q2 (n - 4) d2] 48) = w4 at *
    have hgl := HZ3.out.lt
    generalize w3.heap.size = g3 at *
    have hn1 : ¬ g3 = w.heap.size := by omega
    have hn2 : ¬ w.heap.size = g3 := by omega
    have hgk : w.heap.size < (w.alloc (.cells #[.int .i64 0, .slice none 0 0, .int .i64 0, .slice none 0 0, .int .i64 0, .slice none 0 0, .int .i64 0, .slice none 0 0, .int .i64 0, .slice none 0 0, .int .i64 0, .slice none 0 0, .int .i64 0, .slice none 0 0, .slice none 0 0, .slice none 0 0] 59)).heap.size := by simp
    have HKG := hidden hgk
    clear hw4 HB3 HZ3 HF3 hgk hgl
    go_upto_region 5 with fail
    have HK := hidden (fun wx (hb : Below w4.heap.size w4 wx) => And.intro (cell_below hb _ _ d0) (cell_below hb _ _ d1))
    have HBD := hidden (show Below w4.heap.size w4 w4.drew from drew_below ⟨1, rfl⟩)
    have HZD := hidden (HZ4.out.below (w' := w4.drew) HBD.out)
    obtain ⟨y0, y1, y2, y3, y4, y5, y6, y7, y8, y9, y10, y11, y12, y13, y14, y15, z0, z1, z2, z3, z4, z5, z6, z7, z8, z9, z10, z11, z12, z13, z14, z15, zf⟩ := HZD.out.any
    go_region_with
      (first
      | (go_at_call 84; (with_reducible refine (HCI.out _ q2 d2).mono ?_); rintro e w5 ⟨rfl, hbc⟩; have hB := HBD.out.trans hbc; have HB5 := hidden (HB4.out.trans (hB.mono HB4.out.size)); have HZ5 := hidden (HZ4.out.below hB); have HF5 := hidden (HF4.out.below hB); obtain ⟨d0', d1'⟩ := HK.out _ hB; clear z0 z1 z2 z3 z4 z5 z6 z7 z8 z9 z10 z11 z12 z13 z14 z15 zf y0 y1 y2 y3 y4 y5 y6 y7 y8 y9 y10 y11 y12 y13 y14 y15; obtain ⟨y0, y1, y2, y3, y4, y5, y6, y7, y8, y9, y10, y11, y12, y13, y14, y15, z0, z1, z2, z3, z4, z5, z6, z7, z8, z9, z10, z11, z12, z13, z14, z15, zf⟩ := HZ5.out.any; clear hB)
      | fail)
    all_goals
      have hz := stored_pv HZ5.out HB5.out (Nat.le_refl _) ⟨0, nilV, nthB xs 0 * 256 + nthB xs 1, ⟨q2, n - 4, d2⟩, 0, nilV, 0, nilV, 0, nilV, 0, nilV, 0, nilV, nilV, nilV⟩
      have hfl := (HF5.out.low (setPv_grown w5 w.heap.size ⟨0, nilV, nthB xs 0 * 256 + nthB xs 1, ⟨q2, n - 4, d2⟩, 0, nilV, 0, nilV, 0, nilV, 0, nilV, 0, nilV, nilV, nilV⟩) HKG.out).mono (Nat.le_of_lt HKG.out)
      simp only [setPv, nilV] at hz hfl
      have HZZ := hidden hz
      have HFF := hidden hfl
      clear hz hfl hbc
      go_wp2
      exact ret_pv (g := w.heap.size) rfl rfl rfl rfl HZZ.out.1 ⟨_, rfl, HZZ.out.2, fun _ => ⟨rfl, HFF.out⟩⟩
end Go.Proofs.YtkniifopfgeopaaGreat

namespace Go.Proofs.YtkniifopfgeopaaGreat
open Go.RowKit
set_option linter.unusedVariables false

theorem reader_35 (p : Option Addr) (n c : Nat) (w : World) :
    Calls Tryz.prog 53 #[.slice p n c, .int .i64 35] w fun e w' => e = .returned (.func (.func 72) #[.slice p n c] #[]) ∧ w = w' := by
  go_enter Tryz.func53, Tryz.ntmps53
  go_wp2
  go_ret
  exact ⟨rfl, rfl⟩

set_option maxHeartbeats 1600000 in
set_option maxRecDepth 100000 in
theorem pparse_35 (p : Option Addr) (n c : Nat) (xs : List Int) (cr : Bool) (E : Int) (G : Gd) (w : World) (h : Byt w p n c xs) (HRD : ∀ w, Byt w p n c xs → Calls Tryz.prog 72 #[.slice p n c] w (ReadPv w E (fun w' x => G.ok w.heap.size w' x))) :
    Calls Tryz.prog 39 #[.agg #[.int .i64 35, .bool cr, .slice p n c]] w (ParsedV w 35 E G) := by
  have HX := hidden ((h.alloc (.cells #[.int .i64 35, .bool cr, .slice p n c] 82)).alloc (.cells #[.int .i64 0, .slice none 0 0, .int .i64 0, .slice none 0 0, .int .i64 0, .slice none 0 0, .int .i64 0, .slice none 0 0, .int .i64 0, .slice none 0 0, .int .i64 0, .slice none 0 0, .int .i64 0, .slice none 0 0, .slice none 0 0, .slice none 0 0] 59))
  have HB := hidden (((Below.refl w.heap.size w).alloc (Nat.le_refl _) (.cells #[.int .i64 35, .bool cr, .slice p n c] 82)).alloc (by simp) (.cells #[.int .i64 0, .slice none 0 0, .int .i64 0, .slice none 0 0, .int .i64 0, .slice none 0 0, .int .i64 0, .slice none 0 0, .int .i64 0, .slice none 0 0, .int .i64 0, .slice none 0 0, .int .i64 0, .slice none 0 0, .slice none 0 0, .slice none 0 0] 59))
  have HZ : Hid (PvIn ((w.alloc (.cells #[.int .i64 35, .bool cr, .slice p n c] 82)).alloc (.cells #[.int .i64 0, .slice none 0 0, .int .i64 0, .slice none 0 0, .int .i64 0, .slice none 0 0, .int .i64 0, .slice none 0 0, .int .i64 0, .slice none 0 0, .int .i64 0, .slice none 0 0, .int .i64 0, .slice none 0 0, .slice none 0 0, .slice none 0 0] 59)) (w.heap.size + 1) zeroP) := hidden (by
    have := PvIn.new (w.alloc (.cells #[.int .i64 35, .bool cr, .slice p n c] 82)) zeroP 59
    simpa [zeroP, nilV] using this)
  have HW0 := hidden (show ((w.alloc (.cells #[.int .i64 35, .bool cr, .slice p n c] 82)).alloc (.cells #[.int .i64 0, .slice none 0 0, .int .i64 0, .slice none 0 0, .int .i64 0, .slice none 0 0, .int .i64 0, .slice none 0 0, .int .i64 0, .slice none 0 0, .int .i64 0, .slice none 0 0, .int .i64 0, .slice none 0 0, .slice none 0 0, .slice none 0 0] 59)).cell? ⟨w.heap.size, 0, none⟩ = some (.int .i64 35) by go_simp)
  have HSZ := hidden (show ((w.alloc (.cells #[.int .i64 35, .bool cr, .slice p n c] 82)).alloc (.cells #[.int .i64 0, .slice none 0 0, .int .i64 0, .slice none 0 0, .int .i64 0, .slice none 0 0, .int .i64 0, .slice none 0 0, .int .i64 0, .slice none 0 0, .int .i64 0, .slice none 0 0, .int .i64 0, .slice none 0 0, .slice none 0 0, .slice none 0 0] 59)).heap.size = w.heap.size + 1 + 1 by simp)
  have HR := hidden HRD
  clear h HRD
  go_enter Tryz.func39, Tryz.ntmps39
  go_upto_region 3 with (first
    | (go_at_call 53; (with_reducible refine (reader_35 _ _ _ _).mono ?_); rintro e w' ⟨rfl, rfl⟩)
    | (go_at_call 72; (with_reducible refine (HR.out _ HX.out).mono ?_); rintro e w2 ⟨x, rfl, hb2, hgood⟩; have HBA := hidden (HB.out.trans (hb2.mono HB.out.size)); have HZA := hidden (HZ.out.below hb2); have HGO := hidden hgood; have HDA := hidden (cell_below hb2 _ _ HW0.out); have d0 := cell_below ((Below.refl _ w2).alloc (Nat.le_refl _) (.cells #[.int .i64 x.t, .slice x.pr.p x.pr.n x.pr.c, .int .i64 x.eg, .slice x.ed.p x.ed.n x.ed.c, .int .i64 x.ik, .slice x.id.p x.id.n x.id.c, .int .i64 x.am, .slice x.ad.p x.ad.n x.ad.c, .int .i64 x.np, .slice x.ns.p x.ns.n x.ns.c, .int .i64 x.nt, .slice x.nd.p x.nd.n x.nd.c, .int .i64 x.dp, .slice x.ds.p x.ds.n x.ds.c, .slice x.se.p x.se.n x.se.c, .slice x.da.p x.da.n x.da.c] 59)) _ _ HDA.out; have HSB := hidden hb2.size; clear hb2 hgood)
    | fail)
  have hsb := HSB.out
  rw [HSZ.out] at hsb
  have hne1 : ¬ w2.heap.size = w.heap.size + 1 := by omega
  have hne2 : ¬ w.heap.size + 1 = w2.heap.size := by omega
  by_cases hE : E = 0
  · subst hE
    have hk3 := PvIn.new w2 { x with t := 35 } 59
    have hz3 := HZA.out.alloc (.cells #[.int .i64 (Pv.mk 35 x.pr x.eg x.ed x.ik x.id x.am x.ad x.np x.ns x.nt x.nd x.dp x.ds x.se x.da).t, .slice (Pv.mk 35 x.pr x.eg x.ed x.ik x.id x.am x.ad x.np x.ns x.nt x.nd x.dp x.ds x.se x.da).pr.p (Pv.mk 35 x.pr x.eg x.ed x.ik x.id x.am x.ad x.np x.ns x.nt x.nd x.dp x.ds x.se x.da).pr.n (Pv.mk 35 x.pr x.eg x.ed x.ik x.id x.am x.ad x.np x.ns x.nt x.nd x.dp x.ds x.se x.da).pr.c, .int .i64 (Pv.mk 35 x.pr x.eg x.ed x.ik x.id x.am x.ad x.np x.ns x.nt x.nd x.dp x.ds x.se x.da).eg, .slice (Pv.mk 35 x.pr x.eg x.ed x.ik x.id x.am x.ad x.np x.ns x.nt x.nd x.dp x.ds x.se x.da).ed.p (Pv.mk 35 x.pr x.eg x.ed x.ik x.id x.am x.ad x.np x.ns x.nt x.nd x.dp x.ds x.se x.da).ed.n (Pv.mk 35 x.pr x.eg x.ed x.ik x.id x.am x.ad x.np x.ns x.nt x.nd x.dp x.ds x.se x.da).ed.c, .int .i64 (Pv.mk 35 x.pr x.eg x.ed x.ik x.id x.am x.ad x.np x.ns x.nt x.nd x.dp x.ds x.se x.da).ik, .slice (Pv.mk 35 x.pr x.eg x.ed x.ik x.id x.am x.ad x.np x.ns x.nt x.nd x.dp x.ds x.se x.da).id.p (Pv.mk 35 x.pr x.eg x.ed x.ik x.id x.am x.ad x.np x.ns x.nt x.nd x.dp x.ds x.se x.da).id.n (Pv.mk 35 x.pr x.eg x.ed x.ik x.id x.am x.ad x.np x.ns x.nt x.nd x.dp x.ds x.se x.da).id.c, .int .i64 (Pv.mk 35 x.pr x.eg x.ed x.ik x.id x.am x.ad x.np x.ns x.nt x.nd x.dp x.ds x.se x.da).am, .slice (Pv.mk 35 x.pr x.eg x.ed x.ik x.id x.am x.ad x.np x.ns x.nt x.nd x.dp x.ds x.se x.da).ad.p (Pv.mk 35 x.pr x.eg x.ed x.ik x.id x.am x.ad x.np x.ns x.nt x.nd x.dp x.ds x.se x.da).ad.n (Pv.mk 35 x.pr x.eg x.ed x.ik x.id x.am x.ad x.np x.ns x.nt x.nd x.dp x.ds x.se x.da).ad.c, .int .i64 (Pv.mk 35 x.pr x.eg x.ed x.ik x.id x.am x.ad x.np x.ns x.nt x.nd x.dp x.ds x.se x.da).np, .slice (Pv.mk 35 x.pr x.eg x.ed x.ik x.id x.am x.ad x.np x.ns x.nt x.nd x.dp x.ds x.se x.da).ns.p (Pv.mk 35 x.pr x.eg x.ed x.ik x.id x.am x.ad x.np x.ns x.nt x.nd x.dp x.ds x.se x.da).ns.n (Pv.mk 35 x.pr x.eg x.ed x.ik x.id x.am x.ad x.np x.ns x.nt x.nd x.dp x.ds x.se x.da).ns.c, .int .i64 (Pv.mk 35 x.pr x.eg x.ed x.ik x.id x.am x.ad x.np x.ns x.nt x.nd x.dp x.ds x.se x.da).nt, .slice (Pv.mk 35 x.pr x.eg x.ed x.ik x.id x.am x.ad x.np x.ns x.nt x.nd x.dp x.ds x.se x.da).nd.p (Pv.mk 35 x.pr x.eg x.ed x.ik x.id x.am x.ad x.np x.ns x.nt x.nd x.dp x.ds x.se x.da).nd.n (Pv.mk 35 x.pr x.eg x.ed x.ik x.id x.am x.ad x.np x.ns x.nt x.nd x.dp x.ds x.se x.da).nd.c, .int .i64 (Pv.mk 35 x.pr x.eg x.ed x.ik x.id x.am x.ad x.np x.ns x.nt x.nd x.dp x.ds x.se x.da).dp, .slice (Pv.mk 35 x.pr x.eg x.ed x.ik x.id x.am x.ad x.np x.ns x.nt x.nd x.dp x.ds x.se x.da).ds.p (Pv.mk 35 x.pr x.eg x.ed x.ik x.id x.am x.ad x.np x.ns x.nt x.nd x.dp x.ds x.se x.da).ds.n (Pv.mk 35 x.pr x.eg x.ed x.ik x.id x.am x.ad x.np x.ns x.nt x.nd x.dp x.ds x.se x.da).ds.c, .slice (Pv.mk 35 x.pr x.eg x.ed x.ik x.id x.am x.ad x.np x.ns x.nt x.nd x.dp x.ds x.se x.da).se.p (Pv.mk 35 x.pr x.eg x.ed x.ik x.id x.am x.ad x.np x.ns x.nt x.nd x.dp x.ds x.se x.da).se.n (Pv.mk 35 x.pr x.eg x.ed x.ik x.id x.am x.ad x.np x.ns x.nt x.nd x.dp x.ds x.se x.da).se.c, .slice (Pv.mk 35 x.pr x.eg x.ed x.ik x.id x.am x.ad x.np x.ns x.nt x.nd x.dp x.ds x.se x.da).da.p (Pv.mk 35 x.pr x.eg x.ed x.ik x.id x.am x.ad x.np x.ns x.nt x.nd x.dp x.ds x.se x.da).da.n (Pv.mk 35 x.pr x.eg x.ed x.ik x.id x.am x.ad x.np x.ns x.nt x.nd x.dp x.ds x.se x.da).da.c] 59)
    have hb3 := HBA.out.alloc HBA.out.size (.cells #[.int .i64 (Pv.mk 35 x.pr x.eg x.ed x.ik x.id x.am x.ad x.np x.ns x.nt x.nd x.dp x.ds x.se x.da).t, .slice (Pv.mk 35 x.pr x.eg x.ed x.ik x.id x.am x.ad x.np x.ns x.nt x.nd x.dp x.ds x.se x.da).pr.p (Pv.mk 35 x.pr x.eg x.ed x.ik x.id x.am x.ad x.np x.ns x.nt x.nd x.dp x.ds x.se x.da).pr.n (Pv.mk 35 x.pr x.eg x.ed x.ik x.id x.am x.ad x.np x.ns x.nt x.nd x.dp x.ds x.se x.da).pr.c, .int .i64 (Pv.mk 35 x.pr x.eg x.ed x.ik x.id x.am x.ad x.np x.ns x.nt x.nd x.dp x.ds x.se x.da).eg, .slice (Pv.mk 35 x.pr x.eg x.ed x.ik x.id x.am x.ad x.np x.ns x.nt x.nd x.dp x.ds x.se x.da).ed.p (Pv.mk 35 x.pr x.eg x.ed x.ik x.id x.am x.ad x.np x.ns x.nt x.nd x.dp x.ds x.se x.da).ed.n (Pv.mk 35 x.pr x.eg x.ed x.ik x.id x.am x.ad x.np x.ns x.nt x.nd x.dp x.ds x.se x.da).ed.c, .int .i64 (Pv.mk 35 x.pr x.eg x.ed x.ik x.id x.am x.ad x.np x.ns x.nt x.nd x.dp x.ds x.se x.da).ik, .slice (Pv.mk 35 x.pr x.eg x.ed x.ik x.id x.am x.ad x.np x.ns x.nt x.nd x.dp x.ds x.se x.da).id.p (Pv.mk 35 x.pr x.eg x.ed x.ik x.id x.am x.ad x.np x.ns x.nt x.nd x.dp x.ds x.se x.da).id.n (Pv.mk 35 x.pr x.eg x.ed x.ik x.id x.am x.ad x.np x.ns x.nt x.nd x.dp x.ds x.se x.da).id.c, .int .i64 (Pv.mk 35 x.pr x.eg x.ed x.ik x.id x.am x.ad x.np x.ns x.nt x.nd x.dp x.ds x.se x.da).am, .slice (Pv.mk 35 x.pr x.eg x.ed x.ik x.id x.am x.ad x.np x.ns x.nt x.nd x.dp x.ds x.se x.da).ad.p (Pv.mk 35 x.pr x.eg x.ed x.ik x.id x.am x.ad x.np x.ns x.nt x.nd x.dp x.ds x.se x.da).ad.n (Pv.mk 35 x.pr x.eg x.ed x.ik x.id x.am x.ad x.np x.ns x.nt x.nd x.dp x.ds x.se x.da).ad.c, .int .i64 (Pv.mk 35 x.pr x.eg x.ed x.ik x.id x.am x.ad x.np x.ns x.nt x.nd x.dp x.ds x.se x.da).np, .slice (Pv.mk 35 x.pr x.eg x.ed x.ik x.id x.am x.ad x.np x.ns x.nt x.nd x.dp x.ds x.se x.da).ns.p (Pv.mk 35 x.pr x.eg x.ed x.ik x.id x.am x.ad x.np x.ns x.nt x.nd x.dp x.ds x.se x.da).ns.n (Pv.mk 35 x.pr x.eg x.ed x.ik x.id x.am x.ad x.np x.ns x.nt x.nd x.dp x.ds x.se x.da).ns.c, .int .i64 (Pv.mk 35 x.pr x.eg x.ed x.ik x.id x.am x.ad x.np x.ns x.nt x.nd x.dp x.ds x.se x.da).nt, .slice (Pv.mk 35 x.pr x.eg x.ed x.ik x.id x.am x.ad x.np x.ns x.nt x.nd x.dp x.ds x.se x.da).nd.p (Pv.mk 35 x.pr x.eg x.ed x.ik x.id x.am x.ad x.np x.ns x.nt x.nd x.dp x.ds x.se x.da).nd.n (Pv.mk 35 x.pr x.eg x.ed x.ik x.id x.am x.ad x.np x.ns x.nt x.nd x.dp x.ds x.se x.da).nd.c, .int .i64 (Pv.mk 35 x.pr x.eg x.ed x.ik x.id x.am x.ad x.np x.ns x.nt x.nd x.dp x.ds x.se x.da).dp, .slice (Pv.mk 35 x.pr x.eg x.ed x.ik x.id x.am x.ad x.np x.ns x.nt x.nd x.dp x.ds x.se x.da).ds.p (Pv.mk 35 x.pr x.eg x.ed x.ik x.id x.am x.ad x.np x.ns x.nt x.nd x.dp x.ds x.se x.da).ds.n (Pv.mk 35 x.pr x.eg x.ed x.ik x.id x.am x.ad x.np x.ns x.nt x.nd x.dp x.ds x.se x.da).ds.c, .slice (Pv.mk 35 x.pr x.eg x.ed x.ik x.id x.am x.ad x.np x.ns x.nt x.nd x.dp x.ds x.se x.da).se.p (Pv.mk 35 x.pr x.eg x.ed x.ik x.id x.am x.ad x.np x.ns x.nt x.nd x.dp x.ds x.se x.da).se.n (Pv.mk 35 x.pr x.eg x.ed x.ik x.id x.am x.ad x.np x.ns x.nt x.nd x.dp x.ds x.se x.da).se.c, .slice (Pv.mk 35 x.pr x.eg x.ed x.ik x.id x.am x.ad x.np x.ns x.nt x.nd x.dp x.ds x.se x.da).da.p (Pv.mk 35 x.pr x.eg x.ed x.ik x.id x.am x.ad x.np x.ns x.nt x.nd x.dp x.ds x.se x.da).da.n (Pv.mk 35 x.pr x.eg x.ed x.ik x.id x.am x.ad x.np x.ns x.nt x.nd x.dp x.ds x.se x.da).da.c] 59)
    have hg3 := G.keep (HGO.out rfl) (fun a v ha hc => cell_below ((Below.refl _ w2).alloc (Nat.le_refl _) (.cells #[.int .i64 (Pv.mk 35 x.pr x.eg x.ed x.ik x.id x.am x.ad x.np x.ns x.nt x.nd x.dp x.ds x.se x.da).t, .slice (Pv.mk 35 x.pr x.eg x.ed x.ik x.id x.am x.ad x.np x.ns x.nt x.nd x.dp x.ds x.se x.da).pr.p (Pv.mk 35 x.pr x.eg x.ed x.ik x.id x.am x.ad x.np x.ns x.nt x.nd x.dp x.ds x.se x.da).pr.n (Pv.mk 35 x.pr x.eg x.ed x.ik x.id x.am x.ad x.np x.ns x.nt x.nd x.dp x.ds x.se x.da).pr.c, .int .i64 (Pv.mk 35 x.pr x.eg x.ed x.ik x.id x.am x.ad x.np x.ns x.nt x.nd x.dp x.ds x.se x.da).eg, .slice (Pv.mk 35 x.pr x.eg x.ed x.ik x.id x.am x.ad x.np x.ns x.nt x.nd x.dp x.ds x.se x.da).ed.p (Pv.mk 35 x.pr x.eg x.ed x.ik x.id x.am x.ad x.np x.ns x.nt x.nd x.dp x.ds x.se x.da).ed.n (Pv.mk 35 x.pr x.eg x.ed x.ik x.id x.am x.ad x.np x.ns x.nt x.nd x.dp x.ds x.se x.da).ed.c, .int .i64 (Pv.mk 35 x.pr x.eg x.ed x.ik x.id x.am x.ad x.np x.ns x.nt x.nd x.dp x.ds x.se x.da).ik, .slice (Pv.mk 35 x.pr x.eg x.ed x.ik x.id x.am x.ad x.np x.ns x.nt x.nd x.dp x.ds x.se x.da).id.p (Pv.mk 35 x.pr x.eg x.ed x.ik x.id x.am x.ad x.np x.ns x.nt x.nd x.dp x.ds x.se x.da).id.n (Pv.mk 35 x.pr x.eg x.ed x.ik x.id x.am x.ad x.np x.ns x.nt x.nd x.dp x.ds x.se x.da).id.c, .int .i64 (Pv.mk 35 x.pr x.eg x.ed x.ik x.id x.am x.ad x.np x.ns x.nt x.nd x.dp x.ds x.se x.da).am, .slice (Pv.mk 35 x.pr x.eg x.ed x.ik x.id x.am x.ad x.np x.ns x.nt x.nd x.dp x.ds x.se x.da).ad.p (Pv.mk 35 x.pr x.eg x.ed x.ik x.id x.am x.ad x.np x.ns x.nt x.nd x.dp x.ds x.se x.da).ad.n (Pv.mk 35 x.pr x.eg x.ed x.ik x.id x.am x.ad x.np x.ns x.nt x.nd x.dp x.ds x.se x.da).ad.c, .int .i64 (Pv.mk 35 x.pr x.eg x.ed x.ik x.id x.am x.ad x.np x.ns x.nt x.nd x.dp x.ds x.se x.da).np, .slice (Pv.mk 35 x.pr x.eg x.ed x.ik x.id x.am x.ad x.np x.ns x.nt x.nd x.dp x.ds x.se x.da).ns.p (Pv.mk 35 x.pr x.eg x.ed x.ik x.id x.am x.ad x.np x.ns x.nt x.nd x.dp x.ds x.se x.da).ns.n (Pv.mk 35 x.pr x.eg x.ed x.ik x.id x.am x.ad x.np x.ns x.nt x.nd x.dp x.ds x.se x.da).ns.c, .int .i64 (Pv.mk 35 x.pr x.eg x.ed x.ik x.id x.am x.ad x.np x.ns x.nt x.nd x.dp x.ds x.se x.da).nt, .slice (Pv.mk 35 x.pr x.eg x.ed x.ik x.id x.am x.ad x.np x.ns x.nt x.nd x.dp x.ds x.se x.da).nd.p (Pv.mk 35 x.pr x.eg x.ed x.ik x.id x.am x.ad x.np x.ns x.nt x.nd x.dp x.ds x.se x.da).nd.n (Pv.mk 35 x.pr x.eg x.ed x.ik x.id x.am x.ad x.np x.ns x.nt x.nd x.dp x.ds x.se x.da).nd.c, .int .i64 (Pv.mk 35 x.pr x.eg x.ed x.ik x.id x.am x.ad x.np x.ns x.nt x.nd x.dp x.ds x.se x.da).dp, .slice (Pv.mk 35 x.pr x.eg x.ed x.ik x.id x.am x.ad x.np x.ns x.nt x.nd x.dp x.ds x.se x.da).ds.p (Pv.mk 35 x.pr x.eg x.ed x.ik x.id x.am x.ad x.np x.ns x.nt x.nd x.dp x.ds x.se x.da).ds.n (Pv.mk 35 x.pr x.eg x.ed x.ik x.id x.am x.ad x.np x.ns x.nt x.nd x.dp x.ds x.se x.da).ds.c, .slice (Pv.mk 35 x.pr x.eg x.ed x.ik x.id x.am x.ad x.np x.ns x.nt x.nd x.dp x.ds x.se x.da).se.p (Pv.mk 35 x.pr x.eg x.ed x.ik x.id x.am x.ad x.np x.ns x.nt x.nd x.dp x.ds x.se x.da).se.n (Pv.mk 35 x.pr x.eg x.ed x.ik x.id x.am x.ad x.np x.ns x.nt x.nd x.dp x.ds x.se x.da).se.c, .slice (Pv.mk 35 x.pr x.eg x.ed x.ik x.id x.am x.ad x.np x.ns x.nt x.nd x.dp x.ds x.se x.da).da.p (Pv.mk 35 x.pr x.eg x.ed x.ik x.id x.am x.ad x.np x.ns x.nt x.nd x.dp x.ds x.se x.da).da.n (Pv.mk 35 x.pr x.eg x.ed x.ik x.id x.am x.ad x.np x.ns x.nt x.nd x.dp x.ds x.se x.da).da.c] 59)) _ _ hc)
    simp only at hk3 hz3 hb3 hg3
    have HK3 := hidden hk3
    have HZ3 := hidden hz3
    have HB3 := hidden hb3
    have HG3 := hidden hg3
    clear hk3 hz3 hb3 hg3 HGO HZA HBA
    go_upto_region 6 with fail
    clear d0
    generalize hw3 : w2.alloc (.cells #[.int .i64 35, .slice x.pr.p x.pr.n x.pr.c, .int .i64 x.eg, .slice x.ed.p x.ed.n x.ed.c, .int .i64 x.ik, .slice x.id.p x.id.n x.id.c, .int .i64 x.am, .slice x.ad.p x.ad.n x.ad.c, .int .i64 x.np, .slice x.ns.p x.ns.n x.ns.c, .int .i64 x.nt, .slice x.nd.p x.nd.n x.nd.c, .int .i64 x.dp, .slice x.ds.p x.ds.n x.ds.c, .slice x.se.p x.se.n x.se.c, .slice x.da.p x.da.n x.da.c] 59) = w3 at *
    generalize w2.heap.size = g5 at *
    clear hw3
    obtain ⟨k0, k1, k2, k3, k4, k5, k6, k7, k8, k9, k10, k11, k12, k13, k14, k15, kfr⟩ := HK3.out
    obtain ⟨y0, y1, y2, y3, y4, y5, y6, y7, y8, y9, y10, y11, y12, y13, y14, y15, z0, z1, z2, z3, z4, z5, z6, z7, z8, z9, z10, z11, z12, z13, z14, z15, zf⟩ := HZ3.out.any
    have hz := stored_pv HZ3.out HB3.out (by omega) { x with t := 35 }
    have hgd := (G.ty 35 (G.keep HG3.out (fun a v ha hc => (setPv_grown w3 (w.heap.size + 1) { x with t := 35 }).cell hc (by rw [HSZ.out] at ha; simp; omega))))
    simp only [setPv] at hz hgd
    have HZZ := hidden hz
    have HGG := hidden (G.mono hgd (by rw [HSZ.out]; omega : w.heap.size ≤ _))
    clear hz hgd
    go_wp2
    exact ret_pv (g := w.heap.size + 1) rfl rfl rfl rfl HZZ.out.1 ⟨_, rfl, HZZ.out.2, Or.inl ⟨rfl, rfl, HGG.out⟩⟩
  · have hE' : (E != 0) = true := by simpa using hE
    have HE := hidden hE
    clear hE HGO
    have HZ2 := hidden (HZA.out.alloc (.cells #[.int .i64 x.t, .slice x.pr.p x.pr.n x.pr.c, .int .i64 x.eg, .slice x.ed.p x.ed.n x.ed.c, .int .i64 x.ik, .slice x.id.p x.id.n x.id.c, .int .i64 x.am, .slice x.ad.p x.ad.n x.ad.c, .int .i64 x.np, .slice x.ns.p x.ns.n x.ns.c, .int .i64 x.nt, .slice x.nd.p x.nd.n x.nd.c, .int .i64 x.dp, .slice x.ds.p x.ds.n x.ds.c, .slice x.se.p x.se.n x.se.c, .slice x.da.p x.da.n x.da.c] 59))
    have HB2 := hidden (HBA.out.alloc HBA.out.size (.cells #[.int .i64 x.t, .slice x.pr.p x.pr.n x.pr.c, .int .i64 x.eg, .slice x.ed.p x.ed.n x.ed.c, .int .i64 x.ik, .slice x.id.p x.id.n x.id.c, .int .i64 x.am, .slice x.ad.p x.ad.n x.ad.c, .int .i64 x.np, .slice x.ns.p x.ns.n x.ns.c, .int .i64 x.nt, .slice x.nd.p x.nd.n x.nd.c, .int .i64 x.dp, .slice x.ds.p x.ds.n x.ds.c, .slice x.se.p x.se.n x.se.c, .slice x.da.p x.da.n x.da.c] 59))
    clear HZA HBA
    generalize hw3 : w2.alloc (.cells #[.int .i64 x.t, .slice x.pr.p x.pr.n x.pr.c, .int .i64 x.eg, .slice x.ed.p x.ed.n x.ed.c, .int .i64 x.ik, .slice x.id.p x.id.n x.id.c, .int .i64 x.am, .slice x.ad.p x.ad.n x.ad.c, .int .i64 x.np, .slice x.ns.p x.ns.n x.ns.c, .int .i64 x.nt, .slice x.nd.p x.nd.n x.nd.c, .int .i64 x.dp, .slice x.ds.p x.ds.n x.ds.c, .slice x.se.p x.se.n x.se.c, .slice x.da.p x.da.n x.da.c] 59) = w3 at *
    obtain ⟨y0, y1, y2, y3, y4, y5, y6, y7, y8, y9, y10, y11, y12, y13, y14, y15, z0, z1, z2, z3, z4, z5, z6, z7, z8, z9, z10, z11, z12, z13, z14, z15, zf⟩ := HZ2.out.any
    have hz := stored_pv HZ2.out HB2.out (by omega) zeroP
    simp only [setPv, zeroP, nilV] at hz
    have HZZ := hidden hz
    clear hz hw3
    go_wp2
    exact ret_pv (g := w.heap.size + 1) rfl rfl rfl rfl HZZ.out.1 ⟨zeroP, rfl, HZZ.out.2, Or.inr ⟨HE.out, rfl⟩⟩
end Go.Proofs.YtkniifopfgeopaaGreat
