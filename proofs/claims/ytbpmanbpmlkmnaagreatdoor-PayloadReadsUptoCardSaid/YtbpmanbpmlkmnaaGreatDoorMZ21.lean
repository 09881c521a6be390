/-
  The document's own Parse of a payload's body, at any type.
  The document's own Build of a payload whose numbers fit.
  Drawn payloads, written by the document's Build.
  What two readers of one body return is the same: for the law PayloadReads.
-/
import Derived.Test.YtbpmanbpmlkmnaaGreatDoorMRPayParseA
import Derived.Test.YtbpmanbpmlkmnaaGreatDoorMRPayParseB
import Derived.Test.YtbpmanbpmlkmnaaGreatDoorMRPayParseC
import Derived.Test.YtbpmanbpmlkmnaaGreatDoorMRPayParseD
import Derived.Test.YtbpmanbpmlkmnaaGreatDoorMZ17
import Derived.Test.YtbpmanbpmlkmnaaGreatDoorMZ10
import Derived.Test.YtbpmanbpmlkmnaaGreatDoorMZ11
namespace Go.Proofs.YtbpmanbpmlkmnaaGreatDoor
open Go.RowKit
set_option linter.unusedVariables false

theorem rpparse_any (t : Int) (p : Option Addr) (n c : Nat) (xs : List Int) (cr : Bool) (w : World) (h : Byt w p n c xs) (hn : n ≤ 1048576) :
    Calls Tryz.prog 11 #[.agg #[.int .i64 t, .bool cr, .slice p n c]] w (ParsedV w t (parseE t xs) (gdK t xs)) := by
  by_cases hA : t = 33 ∨ t = 44 ∨ t = 45 ∨ t = 41 ∨ t = 42
  · exact rpparse_A t hA p n c xs cr w h hn
  by_cases hB : t = 34 ∨ t = 35
  · exact rpparse_B t hB p n c xs cr w h hn
  by_cases hC : t = 36 ∨ t = 39
  · exact rpparse_C t hC p n c xs cr w h hn
  · exact rpparse_D t (by omega) p n c xs cr w h hn
end Go.Proofs.YtbpmanbpmlkmnaaGreatDoor

namespace Go.Proofs.YtbpmanbpmlkmnaaGreatDoor
open Go.RowKit
set_option linter.unusedVariables false
set_option linter.unusedSimpArgs false

/-- The body of a payload at every type, and the first error. -/
def rbodyA (x : Pv) (C : Pc) : List Int × Int := if x.t = 42 then remB x.dp (C.ds.map Sb.xs) else rbodyB x C
set_option maxHeartbeats 1600000 in
set_option maxRecDepth 100000 in
theorem rbody_all (x : Pv) (C : Pc) (w : World) (h : PvRk w x C) (f : Fit x) (sz : PvSz x) (hd : x.t = 42 → x.ds.n ≤ 1000) : Calls Tryz.prog 16 #[(.agg #[.int .i64 x.t, .slice x.pr.p x.pr.n x.pr.c, .int .i64 x.eg, .slice x.ed.p x.ed.n x.ed.c, .int .i64 x.ik, .slice x.id.p x.id.n x.id.c, .int .i64 x.am, .slice x.ad.p x.ad.n x.ad.c, .int .i64 x.np, .slice x.ns.p x.ns.n x.ns.c, .int .i64 x.nt, .slice x.nd.p x.nd.n x.nd.c, .int .i64 x.dp, .slice x.ds.p x.ds.n x.ds.c, .slice x.se.p x.se.n x.se.c, .slice x.da.p x.da.n x.da.c])] w (GotBE w (rbodyA x C).1 (rbodyA x C).2) := by
  by_cases h42 : x.t = 42
  · have hds := (h.a42 h42).ds
    have hdn := hd h42
    have hre : rbodyA x C = remB x.dp (C.ds.map Sb.xs) := by unfold rbodyA; rw [if_pos h42]
    rw [hre]
    have HB := hidden ((Below.refl w.heap.size w).alloc (Nat.le_refl _) (.cells #[.int .i64 x.t, .slice x.pr.p x.pr.n x.pr.c, .int .i64 x.eg, .slice x.ed.p x.ed.n x.ed.c, .int .i64 x.ik, .slice x.id.p x.id.n x.id.c, .int .i64 x.am, .slice x.ad.p x.ad.n x.ad.c, .int .i64 x.np, .slice x.ns.p x.ns.n x.ns.c, .int .i64 x.nt, .slice x.nd.p x.nd.n x.nd.c, .int .i64 x.dp, .slice x.ds.p x.ds.n x.ds.c, .slice x.se.p x.se.n x.se.c, .slice x.da.p x.da.n x.da.c] 45))
    have HPV := hidden (PvIn.new w x 45)
    clear f sz h hd hre
    obtain ⟨t, pr, eg, ed, ik, id, am, ad, np, ns, nt, nd, dp, ds, se, da⟩ := x
    dsimp only at *
    subst h42
    obtain ⟨w1, hw1⟩ : ∃ w1, w.alloc (.cells #[.int .i64 42, .slice pr.p pr.n pr.c, .int .i64 eg, .slice ed.p ed.n ed.c, .int .i64 ik, .slice id.p id.n id.c, .int .i64 am, .slice ad.p ad.n ad.c, .int .i64 np, .slice ns.p ns.n ns.c, .int .i64 nt, .slice nd.p nd.n nd.c, .int .i64 dp, .slice ds.p ds.n ds.c, .slice se.p se.n se.c, .slice da.p da.n da.c] 45) = w1 := ⟨_, rfl⟩
    rw [hw1] at HB HPV
    have HC := hidden (removal_any dp ds.p ds.n ds.c C.ds w1 (hds.below HB.out) hdn)
    generalize (remB dp (C.ds.map Sb.xs)).1 = L at *
    generalize (remB dp (C.ds.map Sb.xs)).2 = E at *
    clear hds hdn
    go_enter Tryz.func16, Tryz.ntmps16
    go_upto_region 1 with fail
    obtain ⟨c0, c1, c2, c3, c4, c5, c6, c7, c8, c9, c10, c11, c12, c13, c14, c15, cf⟩ := HPV.out
    go_wp2_with (first
      | (go_at_call 36; (with_reducible refine (HC.out).mono ?_); rintro e w2 ⟨q2, d2, rfl, hf, hb⟩; have HF := hidden (hf.mono HB.out.size); have HB2 := hidden (HB.out.trans (hb.mono HB.out.size)); clear hf hb)
      | fail)
    go_ret2
    exact ⟨q2, d2, rfl, HF.out, HB2.out⟩
  · have hre : rbodyA x C = rbodyB x C := by unfold rbodyA; rw [if_neg h42]
    rw [hre]
    exact rbody_any x C w h f sz h42

/-- The first error of a payload whose numbers fit, as the document has it. -/
def rawR (t : Int) (L : List Int) (E : Int) : Int := if E ≠ 0 then E else if parseE t L ≠ 0 then parseE t L else if 65531 < L.length then 11 else 0

set_option maxHeartbeats 3200000 in
set_option maxRecDepth 100000 in
theorem rpBuild_of (x : Pv) (L : List Int) (E : Int) (w : World) (hF : Fit x) (hB : ∀ W, Below w.heap.size w W → Calls Tryz.prog 16 #[(.agg #[.int .i64 x.t, .slice x.pr.p x.pr.n x.pr.c, .int .i64 x.eg, .slice x.ed.p x.ed.n x.ed.c, .int .i64 x.ik, .slice x.id.p x.id.n x.id.c, .int .i64 x.am, .slice x.ad.p x.ad.n x.ad.c, .int .i64 x.np, .slice x.ns.p x.ns.n x.ns.c, .int .i64 x.nt, .slice x.nd.p x.nd.n x.nd.c, .int .i64 x.dp, .slice x.ds.p x.ds.n x.ds.c, .slice x.se.p x.se.n x.se.c, .slice x.da.p x.da.n x.da.c])] W (GotBE W L E)) (hL : L.length ≤ 1048576) (R : Int) (hR : rawR x.t L E = R) :
    Calls Tryz.prog 6 #[(.agg #[.int .i64 x.t, .slice x.pr.p x.pr.n x.pr.c, .int .i64 x.eg, .slice x.ed.p x.ed.n x.ed.c, .int .i64 x.ik, .slice x.id.p x.id.n x.id.c, .int .i64 x.am, .slice x.ad.p x.ad.n x.ad.c, .int .i64 x.np, .slice x.ns.p x.ns.n x.ns.c, .int .i64 x.nt, .slice x.nd.p x.nd.n x.nd.c, .int .i64 x.dp, .slice x.ds.p x.ds.n x.ds.c, .slice x.se.p x.se.n x.se.c, .slice x.da.p x.da.n x.da.c])] w (GotRaw w x.t L R) := by
  obtain ⟨P, hP⟩ : ∃ P, parseE x.t L = P := ⟨_, rfl⟩
  obtain ⟨G, hG⟩ : ∃ G, gdK x.t L = G := ⟨_, rfl⟩
  have hcase : (E ≠ 0 ∧ R = E) ∨ (E = 0 ∧ P ≠ 0 ∧ R = P) ∨ (E = 0 ∧ P = 0 ∧ 65531 < L.length ∧ R = 11) ∨ (E = 0 ∧ P = 0 ∧ ¬ 65531 < L.length ∧ R = 0) := by
    unfold rawR at hR
    rw [hP] at hR
    by_cases h3 : E ≠ 0
    · rw [if_pos h3] at hR; omega
    rw [if_neg h3] at hR
    by_cases h4 : P ≠ 0
    · rw [if_pos h4] at hR; omega
    rw [if_neg h4] at hR
    by_cases h5 : 65531 < L.length
    · rw [if_pos h5] at hR; omega
    · rw [if_neg h5] at hR; omega
  have HCASE := hidden hcase
  clear hcase
  have HPA := hidden (fun W q d (h : Byt W q L.length d L) => rpparse_any x.t q L.length d L false W h hL)
  rw [hP, hG] at HPA
  have h1 := hF.r.1
  have h2 := hF.r.2
  have n1 : ¬ x.t < 1 := by omega
  have n2 : ¬ 255 < x.t := by omega
  have HFT := hidden (fun W => rfits_yes x W hF)
  obtain ⟨w1, hw1⟩ : ∃ w1, (w.alloc (.cells #[.int .i64 x.t, .slice x.pr.p x.pr.n x.pr.c, .int .i64 x.eg, .slice x.ed.p x.ed.n x.ed.c, .int .i64 x.ik, .slice x.id.p x.id.n x.id.c, .int .i64 x.am, .slice x.ad.p x.ad.n x.ad.c, .int .i64 x.np, .slice x.ns.p x.ns.n x.ns.c, .int .i64 x.nt, .slice x.nd.p x.nd.n x.nd.c, .int .i64 x.dp, .slice x.ds.p x.ds.n x.ds.c, .slice x.se.p x.se.n x.se.c, .slice x.da.p x.da.n x.da.c] 45)).alloc (.cells #[.int .i64 0, .bool false, .slice none 0 0] 27) = w1 := ⟨_, rfl⟩
  have hb1 : Below w.heap.size w w1 := by rw [← hw1]; exact ((Below.refl _ w).alloc (Nat.le_refl _) _).alloc (by simp) _
  have hP1 : PvIn w1 w.heap.size x := by rw [← hw1]; exact (PvIn.new w x 45).alloc _
  have k0 : w1.cell? ⟨w.heap.size + 1, 0, none⟩ = some (.int .i64 0) := by rw [← hw1]; clear hw1 hP1 hb1 HPA HFT; go_simp
  have k1 : w1.cell? ⟨w.heap.size + 1, 1, none⟩ = some (.bool false) := by rw [← hw1]; clear hw1 k0 hP1 hb1 HPA HFT; go_simp
  have k2 : w1.cell? ⟨w.heap.size + 1, 2, none⟩ = some (.slice none 0 0) := by rw [← hw1]; clear hw1 k0 k1 hP1 hb1 HPA HFT; go_simp
  have kf : ∀ j, w1.frozen? ⟨w.heap.size + 1, j, none⟩ = false := by rw [← hw1]; clear hw1 k0 k1 k2 hP1 hb1 HPA HFT; intro j; go_simp
  have hsz : w1.heap.size = w.heap.size + 2 := by rw [← hw1]; simp
  have HB1 := hidden hb1
  have HBC := hidden hB
  have HP1 := hidden hP1
  have HPC := hidden (fun W (hW : Below w1.heap.size w1 W) => (⟨cell_below hW _ _ k0, cell_below hW _ _ k1, cell_below hW _ _ k2, fun j => (World.frozen?_of_block (a := ⟨w.heap.size + 1, j, none⟩) (hW.block (w.heap.size + 1) (by omega))).trans (kf j), HP1.out.below hW, HB1.out.trans (hW.mono HB1.out.size)⟩ : W.cell? ⟨w.heap.size + 1, 0, none⟩ = some (.int .i64 0) ∧ W.cell? ⟨w.heap.size + 1, 1, none⟩ = some (.bool false) ∧ W.cell? ⟨w.heap.size + 1, 2, none⟩ = some (.slice none 0 0) ∧ (∀ j, W.frozen? ⟨w.heap.size + 1, j, none⟩ = false) ∧ PvIn W w.heap.size x ∧ Below w.heap.size w W))
  clear hB hb1 hR hP hG hF h1 h2
  obtain ⟨c0, c1, c2, c3, c4, c5, c6, c7, c8, c9, c10, c11, c12, c13, c14, c15, cf⟩ := hP1
  go_enter Tryz.func6, Tryz.ntmps6
  go_upto_region 1 with fail
  clear hw1
  go_upto_region 3 with (first
    | (go_at_call 15; (with_reducible refine (HFT.out _).mono ?_); rintro e w2 ⟨rfl, hb⟩; have HB2 : Hid (Below w1.heap.size w1 w2) := hidden hb; clear hb)
    | fail)
  clear c0 c1 c2 c3 c4 c5 c6 c7 c8 c9 c10 c11 c12 c13 c14 c15 cf k0 k1 k2 kf
  obtain ⟨k0, k1, k2, kf, hP2, hbw⟩ := HPC.out w2 HB2.out
  have HBW2 := hidden hbw
  obtain ⟨c0, c1, c2, c3, c4, c5, c6, c7, c8, c9, c10, c11, c12, c13, c14, c15, cf⟩ := hP2
  go_upto_region 4 with (first
    | (go_at_call 16; (with_reducible refine (HBC.out w2 HBW2.out).mono ?_); rintro e w5 ⟨q5, d5, rfl, hf5, hb5⟩; have HF5 := hidden (hf5.mono (show w1.heap.size ≤ w2.heap.size from HB2.out.size)); have HB5 : Hid (Below w1.heap.size w1 w5) := hidden (HB2.out.trans (hb5.mono HB2.out.size)); clear hf5 hb5)
    | fail)
  clear c0 c1 c2 c3 c4 c5 c6 c7 c8 c9 c10 c11 c12 c13 c14 c15 cf k0 k1 k2 kf hbw
  obtain ⟨k0, k1, k2, kf, hP5, hbw⟩ := HPC.out w5 HB5.out
  have HBW := hidden hbw
  obtain ⟨c0, -⟩ := hP5
  have HLT := hidden (show w.heap.size + 1 < w5.heap.size by have := HB5.out.size; omega)
  clear hbw
  obtain hcase := HCASE.out
  clear HCASE
  rcases hcase with ⟨h3, rfl⟩ | hcase
  · have hst := HBW.out.setCell (p := ⟨w.heap.size + 1, 0, none⟩) (by simp) (.int .i64 0)
    have hst := hst.setCell (p := ⟨w.heap.size + 1, 1, none⟩) (by simp) (.bool false)
    have hst := hst.setCell (p := ⟨w.heap.size + 1, 2, none⟩) (by simp) (.slice none 0 0)
    have HST := hidden hst
    clear hst
    have hne : (R != 0) = true := by simpa using h3
    go_wp2
    exact ret_raw3 (g := w.heap.size + 1) rfl rfl rfl rfl (by go_simp) (by go_simp) (by go_simp) ⟨HST.out, Or.inr ⟨h3, rfl⟩⟩
  have hE0 : E = 0 := by rcases hcase with ⟨h, -⟩ | ⟨h, -⟩ | ⟨h, -⟩ <;> exact h
  subst hE0
  have HCASE := hidden hcase
  clear hcase
  have hlt5 := HLT.out
  have hne5 : w.heap.size + 1 ≠ w5.heap.size := by omega
  go_upto_region 7 with fail
  have HF7 := hidden (HF5.out.below ((Below.refl _ w5).alloc (Nat.le_refl _) (.cells #[.int .i64 x.t, .bool false, .slice q5 L.length d5] 27)))
  have HB7 := hidden (HB5.out.alloc HB5.out.size (.cells #[.int .i64 x.t, .bool false, .slice q5 L.length d5] 27))
  have d0 : (w5.alloc (.cells #[.int .i64 x.t, .bool false, .slice q5 L.length d5] 27)).cell? ⟨w5.heap.size, 0, none⟩ = some (.int .i64 x.t) := by go_simp
  have d1 : (w5.alloc (.cells #[.int .i64 x.t, .bool false, .slice q5 L.length d5] 27)).cell? ⟨w5.heap.size, 1, none⟩ = some (.bool false) := by go_simp
  have d2 : (w5.alloc (.cells #[.int .i64 x.t, .bool false, .slice q5 L.length d5] 27)).cell? ⟨w5.heap.size, 2, none⟩ = some (.slice q5 L.length d5) := by go_simp
  generalize w5.alloc (.cells #[.int .i64 x.t, .bool false, .slice q5 L.length d5] 27) = w7 at *
  have HD := hidden (fun W (hW : Below w7.heap.size w7 W) => (⟨cell_below hW _ _ d0, cell_below hW _ _ d1, cell_below hW _ _ d2⟩ : W.cell? ⟨w5.heap.size, 0, none⟩ = some (.int .i64 x.t) ∧ W.cell? ⟨w5.heap.size, 1, none⟩ = some (.bool false) ∧ W.cell? ⟨w5.heap.size, 2, none⟩ = some (.slice q5 L.length d5)))
  generalize w5.heap.size = B5 at *
  clear k0 k1 k2 kf c0 hlt5
  go_upto_region 8 with (first
    | (go_at_call 11; (with_reducible refine (HPA.out w7 q5 d5 HF7.out.1).mono ?_); rintro e w8 ⟨y, rfl, hb8, -⟩; have HB8 := hidden hb8; clear hb8)
    | fail)
  have HB9 := hidden (HB8.out.alloc HB8.out.size (.cells #[.int .i64 y.t, .slice y.pr.p y.pr.n y.pr.c, .int .i64 y.eg, .slice y.ed.p y.ed.n y.ed.c, .int .i64 y.ik, .slice y.id.p y.id.n y.id.c, .int .i64 y.am, .slice y.ad.p y.ad.n y.ad.c, .int .i64 y.np, .slice y.ns.p y.ns.n y.ns.c, .int .i64 y.nt, .slice y.nd.p y.nd.n y.nd.c, .int .i64 y.dp, .slice y.ds.p y.ds.n y.ds.c, .slice y.se.p y.se.n y.se.c, .slice y.da.p y.da.n y.da.c] 45))
  generalize w8.alloc (.cells #[.int .i64 y.t, .slice y.pr.p y.pr.n y.pr.c, .int .i64 y.eg, .slice y.ed.p y.ed.n y.ed.c, .int .i64 y.ik, .slice y.id.p y.id.n y.id.c, .int .i64 y.am, .slice y.ad.p y.ad.n y.ad.c, .int .i64 y.np, .slice y.ns.p y.ns.n y.ns.c, .int .i64 y.nt, .slice y.nd.p y.nd.n y.nd.c, .int .i64 y.dp, .slice y.ds.p y.ds.n y.ds.c, .slice y.se.p y.se.n y.se.c, .slice y.da.p y.da.n y.da.c] 45) = w9 at *
  obtain ⟨k0, k1, k2, kf, -, hbw9⟩ := HPC.out w9 (HB7.out.trans (HB9.out.mono HB7.out.size))
  obtain ⟨e0, e1, e2⟩ := HD.out w9 HB9.out
  have HBW9 := hidden hbw9
  have HF9 := hidden (HF7.out.below HB9.out)
  have hlt9 := HLT.out
  clear d0 d1 d2 hbw9
  rcases HCASE.out with ⟨-, h4, rfl⟩ | ⟨-, rfl, h4, rfl⟩ | ⟨-, rfl, h4, rfl⟩
  · have hne : (R != 0) = true := by simpa using h4
    have hst := HBW9.out.setCell (p := ⟨w.heap.size + 1, 0, none⟩) (by simp) (.int .i64 0)
    have hst := hst.setCell (p := ⟨w.heap.size + 1, 1, none⟩) (by simp) (.bool false)
    have hst := hst.setCell (p := ⟨w.heap.size + 1, 2, none⟩) (by simp) (.slice none 0 0)
    have HST := hidden hst
    clear hst
    clear HCASE
    go_wp2
    exact ret_raw3 (g := w.heap.size + 1) rfl rfl rfl rfl (by go_simp) (by go_simp) (by go_simp) ⟨HST.out, Or.inr ⟨h4, rfl⟩⟩
  · have hgt : (65531 : Int) < (L.length : Int) := by omega
    have hst := HBW9.out.setCell (p := ⟨w.heap.size + 1, 0, none⟩) (by simp) (.int .i64 0)
    have hst := hst.setCell (p := ⟨w.heap.size + 1, 1, none⟩) (by simp) (.bool false)
    have hst := hst.setCell (p := ⟨w.heap.size + 1, 2, none⟩) (by simp) (.slice none 0 0)
    have HST := hidden hst
    clear hst
    clear HCASE
    go_wp2
    exact ret_raw3 (g := w.heap.size + 1) rfl rfl rfl rfl (by go_simp) (by go_simp) (by go_simp) ⟨HST.out, Or.inr ⟨by decide, rfl⟩⟩
  · have hgt : ¬ (65531 : Int) < (L.length : Int) := by omega
    have hst := HBW9.out.setCell (p := ⟨w.heap.size + 1, 0, none⟩) (by simp) (.int .i64 x.t)
    have hst := hst.setCell (p := ⟨w.heap.size + 1, 1, none⟩) (by simp) (.bool false)
    have hst := hst.setCell (p := ⟨w.heap.size + 1, 2, none⟩) (by simp) (.slice q5 L.length d5)
    have hff := ((HF9.out.low (grown_set w9 (w.heap.size + 1) 0 (.int .i64 x.t)) (by omega)).low (grown_set _ (w.heap.size + 1) 1 (.bool false)) (by omega)).low (grown_set _ (w.heap.size + 1) 2 (.slice q5 L.length d5)) (by omega)
    have HFF := hidden (hff.mono (show w.heap.size ≤ w1.heap.size from by omega))
    clear hff
    have HST := hidden hst
    clear hst HCASE
    go_wp2
    exact ret_raw3 (g := w.heap.size + 1) rfl rfl rfl rfl (by go_simp) (by go_simp) (by go_simp) ⟨HST.out, Or.inl ⟨rfl, q5, d5, rfl, HFF.out⟩⟩
end Go.Proofs.YtbpmanbpmlkmnaaGreatDoor

namespace Go.Proofs.YtbpmanbpmlkmnaaGreatDoor
open Go.RowKit
set_option linter.unusedVariables false
set_option linter.unusedSimpArgs false

/-- The numbers of a drawn payload fit. -/
theorem hk_rng (t : Int) (h : Kind12 t) : 1 ≤ t ∧ t ≤ 255 := by unfold Kind12 at h; omega
/-- The numbers of a drawn payload fit. -/
theorem vld_fit (x : Pv) (C : Pc) (hn : NumOk x) (hv : Vld x C) (hk : Kind12 x.t) : Fit x := by
  obtain ⟨n1, n2, n3, n4⟩ := hn
  refine ⟨hk_rng x.t hk, fun e => ?_, fun e => ?_, fun e => ?_, fun e => ?_, fun e => ?_⟩
  · have := (vld34 e).1 hv
    omega
  · rcases e with e | e
    · have := (vld35 e).1 hv
      omega
    · have := (vld36 e).1 hv
      omega
  · have := (vld39 e).1 hv
    omega
  · have := (vld41 e).1 hv
    omega
  · have := (vld42 e).1 hv
    omega
/-- The document writes the same body of a drawn payload. -/
theorem vld_rbody (x : Pv) (C : Pc) (w : World) (h : PvRd w x C) (hn : NumOk x) (hv : Vld x C) (hk : Kind12 x.t) : rbodyA x C = buildB x C := by
  have hb := (vld_build x C w h hn hv hk).1
  unfold rbodyA
  unfold buildB at hb ⊢
  unfold rbodyB
  rcases hk with e | e | e | e | e | e | e | e | e | e | e | e <;> rw [e] at hb ⊢ <;> simp only [reduceIte, Int.reduceEq, or_self, or_true, true_or, or_false, false_or] at hb ⊢
  · rw [hb]
  · rw [hb]
  · rw [hb]
  · rw [hb]
  · rw [hb]
  · have v := (vld41 e).1 hv
    rw [if_neg (by omega), hb, if_neg]
    unfold widthN
    rcases v with ⟨v1, v2⟩ | ⟨v1, v2⟩
    · rw [v1, v2]; decide
    · rw [v1, v2]; decide
  · have v := (vld42 e).1 hv
    rcases v with ⟨v1, v2⟩ | ⟨v1, v2 | v2⟩
    · rw [v1, v2]; decide
    · rw [v1, v2]; decide
    · rw [v1, v2]; decide
theorem vld_ds (x : Pv) (C : Pc) (w : World) (h : PvRd w x C) (hv : Vld x C) (e : x.t = 42) : x.ds.n ≤ 1000 := by
  have hdl := h.ds.len
  have v := (vld42 e).1 hv
  rcases v with ⟨v1, v2⟩ | ⟨v1, v2 | v2⟩
  · rw [v2] at hdl; simp at hdl; omega
  · have := congrArg List.length v2; simp at this; omega
  · have := congrArg List.length v2; simp at this; omega
/-- What the document's Build returns of a drawn payload. -/
theorem drawn_rbuild (x : Pv) (C : Pc) (w : World) (h : PvRd w x C) (hn : NumOk x) (hv : Vld x C) (hk : Kind12 x.t) :
    Calls Tryz.prog 6 #[(.agg #[.int .i64 x.t, .slice x.pr.p x.pr.n x.pr.c, .int .i64 x.eg, .slice x.ed.p x.ed.n x.ed.c, .int .i64 x.ik, .slice x.id.p x.id.n x.id.c, .int .i64 x.am, .slice x.ad.p x.ad.n x.ad.c, .int .i64 x.np, .slice x.ns.p x.ns.n x.ns.c, .int .i64 x.nt, .slice x.nd.p x.nd.n x.nd.c, .int .i64 x.dp, .slice x.ds.p x.ds.n x.ds.c, .slice x.se.p x.se.n x.se.c, .slice x.da.p x.da.n x.da.c])] w fun e w' => ∃ q d L, e = .returned (.tuple #[.agg #[.int .i64 x.t, .bool false, .slice q L.length d], .int .i64 0]) ∧ Frs w' w.heap.size q L.length d L ∧ L.length ≤ 8000 ∧ Below w.heap.size w w' := by
  obtain ⟨bE, bL, bS⟩ := vld_build x C w h hn hv hk
  have hbp := build_parse x C w h.rk (buildB x C).1 (by rw [← bE]) (by omega) hk
  have hR : rawR x.t (buildB x C).1 (buildB x C).2 = 0 := by unfold rawR; rw [bE, if_neg (by simp), hbp.1, if_neg (by simp), if_neg (by omega)]
  have hF := vld_fit x C hn hv hk
  have hB := rpBuild_of x (buildB x C).1 (buildB x C).2 w hF (fun W hW => by
    have := rbody_all x C W (h.below hW).rk hF bS (fun e => vld_ds x C w h hv e)
    rw [vld_rbody x C w h hn hv hk] at this
    exact this) (by omega) _ rfl
  rw [hR] at hB
  refine hB.mono ?_
  rintro e w' ⟨hbl, ⟨-, q, d, rfl, hf⟩ | ⟨hne, -⟩⟩
  · exact ⟨q, d, _, rfl, hf, bL, hbl⟩
  · exact absurd rfl hne
end Go.Proofs.YtbpmanbpmlkmnaaGreatDoor

namespace Go.Proofs.YtbpmanbpmlkmnaaGreatDoor
open Go.RowKit
set_option linter.unusedVariables false
set_option linter.unusedSimpArgs false

theorem rd_same (t : Int) (xs : List Int) (x y : Pv) (C D : Pc) (hx : x.t = t) (hy : y.t = t) (h : RdAs t xs x C) (k : RdAs t xs y D) : sameV x C y D = true := by
  unfold sameV
  rw [hx, hy, if_neg (by simp)]
  by_cases e33 : t = 33
  · rw [if_pos e33, h.a33 e33, k.a33 e33]; simp
  rw [if_neg e33]
  by_cases e34 : t = 34
  · rw [if_pos e34, (h.a34 e34).1, (h.a34 e34).2, (k.a34 e34).1, (k.a34 e34).2]; simp
  rw [if_neg e34]
  by_cases e35 : t = 35 ∨ t = 36
  · rw [if_pos e35, (h.a35 e35).1, (h.a35 e35).2, (k.a35 e35).1, (k.a35 e35).2]; simp
  rw [if_neg e35]
  by_cases e39 : t = 39
  · rw [if_pos e39, (h.a39 e39).1, (h.a39 e39).2, (k.a39 e39).1, (k.a39 e39).2]; simp
  rw [if_neg e39]
  by_cases e41 : t = 41
  · obtain ⟨a1, a2, a3, a4⟩ := h.a41 e41
    obtain ⟨b1, b2, b3, b4⟩ := k.a41 e41
    rw [if_pos e41, a1, a2, a3, a4, b1, b2, b3, b4]; simp
  rw [if_neg e41]
  by_cases e42 : t = 42
  · rw [if_pos e42, (h.a42 e42).1, (h.a42 e42).2, (k.a42 e42).1, (k.a42 e42).2]; simp
  rw [if_neg e42]
  by_cases e44 : t = 44 ∨ t = 45
  · rw [if_pos e44, h.a44 e44, k.a44 e44]; simp
  rw [if_neg e44, h.aX e33 e34 (fun e => e35 (Or.inl e)) (fun e => e35 (Or.inr e)) e39 e41 e42 (fun e => e44 (Or.inl e)) (fun e => e44 (Or.inr e)),
    k.aX e33 e34 (fun e => e35 (Or.inl e)) (fun e => e35 (Or.inr e)) e39 e41 e42 (fun e => e44 (Or.inl e)) (fun e => e44 (Or.inr e))]
  simp
theorem zero_rk (w : World) : PvRk w zeroP Cn :=
  ⟨fun e => absurd e (by decide), fun e => absurd e (by decide), fun e => absurd e (by decide), fun e => absurd e (by decide), fun e => absurd e (by decide), fun e => absurd e (by decide), fun e => absurd e (by decide), fun e => absurd e (by decide), fun e => absurd e (by decide), fun _ _ _ _ _ _ _ _ _ => ⟨Byt.nil _ _ _ (Nat.zero_le _)⟩⟩
/-- A payload that a reader returned, in its own block. -/
structure SV (W : World) (g : Nat) (t : Int) (xs : List Int) (E : Int) (y : Pv) : Prop where
  p : PvIn W g y
  or_ : (E = 0 ∧ ∃ D, y.t = t ∧ PvRk W y D ∧ RdAs t xs y D) ∨ (E ≠ 0 ∧ y = zeroP)
theorem SV.below {W W' : World} {g : Nat} {t : Int} {xs : List Int} {E : Int} {y : Pv} (h : SV W g t xs E y) (hb : Below W.heap.size W W') : SV W' g t xs E y :=
  ⟨h.p.below hb, h.or_.elim (fun ⟨e, D, h1, h2, h3⟩ => Or.inl ⟨e, D, h1, h2.below hb, h3⟩) Or.inr⟩
theorem SV.of {w w' : World} {t : Int} {xs : List Int} {E : Int} {e : Ending} (h : ParsedV w t E (gdK t xs) e w') :
    ∃ y, e = .returned (.tuple #[(.agg #[.int .i64 y.t, .slice y.pr.p y.pr.n y.pr.c, .int .i64 y.eg, .slice y.ed.p y.ed.n y.ed.c, .int .i64 y.ik, .slice y.id.p y.id.n y.id.c, .int .i64 y.am, .slice y.ad.p y.ad.n y.ad.c, .int .i64 y.np, .slice y.ns.p y.ns.n y.ns.c, .int .i64 y.nt, .slice y.nd.p y.nd.n y.nd.c, .int .i64 y.dp, .slice y.ds.p y.ds.n y.ds.c, .slice y.se.p y.se.n y.se.c, .slice y.da.p y.da.n y.da.c]), .int .i64 E]) ∧ Below w.heap.size w (w'.alloc (.cells #[.int .i64 y.t, .slice y.pr.p y.pr.n y.pr.c, .int .i64 y.eg, .slice y.ed.p y.ed.n y.ed.c, .int .i64 y.ik, .slice y.id.p y.id.n y.id.c, .int .i64 y.am, .slice y.ad.p y.ad.n y.ad.c, .int .i64 y.np, .slice y.ns.p y.ns.n y.ns.c, .int .i64 y.nt, .slice y.nd.p y.nd.n y.nd.c, .int .i64 y.dp, .slice y.ds.p y.ds.n y.ds.c, .slice y.se.p y.se.n y.se.c, .slice y.da.p y.da.n y.da.c] 45)) ∧ SV (w'.alloc (.cells #[.int .i64 y.t, .slice y.pr.p y.pr.n y.pr.c, .int .i64 y.eg, .slice y.ed.p y.ed.n y.ed.c, .int .i64 y.ik, .slice y.id.p y.id.n y.id.c, .int .i64 y.am, .slice y.ad.p y.ad.n y.ad.c, .int .i64 y.np, .slice y.ns.p y.ns.n y.ns.c, .int .i64 y.nt, .slice y.nd.p y.nd.n y.nd.c, .int .i64 y.dp, .slice y.ds.p y.ds.n y.ds.c, .slice y.se.p y.se.n y.se.c, .slice y.da.p y.da.n y.da.c] 45)) w'.heap.size t xs E y := by
  obtain ⟨y, rfl, hb, hor⟩ := h
  have hal := (Below.refl w'.heap.size w').alloc (Nat.le_refl _) (.cells #[.int .i64 y.t, .slice y.pr.p y.pr.n y.pr.c, .int .i64 y.eg, .slice y.ed.p y.ed.n y.ed.c, .int .i64 y.ik, .slice y.id.p y.id.n y.id.c, .int .i64 y.am, .slice y.ad.p y.ad.n y.ad.c, .int .i64 y.np, .slice y.ns.p y.ns.n y.ns.c, .int .i64 y.nt, .slice y.nd.p y.nd.n y.nd.c, .int .i64 y.dp, .slice y.ds.p y.ds.n y.ds.c, .slice y.se.p y.se.n y.se.c, .slice y.da.p y.da.n y.da.c] 45)
  refine ⟨y, rfl, hb.alloc hb.size _, PvIn.new w' y 45, ?_⟩
  rcases hor with ⟨h0, hyt, C, hC, hd⟩ | ⟨hne, hz⟩
  · have e1 : { y with t := t } = y := by subst hyt; rfl
    have h1 := hC w' (Kpt.refl _ _)
    rw [e1] at h1
    exact Or.inl ⟨h0, C, hyt, h1.below hal, hd⟩
  · exact Or.inr ⟨hne, hz⟩
/-- The document finds them the same. -/
theorem SV.same {W : World} {g g' : Nat} {t : Int} {xs : List Int} {E : Int} {y z : Pv} (h : SV W g t xs E y) (k : SV W g' t xs E z) :
    Calls Tryz.prog 12 #[(.agg #[.int .i64 y.t, .slice y.pr.p y.pr.n y.pr.c, .int .i64 y.eg, .slice y.ed.p y.ed.n y.ed.c, .int .i64 y.ik, .slice y.id.p y.id.n y.id.c, .int .i64 y.am, .slice y.ad.p y.ad.n y.ad.c, .int .i64 y.np, .slice y.ns.p y.ns.n y.ns.c, .int .i64 y.nt, .slice y.nd.p y.nd.n y.nd.c, .int .i64 y.dp, .slice y.ds.p y.ds.n y.ds.c, .slice y.se.p y.se.n y.se.c, .slice y.da.p y.da.n y.da.c]), (.agg #[.int .i64 z.t, .slice z.pr.p z.pr.n z.pr.c, .int .i64 z.eg, .slice z.ed.p z.ed.n z.ed.c, .int .i64 z.ik, .slice z.id.p z.id.n z.id.c, .int .i64 z.am, .slice z.ad.p z.ad.n z.ad.c, .int .i64 z.np, .slice z.ns.p z.ns.n z.ns.c, .int .i64 z.nt, .slice z.nd.p z.nd.n z.nd.c, .int .i64 z.dp, .slice z.ds.p z.ds.n z.ds.c, .slice z.se.p z.se.n z.se.c, .slice z.da.p z.da.n z.da.c])] W fun e w' => e = .returned (.bool true) ∧ Below W.heap.size W w' := by
  rcases h.or_ with ⟨h0, C, ty, r1, d1⟩ | ⟨hne, rfl⟩
  · rcases k.or_ with ⟨-, D, tz, r2, d2⟩ | ⟨hne, -⟩
    · have := krsame_any y z C D W r1 r2
      rw [rd_same t xs y z C D ty tz d1 d2] at this
      exact this
    · exact absurd h0 hne
  · rcases k.or_ with ⟨h0, -⟩ | ⟨-, rfl⟩
    · exact absurd h0 hne
    · have := krsame_any zeroP zeroP Cn Cn W (zero_rk W) (zero_rk W)
      rw [sameV_refl] at this
      exact this
end Go.Proofs.YtbpmanbpmlkmnaaGreatDoor
