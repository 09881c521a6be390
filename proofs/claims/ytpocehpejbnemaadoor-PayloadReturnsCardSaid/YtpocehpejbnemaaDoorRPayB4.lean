/-
  Package payload's Build, given what build returns.
-/
import Derived.Test.YtpocehpejbnemaaDoorRPayB1
import Derived.Test.YtpocehpejbnemaaDoorRPayVal
namespace Go.Proofs.YtpocehpejbnemaaDoor
open Go.RowKit
set_option linter.unusedVariables false
set_option linter.unusedSimpArgs false

theorem ret_raw3 {fn : Func} {R : Ending → World → Prop} {act : Act} {w : World} {p s : Nat} {g : Nat} {a b c : Value} {u : Value} (h : fn.results = #[.cell p 43, .tmp s]) (hp : act.tmps.getD p undef = .pointer (some ⟨g, 0, none⟩)) (hs : act.tmps.getD s undef = u) (hd : act.defers = [])
    (c0 : w.cell? ⟨g, 0, none⟩ = some a) (c1 : w.cell? ⟨g, 1, none⟩ = some b) (c2 : w.cell? ⟨g, 2, none⟩ = some c) (hR : R (.returned (.tuple #[.agg #[a, b, c], u])) w) : bodyPost Tryd.prog fn R .ret act w := by
  refine bodyPost_ret (v := .tuple #[.agg #[a, b, c], u]) ?_ hd hR
  rw [Array.getD_eq_getD_getElem?] at hp hs
  have hl : (loadVar 43 ⟨g, 0, none⟩).run Tryd.prog w = .ok (.agg #[a, b, c]) w := by simp [loadVar, go_sem, c0, c1, c2, Result.andThen]
  simp [results, h, hp, hs, asAddr, hl, Result.andThen]
/-- A raw payload and an error are returned. -/
def GotRaw (w : World) (t : Int) (L : List Int) (E : Int) (e : Ending) (w' : World) : Prop :=
  Below w.heap.size w w' ∧ ((E = 0 ∧ ∃ q d, e = .returned (.tuple #[.agg #[.int .i64 t, .bool false, .slice q L.length d], .int .i64 0]) ∧ Frs w' w.heap.size q L.length d L) ∨
    (E ≠ 0 ∧ e = .returned (.tuple #[.agg #[.int .i64 0, .bool false, .slice none 0 0], .int .i64 E])))
/-- The first error of a payload whose body is L, or has the error E. -/
def rawE (t : Int) (L : List Int) (E : Int) : Int := if t < 1 ∨ 255 < t then 5 else if E ≠ 0 then E else if 65531 < L.length then 11 else 0

set_option maxHeartbeats 3200000 in
set_option maxRecDepth 100000 in
theorem pBuild_of (x : Pv) (L : List Int) (E : Int) (w : World) (hB : ∀ W, Below w.heap.size w W → Calls Tryd.prog 29 #[(.agg #[.int .i64 x.t, .slice x.pr.p x.pr.n x.pr.c, .int .i64 x.eg, .slice x.ed.p x.ed.n x.ed.c, .int .i64 x.ik, .slice x.id.p x.id.n x.id.c, .int .i64 x.am, .slice x.ad.p x.ad.n x.ad.c, .int .i64 x.np, .slice x.ns.p x.ns.n x.ns.c, .int .i64 x.nt, .slice x.nd.p x.nd.n x.nd.c, .int .i64 x.dp, .slice x.ds.p x.ds.n x.ds.c, .slice x.se.p x.se.n x.se.c, .slice x.da.p x.da.n x.da.c])] W (GotBE W L E)) (R : Int) (hR : rawE x.t L E = R) :
    Calls Tryd.prog 11 #[(.agg #[.int .i64 x.t, .slice x.pr.p x.pr.n x.pr.c, .int .i64 x.eg, .slice x.ed.p x.ed.n x.ed.c, .int .i64 x.ik, .slice x.id.p x.id.n x.id.c, .int .i64 x.am, .slice x.ad.p x.ad.n x.ad.c, .int .i64 x.np, .slice x.ns.p x.ns.n x.ns.c, .int .i64 x.nt, .slice x.nd.p x.nd.n x.nd.c, .int .i64 x.dp, .slice x.ds.p x.ds.n x.ds.c, .slice x.se.p x.se.n x.se.c, .slice x.da.p x.da.n x.da.c])] w (GotRaw w x.t L R) := by
  have hcase : (x.t < 1 ∧ R = 5) ∨ (¬ x.t < 1 ∧ 255 < x.t ∧ R = 5) ∨ (¬ x.t < 1 ∧ ¬ 255 < x.t ∧ E ≠ 0 ∧ R = E) ∨ (¬ x.t < 1 ∧ ¬ 255 < x.t ∧ E = 0 ∧ 65531 < L.length ∧ R = 11) ∨ (¬ x.t < 1 ∧ ¬ 255 < x.t ∧ E = 0 ∧ ¬ 65531 < L.length ∧ R = 0) := by
    unfold rawE at hR
    by_cases h1 : x.t < 1
    · rw [if_pos (Or.inl h1)] at hR; omega
    by_cases h2 : 255 < x.t
    · rw [if_pos (Or.inr h2)] at hR; omega
    rw [if_neg (by omega)] at hR
    by_cases h3 : E ≠ 0
    · rw [if_pos h3] at hR; omega
    rw [if_neg h3] at hR
    by_cases h4 : 65531 < L.length
    · rw [if_pos h4] at hR; omega
    · rw [if_neg h4] at hR; omega
  obtain ⟨w1, hw1⟩ : ∃ w1, (w.alloc (.cells #[.int .i64 x.t, .slice x.pr.p x.pr.n x.pr.c, .int .i64 x.eg, .slice x.ed.p x.ed.n x.ed.c, .int .i64 x.ik, .slice x.id.p x.id.n x.id.c, .int .i64 x.am, .slice x.ad.p x.ad.n x.ad.c, .int .i64 x.np, .slice x.ns.p x.ns.n x.ns.c, .int .i64 x.nt, .slice x.nd.p x.nd.n x.nd.c, .int .i64 x.dp, .slice x.ds.p x.ds.n x.ds.c, .slice x.se.p x.se.n x.se.c, .slice x.da.p x.da.n x.da.c] 40)).alloc (.cells #[.int .i64 0, .bool false, .slice none 0 0] 43) = w1 := ⟨_, rfl⟩
  have hb1 : Below w.heap.size w w1 := by rw [← hw1]; exact ((Below.refl _ w).alloc (Nat.le_refl _) _).alloc (by simp) _
  have hP1 : PvIn w1 w.heap.size x := by rw [← hw1]; exact (PvIn.new w x 40).alloc _
  have k0 : w1.cell? ⟨w.heap.size + 1, 0, none⟩ = some (.int .i64 0) := by rw [← hw1]; clear hw1 hP1 hb1; go_simp
  have k1 : w1.cell? ⟨w.heap.size + 1, 1, none⟩ = some (.bool false) := by rw [← hw1]; clear hw1 k0 hP1 hb1; go_simp
  have k2 : w1.cell? ⟨w.heap.size + 1, 2, none⟩ = some (.slice none 0 0) := by rw [← hw1]; clear hw1 k0 k1 hP1 hb1; go_simp
  have kf : ∀ j, w1.frozen? ⟨w.heap.size + 1, j, none⟩ = false := by rw [← hw1]; clear hw1 k0 k1 k2 hP1 hb1; intro j; go_simp
  have hsz : w1.heap.size = w.heap.size + 2 := by rw [← hw1]; simp
  have HB1 := hidden hb1
  have HBC := hidden (hB w1 hb1)
  have HP1 := hidden hP1
  clear hB hb1 hR
  rcases hcase with ⟨h1, rfl⟩ | ⟨h1, h2, rfl⟩ | ⟨h1, h2, h3, rfl⟩ | ⟨h1, h2, rfl, h4, rfl⟩ | ⟨h1, h2, rfl, h4, rfl⟩
  · obtain ⟨c0, -⟩ := hP1
    go_enter Tryd.func11, Tryd.ntmps11
    go_upto_region 1 with fail
    clear hw1
    have hst := HB1.out.setCell (p := ⟨w.heap.size + 1, 0, none⟩) (by simp) (.int .i64 0)
    have hst := hst.setCell (p := ⟨w.heap.size + 1, 1, none⟩) (by simp) (.bool false)
    have hst := hst.setCell (p := ⟨w.heap.size + 1, 2, none⟩) (by simp) (.slice none 0 0)
    have HST := hidden hst
    clear hst
    go_wp2
    exact ret_raw3 (g := w.heap.size + 1) rfl rfl rfl rfl (by go_simp) (by go_simp) (by go_simp) ⟨HST.out, Or.inr ⟨by decide, rfl⟩⟩
  · obtain ⟨c0, -⟩ := hP1
    go_enter Tryd.func11, Tryd.ntmps11
    go_upto_region 1 with fail
    clear hw1
    have hst := HB1.out.setCell (p := ⟨w.heap.size + 1, 0, none⟩) (by simp) (.int .i64 0)
    have hst := hst.setCell (p := ⟨w.heap.size + 1, 1, none⟩) (by simp) (.bool false)
    have hst := hst.setCell (p := ⟨w.heap.size + 1, 2, none⟩) (by simp) (.slice none 0 0)
    have HST := hidden hst
    clear hst
    go_wp2
    exact ret_raw3 (g := w.heap.size + 1) rfl rfl rfl rfl (by go_simp) (by go_simp) (by go_simp) ⟨HST.out, Or.inr ⟨by decide, rfl⟩⟩
  · go_enter Tryd.func11, Tryd.ntmps11
    go_upto_region 1 with fail
    clear hw1
    have HPC := hidden (fun W (hW : Below w1.heap.size w1 W) => (⟨cell_below hW _ _ k0, cell_below hW _ _ k1, cell_below hW _ _ k2, fun j => (World.frozen?_of_block (a := ⟨w.heap.size + 1, j, none⟩) (hW.block (w.heap.size + 1) (by omega))).trans (kf j), HP1.out.below hW, HB1.out.trans (hW.mono HB1.out.size)⟩ : W.cell? ⟨w.heap.size + 1, 0, none⟩ = some (.int .i64 0) ∧ W.cell? ⟨w.heap.size + 1, 1, none⟩ = some (.bool false) ∧ W.cell? ⟨w.heap.size + 1, 2, none⟩ = some (.slice none 0 0) ∧ (∀ j, W.frozen? ⟨w.heap.size + 1, j, none⟩ = false) ∧ PvIn W w.heap.size x ∧ Below w.heap.size w W))
    obtain ⟨c0, c1, c2, c3, c4, c5, c6, c7, c8, c9, c10, c11, c12, c13, c14, c15, cf⟩ := hP1
    clear k0 k1 k2 kf
    go_upto_region 4 with (first
      | (go_at_call 29; (with_reducible refine (HBC.out).mono ?_); rintro e w5 ⟨q5, d5, rfl, hf5, hb5⟩; have HF5 := hidden (hf5.mono (show w.heap.size + 2 ≤ w1.heap.size from by omega)); have HB5 := hidden hb5; obtain ⟨k0, k1, k2, kf, hP5, hbw⟩ := HPC.out w5 hb5; have HBW := hidden hbw; clear hf5 hb5 hbw)
      | fail)
    clear c0 c1 c2 c3 c4 c5 c6 c7 c8 c9 c10 c11 c12 c13 c14 c15 cf
    obtain ⟨c0, -⟩ := hP5
    have hst := HBW.out.setCell (p := ⟨w.heap.size + 1, 0, none⟩) (by simp) (.int .i64 0)
    have hst := hst.setCell (p := ⟨w.heap.size + 1, 1, none⟩) (by simp) (.bool false)
    have hst := hst.setCell (p := ⟨w.heap.size + 1, 2, none⟩) (by simp) (.slice none 0 0)
    have HST := hidden hst
    clear hst
    have hne : (R != 0) = true := by simpa using h3
    go_wp2
    exact ret_raw3 (g := w.heap.size + 1) rfl rfl rfl rfl (by go_simp) (by go_simp) (by go_simp) ⟨HST.out, Or.inr ⟨h3, rfl⟩⟩
  · go_enter Tryd.func11, Tryd.ntmps11
    go_upto_region 1 with fail
    clear hw1
    have HPC := hidden (fun W (hW : Below w1.heap.size w1 W) => (⟨cell_below hW _ _ k0, cell_below hW _ _ k1, cell_below hW _ _ k2, fun j => (World.frozen?_of_block (a := ⟨w.heap.size + 1, j, none⟩) (hW.block (w.heap.size + 1) (by omega))).trans (kf j), HP1.out.below hW, HB1.out.trans (hW.mono HB1.out.size)⟩ : W.cell? ⟨w.heap.size + 1, 0, none⟩ = some (.int .i64 0) ∧ W.cell? ⟨w.heap.size + 1, 1, none⟩ = some (.bool false) ∧ W.cell? ⟨w.heap.size + 1, 2, none⟩ = some (.slice none 0 0) ∧ (∀ j, W.frozen? ⟨w.heap.size + 1, j, none⟩ = false) ∧ PvIn W w.heap.size x ∧ Below w.heap.size w W))
    obtain ⟨c0, c1, c2, c3, c4, c5, c6, c7, c8, c9, c10, c11, c12, c13, c14, c15, cf⟩ := hP1
    clear k0 k1 k2 kf
    go_upto_region 4 with (first
      | (go_at_call 29; (with_reducible refine (HBC.out).mono ?_); rintro e w5 ⟨q5, d5, rfl, hf5, hb5⟩; have HF5 := hidden (hf5.mono (show w.heap.size + 2 ≤ w1.heap.size from by omega)); have HB5 := hidden hb5; obtain ⟨k0, k1, k2, kf, hP5, hbw⟩ := HPC.out w5 hb5; have HBW := hidden hbw; clear hf5 hb5 hbw)
      | fail)
    clear c0 c1 c2 c3 c4 c5 c6 c7 c8 c9 c10 c11 c12 c13 c14 c15 cf
    obtain ⟨c0, -⟩ := hP5
    have hst := HBW.out.setCell (p := ⟨w.heap.size + 1, 0, none⟩) (by simp) (.int .i64 0)
    have hst := hst.setCell (p := ⟨w.heap.size + 1, 1, none⟩) (by simp) (.bool false)
    have hst := hst.setCell (p := ⟨w.heap.size + 1, 2, none⟩) (by simp) (.slice none 0 0)
    have HST := hidden hst
    clear hst
    have hgt : (65531 : Int) < (L.length : Int) := by omega
    go_wp2
    exact ret_raw3 (g := w.heap.size + 1) rfl rfl rfl rfl (by go_simp) (by go_simp) (by go_simp) ⟨HST.out, Or.inr ⟨by decide, rfl⟩⟩
  · go_enter Tryd.func11, Tryd.ntmps11
    go_upto_region 1 with fail
    clear hw1
    have HPC := hidden (fun W (hW : Below w1.heap.size w1 W) => (⟨cell_below hW _ _ k0, cell_below hW _ _ k1, cell_below hW _ _ k2, fun j => (World.frozen?_of_block (a := ⟨w.heap.size + 1, j, none⟩) (hW.block (w.heap.size + 1) (by omega))).trans (kf j), HP1.out.below hW, HB1.out.trans (hW.mono HB1.out.size)⟩ : W.cell? ⟨w.heap.size + 1, 0, none⟩ = some (.int .i64 0) ∧ W.cell? ⟨w.heap.size + 1, 1, none⟩ = some (.bool false) ∧ W.cell? ⟨w.heap.size + 1, 2, none⟩ = some (.slice none 0 0) ∧ (∀ j, W.frozen? ⟨w.heap.size + 1, j, none⟩ = false) ∧ PvIn W w.heap.size x ∧ Below w.heap.size w W))
    obtain ⟨c0, c1, c2, c3, c4, c5, c6, c7, c8, c9, c10, c11, c12, c13, c14, c15, cf⟩ := hP1
    clear k0 k1 k2 kf
    go_upto_region 4 with (first
      | (go_at_call 29; (with_reducible refine (HBC.out).mono ?_); rintro e w5 ⟨q5, d5, rfl, hf5, hb5⟩; have HF5 := hidden (hf5.mono (show w.heap.size + 2 ≤ w1.heap.size from by omega)); have HB5 := hidden hb5; obtain ⟨k0, k1, k2, kf, hP5, hbw⟩ := HPC.out w5 hb5; have HBW := hidden hbw; clear hf5 hb5 hbw)
      | fail)
    clear c0 c1 c2 c3 c4 c5 c6 c7 c8 c9 c10 c11 c12 c13 c14 c15 cf
    obtain ⟨c0, -⟩ := hP5
    have hst := HBW.out.setCell (p := ⟨w.heap.size + 1, 0, none⟩) (by simp) (.int .i64 x.t)
    have hst := hst.setCell (p := ⟨w.heap.size + 1, 1, none⟩) (by simp) (.bool false)
    have hst := hst.setCell (p := ⟨w.heap.size + 1, 2, none⟩) (by simp) (.slice q5 L.length d5)
    have hff := ((HF5.out.low (grown_set w5 (w.heap.size + 1) 0 (.int .i64 x.t)) (by omega)).low (grown_set _ (w.heap.size + 1) 1 (.bool false)) (by omega)).low (grown_set _ (w.heap.size + 1) 2 (.slice q5 L.length d5)) (by omega)
    have HFF := hidden (hff.mono (show w.heap.size ≤ w.heap.size + 2 from by omega))
    clear hff
    have HST := hidden hst
    clear hst
    have hgt : ¬ (65531 : Int) < (L.length : Int) := by omega
    go_wp2
    exact ret_raw3 (g := w.heap.size + 1) rfl rfl rfl rfl (by go_simp) (by go_simp) (by go_simp) ⟨HST.out, Or.inl ⟨rfl, q5, d5, rfl, HFF.out⟩⟩
end Go.Proofs.YtpocehpejbnemaaDoor
