/-
  A payload as a value of sixteen cells: in a block, loaded, stored, returned.
-/
import Derived.Test.YtpocehpejbnemaaDoorRZ1
import Derived.Test.YtpocehpejbnemaaDoorRows
namespace Go.Proofs.YtpocehpejbnemaaDoor
open Go.RowKit
set_option linter.unusedVariables false

/-- A slice value. -/
structure Sv where
  p : Option Addr
  n : Nat
  c : Nat
def nilV : Sv := ⟨none, 0, 0⟩
/-- A payload: its sixteen cells. -/
structure Pv where
  t : Int
  pr : Sv
  eg : Int
  ed : Sv
  ik : Int
  id : Sv
  am : Int
  ad : Sv
  np : Int
  ns : Sv
  nt : Int
  nd : Sv
  dp : Int
  ds : Sv
  se : Sv
  da : Sv
/-- The payload lies at block g from its first cell on. -/
structure PvIn (w : World) (g : Nat) (x : Pv) : Prop where
  c0 : w.cell? ⟨g, 0, none⟩ = some (.int .i64 x.t)
  c1 : w.cell? ⟨g, 1, none⟩ = some (.slice x.pr.p x.pr.n x.pr.c)
  c2 : w.cell? ⟨g, 2, none⟩ = some (.int .i64 x.eg)
  c3 : w.cell? ⟨g, 3, none⟩ = some (.slice x.ed.p x.ed.n x.ed.c)
  c4 : w.cell? ⟨g, 4, none⟩ = some (.int .i64 x.ik)
  c5 : w.cell? ⟨g, 5, none⟩ = some (.slice x.id.p x.id.n x.id.c)
  c6 : w.cell? ⟨g, 6, none⟩ = some (.int .i64 x.am)
  c7 : w.cell? ⟨g, 7, none⟩ = some (.slice x.ad.p x.ad.n x.ad.c)
  c8 : w.cell? ⟨g, 8, none⟩ = some (.int .i64 x.np)
  c9 : w.cell? ⟨g, 9, none⟩ = some (.slice x.ns.p x.ns.n x.ns.c)
  c10 : w.cell? ⟨g, 10, none⟩ = some (.int .i64 x.nt)
  c11 : w.cell? ⟨g, 11, none⟩ = some (.slice x.nd.p x.nd.n x.nd.c)
  c12 : w.cell? ⟨g, 12, none⟩ = some (.int .i64 x.dp)
  c13 : w.cell? ⟨g, 13, none⟩ = some (.slice x.ds.p x.ds.n x.ds.c)
  c14 : w.cell? ⟨g, 14, none⟩ = some (.slice x.se.p x.se.n x.se.c)
  c15 : w.cell? ⟨g, 15, none⟩ = some (.slice x.da.p x.da.n x.da.c)
  fr : ∀ j, w.frozen? ⟨g, j, none⟩ = false
section
variable {w w' : World} {g : Nat} {x : Pv}
theorem PvIn.lt (h : PvIn w g x) : g < w.heap.size := World.block_lt_of_cell? w _ h.c0
theorem PvIn.grown {row : Option Nat} (h : PvIn w g x) (hg : w.grownBy w' row) (hne : some g ≠ row) : PvIn w' g x :=
  ⟨hg.cell h.c0 hne, hg.cell h.c1 hne, hg.cell h.c2 hne, hg.cell h.c3 hne, hg.cell h.c4 hne, hg.cell h.c5 hne, hg.cell h.c6 hne, hg.cell h.c7 hne, hg.cell h.c8 hne, hg.cell h.c9 hne, hg.cell h.c10 hne, hg.cell h.c11 hne, hg.cell h.c12 hne, hg.cell h.c13 hne, hg.cell h.c14 hne, hg.cell h.c15 hne, fun j => (World.frozen?_of_block (a := ⟨g, j, none⟩) (hg.block g h.lt hne)).trans (h.fr j)⟩
theorem PvIn.below (h : PvIn w g x) (hb : Below w.heap.size w w') : PvIn w' g x := h.grown (row := none) (grown_of_below hb none) (by simp)
theorem PvIn.alloc (h : PvIn w g x) (b : Obj) : PvIn (w.alloc b) g x := h.below ((Below.refl _ _).alloc (Nat.le_refl _) b)
theorem PvIn.new (w : World) (x : Pv) (T : TypeId) : PvIn (w.alloc (.cells #[.int .i64 x.t, .slice x.pr.p x.pr.n x.pr.c, .int .i64 x.eg, .slice x.ed.p x.ed.n x.ed.c, .int .i64 x.ik, .slice x.id.p x.id.n x.id.c, .int .i64 x.am, .slice x.ad.p x.ad.n x.ad.c, .int .i64 x.np, .slice x.ns.p x.ns.n x.ns.c, .int .i64 x.nt, .slice x.nd.p x.nd.n x.nd.c, .int .i64 x.dp, .slice x.ds.p x.ds.n x.ds.c, .slice x.se.p x.se.n x.se.c, .slice x.da.p x.da.n x.da.c] T)) w.heap.size x :=
  ⟨by go_simp, by go_simp, by go_simp, by go_simp, by go_simp, by go_simp, by go_simp, by go_simp, by go_simp, by go_simp, by go_simp, by go_simp, by go_simp, by go_simp, by go_simp, by go_simp, fun j => by go_simp⟩
theorem PvIn.set_ne (h : PvIn w g x) (g' j : Nat) (v : Value) (hne : g ≠ g') : PvIn (w.setCell ⟨g', j, none⟩ v) g x :=
  h.grown (grown_set w g' j v) (by simp; exact hne)
theorem PvIn.setT (h : PvIn w g x) (z : Int) : PvIn (w.setCell ⟨g, 0, none⟩ (.int .i64 z)) g { x with t := z } := by
  obtain ⟨c0, c1, c2, c3, c4, c5, c6, c7, c8, c9, c10, c11, c12, c13, c14, c15, fr⟩ := h
  exact ⟨by go_simp, by go_simp, by go_simp, by go_simp, by go_simp, by go_simp, by go_simp, by go_simp, by go_simp, by go_simp, by go_simp, by go_simp, by go_simp, by go_simp, by go_simp, by go_simp, fun j => by rw [World.frozen?_setCell]; exact fr j⟩
/-- The whole payload stored. -/
def setPv (w : World) (g : Nat) (z : Pv) : World := ((((((((((((((((w.setCell ⟨g, 0, none⟩ (.int .i64 z.t)).setCell ⟨g, 1, none⟩ (.slice z.pr.p z.pr.n z.pr.c)).setCell ⟨g, 2, none⟩ (.int .i64 z.eg)).setCell ⟨g, 3, none⟩ (.slice z.ed.p z.ed.n z.ed.c)).setCell ⟨g, 4, none⟩ (.int .i64 z.ik)).setCell ⟨g, 5, none⟩ (.slice z.id.p z.id.n z.id.c)).setCell ⟨g, 6, none⟩ (.int .i64 z.am)).setCell ⟨g, 7, none⟩ (.slice z.ad.p z.ad.n z.ad.c)).setCell ⟨g, 8, none⟩ (.int .i64 z.np)).setCell ⟨g, 9, none⟩ (.slice z.ns.p z.ns.n z.ns.c)).setCell ⟨g, 10, none⟩ (.int .i64 z.nt)).setCell ⟨g, 11, none⟩ (.slice z.nd.p z.nd.n z.nd.c)).setCell ⟨g, 12, none⟩ (.int .i64 z.dp)).setCell ⟨g, 13, none⟩ (.slice z.ds.p z.ds.n z.ds.c)).setCell ⟨g, 14, none⟩ (.slice z.se.p z.se.n z.se.c)).setCell ⟨g, 15, none⟩ (.slice z.da.p z.da.n z.da.c))
theorem setPv_frozen (w : World) (g : Nat) (z : Pv) (a : Addr) : (setPv w g z).frozen? a = w.frozen? a := by
  unfold setPv
  simp only [World.frozen?_setCell]
theorem setPv_in (h : PvIn w g x) (z : Pv) : PvIn (setPv w g z) g z := by
  have hf := setPv_frozen w g z
  obtain ⟨c0, c1, c2, c3, c4, c5, c6, c7, c8, c9, c10, c11, c12, c13, c14, c15, fr⟩ := h
  unfold setPv at hf ⊢
  exact ⟨by go_simp, by go_simp, by go_simp, by go_simp, by go_simp, by go_simp, by go_simp, by go_simp, by go_simp, by go_simp, by go_simp, by go_simp, by go_simp, by go_simp, by go_simp, by go_simp, fun j => by rw [hf]; exact fr j⟩
theorem setPv_grown (w : World) (g : Nat) (z : Pv) : w.grownBy (setPv w g z) (some g) := by
  unfold setPv
  exact grown_trans (grown_trans (grown_trans (grown_trans (grown_trans (grown_trans (grown_trans (grown_trans (grown_trans (grown_trans (grown_trans (grown_trans (grown_trans (grown_trans (grown_trans (grown_set _ g 0 _) (grown_set _ g 1 _)) (grown_set _ g 2 _)) (grown_set _ g 3 _)) (grown_set _ g 4 _)) (grown_set _ g 5 _)) (grown_set _ g 6 _)) (grown_set _ g 7 _)) (grown_set _ g 8 _)) (grown_set _ g 9 _)) (grown_set _ g 10 _)) (grown_set _ g 11 _)) (grown_set _ g 12 _)) (grown_set _ g 13 _)) (grown_set _ g 14 _)) (grown_set _ g 15 _)
theorem setPv_ne {g' : Nat} (h : PvIn w g' x) (z : Pv) (hne : g' ≠ g) : PvIn (setPv w g z) g' x := h.grown (setPv_grown w g z) (by simp; exact hne)
end
theorem PvIn.any {w : World} {g : Nat} {x : Pv} (h : PvIn w g x) : ∃ y0 y1 y2 y3 y4 y5 y6 y7 y8 y9 y10 y11 y12 y13 y14 y15, w.cell? ⟨g, 0, none⟩ = some y0 ∧ w.cell? ⟨g, 1, none⟩ = some y1 ∧ w.cell? ⟨g, 2, none⟩ = some y2 ∧ w.cell? ⟨g, 3, none⟩ = some y3 ∧ w.cell? ⟨g, 4, none⟩ = some y4 ∧ w.cell? ⟨g, 5, none⟩ = some y5 ∧ w.cell? ⟨g, 6, none⟩ = some y6 ∧ w.cell? ⟨g, 7, none⟩ = some y7 ∧ w.cell? ⟨g, 8, none⟩ = some y8 ∧ w.cell? ⟨g, 9, none⟩ = some y9 ∧ w.cell? ⟨g, 10, none⟩ = some y10 ∧ w.cell? ⟨g, 11, none⟩ = some y11 ∧ w.cell? ⟨g, 12, none⟩ = some y12 ∧ w.cell? ⟨g, 13, none⟩ = some y13 ∧ w.cell? ⟨g, 14, none⟩ = some y14 ∧ w.cell? ⟨g, 15, none⟩ = some y15 ∧ ∀ j, w.frozen? ⟨g, j, none⟩ = false := by
  obtain ⟨c0, c1, c2, c3, c4, c5, c6, c7, c8, c9, c10, c11, c12, c13, c14, c15, fr⟩ := h
  exact ⟨_, _, _, _, _, _, _, _, _, _, _, _, _, _, _, _, c0, c1, c2, c3, c4, c5, c6, c7, c8, c9, c10, c11, c12, c13, c14, c15, fr⟩
theorem stored_pv {w W : World} {g : Nat} {z : Pv} (h : PvIn W g z) (hb : Below w.heap.size w W) (hg : w.heap.size ≤ g) (x : Pv) : PvIn (setPv W g x) g x ∧ Below w.heap.size w (setPv W g x) :=
  ⟨setPv_in h x, hb.grown (setPv_grown W g x) hb.size (fun j hj => by cases hj; exact hg)⟩
theorem load_pv {w : World} {g : Nat} {x : Pv} (h : PvIn w g x) : (loadVar 40 ⟨g, 0, none⟩).run Tryd.prog w = .ok (.agg #[.int .i64 x.t, .slice x.pr.p x.pr.n x.pr.c, .int .i64 x.eg, .slice x.ed.p x.ed.n x.ed.c, .int .i64 x.ik, .slice x.id.p x.id.n x.id.c, .int .i64 x.am, .slice x.ad.p x.ad.n x.ad.c, .int .i64 x.np, .slice x.ns.p x.ns.n x.ns.c, .int .i64 x.nt, .slice x.nd.p x.nd.n x.nd.c, .int .i64 x.dp, .slice x.ds.p x.ds.n x.ds.c, .slice x.se.p x.se.n x.se.c, .slice x.da.p x.da.n x.da.c]) w := by
  obtain ⟨c0, c1, c2, c3, c4, c5, c6, c7, c8, c9, c10, c11, c12, c13, c14, c15, fr⟩ := h
  simp [loadVar, go_sem, c0, c1, c2, c3, c4, c5, c6, c7, c8, c9, c10, c11, c12, c13, c14, c15, Result.andThen]
theorem ret_pv {fn : Func} {R : Ending → World → Prop} {a : Act} {w : World} {p u : Nat} {g : Nat} {x : Pv} {v : Value} (h : fn.results = #[.cell p 40, .tmp u]) (hp : a.tmps.getD p undef = .pointer (some ⟨g, 0, none⟩)) (hu : a.tmps.getD u undef = v) (hd : a.defers = [])
    (hh : PvIn w g x) (hR : R (.returned (.tuple #[(.agg #[.int .i64 x.t, .slice x.pr.p x.pr.n x.pr.c, .int .i64 x.eg, .slice x.ed.p x.ed.n x.ed.c, .int .i64 x.ik, .slice x.id.p x.id.n x.id.c, .int .i64 x.am, .slice x.ad.p x.ad.n x.ad.c, .int .i64 x.np, .slice x.ns.p x.ns.n x.ns.c, .int .i64 x.nt, .slice x.nd.p x.nd.n x.nd.c, .int .i64 x.dp, .slice x.ds.p x.ds.n x.ds.c, .slice x.se.p x.se.n x.se.c, .slice x.da.p x.da.n x.da.c]), v])) w) : bodyPost Tryd.prog fn R .ret a w := by
  refine bodyPost_ret (v := .tuple #[(.agg #[.int .i64 x.t, .slice x.pr.p x.pr.n x.pr.c, .int .i64 x.eg, .slice x.ed.p x.ed.n x.ed.c, .int .i64 x.ik, .slice x.id.p x.id.n x.id.c, .int .i64 x.am, .slice x.ad.p x.ad.n x.ad.c, .int .i64 x.np, .slice x.ns.p x.ns.n x.ns.c, .int .i64 x.nt, .slice x.nd.p x.nd.n x.nd.c, .int .i64 x.dp, .slice x.ds.p x.ds.n x.ds.c, .slice x.se.p x.se.n x.se.c, .slice x.da.p x.da.n x.da.c]), v]) ?_ hd hR
  rw [Array.getD_eq_getD_getElem?] at hp hu
  simp [results, h, hp, hu, asAddr, load_pv hh, Result.andThen]
def zeroP : Pv := ⟨0, nilV, 0, nilV, 0, nilV, 0, nilV, 0, nilV, 0, nilV, 0, nilV, nilV, nilV⟩
end Go.Proofs.YtpocehpejbnemaaDoor
