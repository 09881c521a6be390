/-
  A whole payload stored over the last one of a row; the cells of a payload in a block of its own.
-/
import Derived.Test.YtnnbfhjbaagnkaaQMsgAll
import Derived.Deep.Cut
namespace Go.Proofs.Ytnnbfhjbaagnkaa
open Go.RowKit
set_option linter.unusedVariables false

theorem set_off (A t : List Value) (o i : Nat) (v : Value) (h : A.length = o) : (A ++ t).set (o + i) v = A ++ t.set i v := by
  rw [List.set_append_right _ _ (by omega), h, Nat.add_sub_cancel_left]
theorem set_off0 (A t : List Value) (o : Nat) (v : Value) (h : A.length = o) : (A ++ t).set o v = A ++ t.set 0 v := set_off A t o 0 v h
theorem cells16 {w : World} {g o : Nat} {y : Pv} (h : ∀ j u, (KPv.cs y)[j]? = some u → w.cell? ⟨g, o + j, none⟩ = some u) :
    w.cell? ⟨g, o, none⟩ = some (.int .i64 y.t) ∧ w.cell? ⟨g, o + 1, none⟩ = some (.slice y.pr.p y.pr.n y.pr.c) ∧ w.cell? ⟨g, o + 2, none⟩ = some (.int .i64 y.eg) ∧ w.cell? ⟨g, o + 3, none⟩ = some (.slice y.ed.p y.ed.n y.ed.c) ∧ w.cell? ⟨g, o + 4, none⟩ = some (.int .i64 y.ik) ∧ w.cell? ⟨g, o + 5, none⟩ = some (.slice y.id.p y.id.n y.id.c) ∧ w.cell? ⟨g, o + 6, none⟩ = some (.int .i64 y.am) ∧ w.cell? ⟨g, o + 7, none⟩ = some (.slice y.ad.p y.ad.n y.ad.c) ∧ w.cell? ⟨g, o + 8, none⟩ = some (.int .i64 y.np) ∧ w.cell? ⟨g, o + 9, none⟩ = some (.slice y.ns.p y.ns.n y.ns.c) ∧ w.cell? ⟨g, o + 10, none⟩ = some (.int .i64 y.nt) ∧ w.cell? ⟨g, o + 11, none⟩ = some (.slice y.nd.p y.nd.n y.nd.c) ∧ w.cell? ⟨g, o + 12, none⟩ = some (.int .i64 y.dp) ∧ w.cell? ⟨g, o + 13, none⟩ = some (.slice y.ds.p y.ds.n y.ds.c) ∧ w.cell? ⟨g, o + 14, none⟩ = some (.slice y.se.p y.se.n y.se.c) ∧ w.cell? ⟨g, o + 15, none⟩ = some (.slice y.da.p y.da.n y.da.c) :=
  ⟨h 0 _ rfl, h 1 _ rfl, h 2 _ rfl, h 3 _ rfl, h 4 _ rfl, h 5 _ rfl, h 6 _ rfl, h 7 _ rfl, h 8 _ rfl, h 9 _ rfl, h 10 _ rfl, h 11 _ rfl, h 12 _ rfl, h 13 _ rfl, h 14 _ rfl, h 15 _ rfl⟩
theorem cells16z {w : World} {g : Nat} {y : Pv} (h : ∀ j u, (KPv.cs y)[j]? = some u → w.cell? ⟨g, j, none⟩ = some u) :
    w.cell? ⟨g, 0, none⟩ = some (.int .i64 y.t) ∧ w.cell? ⟨g, 1, none⟩ = some (.slice y.pr.p y.pr.n y.pr.c) ∧ w.cell? ⟨g, 2, none⟩ = some (.int .i64 y.eg) ∧ w.cell? ⟨g, 3, none⟩ = some (.slice y.ed.p y.ed.n y.ed.c) ∧ w.cell? ⟨g, 4, none⟩ = some (.int .i64 y.ik) ∧ w.cell? ⟨g, 5, none⟩ = some (.slice y.id.p y.id.n y.id.c) ∧ w.cell? ⟨g, 6, none⟩ = some (.int .i64 y.am) ∧ w.cell? ⟨g, 7, none⟩ = some (.slice y.ad.p y.ad.n y.ad.c) ∧ w.cell? ⟨g, 8, none⟩ = some (.int .i64 y.np) ∧ w.cell? ⟨g, 9, none⟩ = some (.slice y.ns.p y.ns.n y.ns.c) ∧ w.cell? ⟨g, 10, none⟩ = some (.int .i64 y.nt) ∧ w.cell? ⟨g, 11, none⟩ = some (.slice y.nd.p y.nd.n y.nd.c) ∧ w.cell? ⟨g, 12, none⟩ = some (.int .i64 y.dp) ∧ w.cell? ⟨g, 13, none⟩ = some (.slice y.ds.p y.ds.n y.ds.c) ∧ w.cell? ⟨g, 14, none⟩ = some (.slice y.se.p y.se.n y.se.c) ∧ w.cell? ⟨g, 15, none⟩ = some (.slice y.da.p y.da.n y.da.c) :=
  ⟨h 0 _ rfl, h 1 _ rfl, h 2 _ rfl, h 3 _ rfl, h 4 _ rfl, h 5 _ rfl, h 6 _ rfl, h 7 _ rfl, h 8 _ rfl, h 9 _ rfl, h 10 _ rfl, h 11 _ rfl, h 12 _ rfl, h 13 _ rfl, h 14 _ rfl, h 15 _ rfl⟩
/-- A whole payload stored over the last one. -/
theorem RowG.setLast {w : World} {base g n c : Nat} {l : List Pv} {y : Pv} (h : RowG KPv NTv w base (.slice (some ⟨g, 0, none⟩) (n + 1) c) (l ++ [y])) (hn : l.length = n) (q : Pv) :
    RowG KPv NTv ((((((((((((((((w.setCell ⟨g, n * 16, none⟩ (.int .i64 q.t)).setCell ⟨g, n * 16 + 1, none⟩ (.slice q.pr.p q.pr.n q.pr.c)).setCell ⟨g, n * 16 + 2, none⟩ (.int .i64 q.eg)).setCell ⟨g, n * 16 + 3, none⟩ (.slice q.ed.p q.ed.n q.ed.c)).setCell ⟨g, n * 16 + 4, none⟩ (.int .i64 q.ik)).setCell ⟨g, n * 16 + 5, none⟩ (.slice q.id.p q.id.n q.id.c)).setCell ⟨g, n * 16 + 6, none⟩ (.int .i64 q.am)).setCell ⟨g, n * 16 + 7, none⟩ (.slice q.ad.p q.ad.n q.ad.c)).setCell ⟨g, n * 16 + 8, none⟩ (.int .i64 q.np)).setCell ⟨g, n * 16 + 9, none⟩ (.slice q.ns.p q.ns.n q.ns.c)).setCell ⟨g, n * 16 + 10, none⟩ (.int .i64 q.nt)).setCell ⟨g, n * 16 + 11, none⟩ (.slice q.nd.p q.nd.n q.nd.c)).setCell ⟨g, n * 16 + 12, none⟩ (.int .i64 q.dp)).setCell ⟨g, n * 16 + 13, none⟩ (.slice q.ds.p q.ds.n q.ds.c)).setCell ⟨g, n * 16 + 14, none⟩ (.slice q.se.p q.se.n q.se.c)).setCell ⟨g, n * 16 + 15, none⟩ (.slice q.da.p q.da.n q.da.c)) base (.slice (some ⟨g, 0, none⟩) (n + 1) c) (l ++ [q]) := by
  refine ⟨?_, fun x hx => trivial⟩
  have hA : (KPv.row l).length = n * 16 := by rw [KPv.row_len, hn]; rfl
  have h0 := h.own
  have hy : KPv.row (l ++ [y]) = KPv.row l ++ [.int .i64 y.t, .slice y.pr.p y.pr.n y.pr.c, .int .i64 y.eg, .slice y.ed.p y.ed.n y.ed.c, .int .i64 y.ik, .slice y.id.p y.id.n y.id.c, .int .i64 y.am, .slice y.ad.p y.ad.n y.ad.c, .int .i64 y.np, .slice y.ns.p y.ns.n y.ns.c, .int .i64 y.nt, .slice y.nd.p y.nd.n y.nd.c, .int .i64 y.dp, .slice y.ds.p y.ds.n y.ds.c, .slice y.se.p y.se.n y.se.c, .slice y.da.p y.da.n y.da.c] := by rw [KPv.row_append]; rfl
  have hq : KPv.row (l ++ [q]) = KPv.row l ++ [.int .i64 q.t, .slice q.pr.p q.pr.n q.pr.c, .int .i64 q.eg, .slice q.ed.p q.ed.n q.ed.c, .int .i64 q.ik, .slice q.id.p q.id.n q.id.c, .int .i64 q.am, .slice q.ad.p q.ad.n q.ad.c, .int .i64 q.np, .slice q.ns.p q.ns.n q.ns.c, .int .i64 q.nt, .slice q.nd.p q.nd.n q.nd.c, .int .i64 q.dp, .slice q.ds.p q.ds.n q.ds.c, .slice q.se.p q.se.n q.se.c, .slice q.da.p q.da.n q.da.c] := by rw [KPv.row_append]; rfl
  rw [List.length_append, hn, hy] at h0
  rw [List.length_append, hn, hq]
  have k0 := (World.ownsRow.stored h0 (n * 16) (.int .i64 q.t)).1
  rw [set_off0 _ _ _ _ hA] at k0
  have k1 := (World.ownsRow.stored k0 (n * 16 + 1) (.slice q.pr.p q.pr.n q.pr.c)).1
  rw [set_off _ _ _ _ _ hA] at k1
  have k2 := (World.ownsRow.stored k1 (n * 16 + 2) (.int .i64 q.eg)).1
  rw [set_off _ _ _ _ _ hA] at k2
  have k3 := (World.ownsRow.stored k2 (n * 16 + 3) (.slice q.ed.p q.ed.n q.ed.c)).1
  rw [set_off _ _ _ _ _ hA] at k3
  have k4 := (World.ownsRow.stored k3 (n * 16 + 4) (.int .i64 q.ik)).1
  rw [set_off _ _ _ _ _ hA] at k4
  have k5 := (World.ownsRow.stored k4 (n * 16 + 5) (.slice q.id.p q.id.n q.id.c)).1
  rw [set_off _ _ _ _ _ hA] at k5
  have k6 := (World.ownsRow.stored k5 (n * 16 + 6) (.int .i64 q.am)).1
  rw [set_off _ _ _ _ _ hA] at k6
  have k7 := (World.ownsRow.stored k6 (n * 16 + 7) (.slice q.ad.p q.ad.n q.ad.c)).1
  rw [set_off _ _ _ _ _ hA] at k7
  have k8 := (World.ownsRow.stored k7 (n * 16 + 8) (.int .i64 q.np)).1
  rw [set_off _ _ _ _ _ hA] at k8
  have k9 := (World.ownsRow.stored k8 (n * 16 + 9) (.slice q.ns.p q.ns.n q.ns.c)).1
  rw [set_off _ _ _ _ _ hA] at k9
  have k10 := (World.ownsRow.stored k9 (n * 16 + 10) (.int .i64 q.nt)).1
  rw [set_off _ _ _ _ _ hA] at k10
  have k11 := (World.ownsRow.stored k10 (n * 16 + 11) (.slice q.nd.p q.nd.n q.nd.c)).1
  rw [set_off _ _ _ _ _ hA] at k11
  have k12 := (World.ownsRow.stored k11 (n * 16 + 12) (.int .i64 q.dp)).1
  rw [set_off _ _ _ _ _ hA] at k12
  have k13 := (World.ownsRow.stored k12 (n * 16 + 13) (.slice q.ds.p q.ds.n q.ds.c)).1
  rw [set_off _ _ _ _ _ hA] at k13
  have k14 := (World.ownsRow.stored k13 (n * 16 + 14) (.slice q.se.p q.se.n q.se.c)).1
  rw [set_off _ _ _ _ _ hA] at k14
  have k15 := (World.ownsRow.stored k14 (n * 16 + 15) (.slice q.da.p q.da.n q.da.c)).1
  rw [set_off _ _ _ _ _ hA] at k15
  exact k15
end Go.Proofs.Ytnnbfhjbaagnkaa
