/-
  Steps of a region over whole payloads: a load, a literal of one, a store over the last of a row.
-/
import Derived.Test.YtnnbfhjbaagnkaaQMsgLast
import Derived.WalkKit
namespace Go.Proofs.Ytnnbfhjbaagnkaa
open Go.RowKit
set_option linter.unusedVariables false

/-- The block g holds this value as a payload. -/
structure PvB (w : World) (g : Nat) (v : Value) : Prop where
  run : (loadVar 50 ⟨g, 0, none⟩).run Try.prog w = .ok v w
theorem pvB {w : World} {g : Nat} {y : Pv} (h : ∀ j u, (KPv.cs y)[j]? = some u → w.cell? ⟨g, j, none⟩ = some u) : PvB w g (.agg #[.int .i64 y.t, .slice y.pr.p y.pr.n y.pr.c, .int .i64 y.eg, .slice y.ed.p y.ed.n y.ed.c, .int .i64 y.ik, .slice y.id.p y.id.n y.id.c, .int .i64 y.am, .slice y.ad.p y.ad.n y.ad.c, .int .i64 y.np, .slice y.ns.p y.ns.n y.ns.c, .int .i64 y.nt, .slice y.nd.p y.nd.n y.nd.c, .int .i64 y.dp, .slice y.ds.p y.ds.n y.ds.c, .slice y.se.p y.se.n y.se.c, .slice y.da.p y.da.n y.da.c]) := by
  obtain ⟨y0, y1, y2, y3, y4, y5, y6, y7, y8, y9, y10, y11, y12, y13, y14, y15⟩ := cells16z h
  constructor
  simp [loadVar, go_sem, y0, y1, y2, y3, y4, y5, y6, y7, y8, y9, y10, y11, y12, y13, y14, y15, Result.andThen]

theorem frz16 {w : World} {g o : Nat} (h : ∀ j, w.frozen? ⟨g, j, none⟩ = false) : w.frozen? ⟨g, o, none⟩ = false ∧ w.frozen? ⟨g, o + 1, none⟩ = false ∧ w.frozen? ⟨g, o + 2, none⟩ = false ∧ w.frozen? ⟨g, o + 3, none⟩ = false ∧ w.frozen? ⟨g, o + 4, none⟩ = false ∧ w.frozen? ⟨g, o + 5, none⟩ = false ∧ w.frozen? ⟨g, o + 6, none⟩ = false ∧ w.frozen? ⟨g, o + 7, none⟩ = false ∧ w.frozen? ⟨g, o + 8, none⟩ = false ∧ w.frozen? ⟨g, o + 9, none⟩ = false ∧ w.frozen? ⟨g, o + 10, none⟩ = false ∧ w.frozen? ⟨g, o + 11, none⟩ = false ∧ w.frozen? ⟨g, o + 12, none⟩ = false ∧ w.frozen? ⟨g, o + 13, none⟩ = false ∧ w.frozen? ⟨g, o + 14, none⟩ = false ∧ w.frozen? ⟨g, o + 15, none⟩ = false :=
  ⟨h _, h _, h _, h _, h _, h _, h _, h _, h _, h _, h _, h _, h _, h _, h _, h _⟩
set_option maxHeartbeats 1600000 in
/-- A whole payload stored over the last one of a row of the call's own. -/
theorem store_last {w : World} {base g n c : Nat} {l : List Pv} {y : Pv} (hr : RowG KPv NTv w base (.slice (some ⟨g, 0, none⟩) (n + 1) c) (l ++ [y])) (hn : l.length = n) (q : Pv) :
    ∃ w', (Instr.storeAt 50 (.pointer (some ⟨g, n * 16, none⟩)) (.agg #[.int .i64 q.t, .slice q.pr.p q.pr.n q.pr.c, .int .i64 q.eg, .slice q.ed.p q.ed.n q.ed.c, .int .i64 q.ik, .slice q.id.p q.id.n q.id.c, .int .i64 q.am, .slice q.ad.p q.ad.n q.ad.c, .int .i64 q.np, .slice q.ns.p q.ns.n q.ns.c, .int .i64 q.nt, .slice q.nd.p q.nd.n q.nd.c, .int .i64 q.dp, .slice q.ds.p q.ds.n q.ds.c, .slice q.se.p q.se.n q.se.c, .slice q.da.p q.da.n q.da.c])).run Try.prog w = .ok () w' ∧ RowG KPv NTv w' base (.slice (some ⟨g, 0, none⟩) (n + 1) c) (l ++ [q]) ∧ w.grownBy w' (some g) := by
  refine ⟨_, ?_, hr.setLast hn q, ?_⟩
  · obtain ⟨g', c', e, -, -, -, -, hc, hf⟩ := hr.at_ (n := n + 1) (by simp [hn]) (Nat.succ_pos _)
    cases e
    have hy : ∀ j u, (KPv.cs y)[j]? = some u → w.cell? ⟨g, n * 16 + j, none⟩ = some u := fun j u hj => by
      have := hc _ _ (KPv.row_get (l ++ [y]) n (by simp [hn]) j u (by rw [List.getElem_append_right (by omega)]; simpa [hn] using hj))
      simpa [KPv] using this
    obtain ⟨y0, y1, y2, y3, y4, y5, y6, y7, y8, y9, y10, y11, y12, y13, y14, y15⟩ := cells16 hy
    obtain ⟨f0, f1, f2, f3, f4, f5, f6, f7, f8, f9, f10, f11, f12, f13, f14, f15⟩ := frz16 (o := n * 16) hf
    clear hc hf hy hr
    go_simp
  · exact grown_trans (grown_trans (grown_trans (grown_trans (grown_trans (grown_trans (grown_trans (grown_trans (grown_trans (grown_trans (grown_trans (grown_trans (grown_trans (grown_trans (grown_trans (grown_set _ _ _ _) (grown_set _ _ _ _)) (grown_set _ _ _ _)) (grown_set _ _ _ _)) (grown_set _ _ _ _)) (grown_set _ _ _ _)) (grown_set _ _ _ _)) (grown_set _ _ _ _)) (grown_set _ _ _ _)) (grown_set _ _ _ _)) (grown_set _ _ _ _)) (grown_set _ _ _ _)) (grown_set _ _ _ _)) (grown_set _ _ _ _)) (grown_set _ _ _ _)) (grown_set _ _ _ _)

section
variable {ops : Array Oper} {o : Oper} {a : Act} {C : Act → World → Prop} {Q : Exit → Act → World → Prop} {E : Prop} {w : World}
theorem step_load_pv (hw : Region.wanted o (yielded ops a.tmps) = true) (x : Operand) (ho : o.op = .load 50 x) (g : Nat) (hx : a.eval x = .pointer (some ⟨g, 0, none⟩)) (v : Value) (hv : PvB w g v) (h : C (a.put o.dst v) w) :
    if Region.wanted o (yielded ops a.tmps) = true then Oper.wp Try.prog o a w C Q else E := by
  rw [if_pos hw]
  unfold Oper.wp execOp
  simp only [ho, hx, Instr.loadAt, Instr.sureAddr, Sem.run_bind, Sem.run_pure, Result.andThen_ok, hv.run]
  exact h
/-- The literal of a slice of one payload makes this block. -/
structure LitB (v : Value) (O : Obj) : Prop where
  run : ∀ w, (Instr.buildSlice 30 1 #[(0, v)]).run Try.prog w = .ok (.slice (some ⟨w.heap.size, 0, none⟩) 1 1) (w.alloc O)
theorem litB (y : Pv) : LitB (.agg #[.int .i64 y.t, .slice y.pr.p y.pr.n y.pr.c, .int .i64 y.eg, .slice y.ed.p y.ed.n y.ed.c, .int .i64 y.ik, .slice y.id.p y.id.n y.id.c, .int .i64 y.am, .slice y.ad.p y.ad.n y.ad.c, .int .i64 y.np, .slice y.ns.p y.ns.n y.ns.c, .int .i64 y.nt, .slice y.nd.p y.nd.n y.nd.c, .int .i64 y.dp, .slice y.ds.p y.ds.n y.ds.c, .slice y.se.p y.se.n y.se.c, .slice y.da.p y.da.n y.da.c]) (.cells #[.int .i64 y.t, .slice y.pr.p y.pr.n y.pr.c, .int .i64 y.eg, .slice y.ed.p y.ed.n y.ed.c, .int .i64 y.ik, .slice y.id.p y.id.n y.id.c, .int .i64 y.am, .slice y.ad.p y.ad.n y.ad.c, .int .i64 y.np, .slice y.ns.p y.ns.n y.ns.c, .int .i64 y.nt, .slice y.nd.p y.nd.n y.nd.c, .int .i64 y.dp, .slice y.ds.p y.ds.n y.ds.c, .slice y.se.p y.se.n y.se.c, .slice y.da.p y.da.n y.da.c] 50) := by
  constructor
  intro w
  go_simp
theorem step_lit_pv (hw : Region.wanted o (yielded ops a.tmps) = true) (x : Operand) (ho : o.op = .buildSlice 30 1 #[(0, x)]) (v : Value) (O : Obj) (hx : a.eval x = v) (hv : LitB v O) (h : C (a.put o.dst (.slice (some ⟨w.heap.size, 0, none⟩) 1 1)) (w.alloc O)) :
    if Region.wanted o (yielded ops a.tmps) = true then Oper.wp Try.prog o a w C Q else E := by
  rw [if_pos hw]
  unfold Oper.wp execOp
  have e : (#[(0, x)] : Array (Nat × Operand)).map (fun p => (p.1, a.eval p.2)) = #[(0, v)] := by simp [hx]
  simp only [ho, e, Sem.run_bind, Sem.run_pure, Result.andThen_ok, hv.run]
  exact h
theorem step_store_last (hw : Region.wanted o (yielded ops a.tmps) = true) (x z : Operand) (ho : o.op = .store 50 x z) {base g n c : Nat} {l : List Pv} {y : Pv} (hr : RowG KPv NTv w base (.slice (some ⟨g, 0, none⟩) (n + 1) c) (l ++ [y])) (hn : l.length = n) (q : Pv)
    (hx : a.eval x = .pointer (some ⟨g, n * 16, none⟩)) (hz : a.eval z = (.agg #[.int .i64 q.t, .slice q.pr.p q.pr.n q.pr.c, .int .i64 q.eg, .slice q.ed.p q.ed.n q.ed.c, .int .i64 q.ik, .slice q.id.p q.id.n q.id.c, .int .i64 q.am, .slice q.ad.p q.ad.n q.ad.c, .int .i64 q.np, .slice q.ns.p q.ns.n q.ns.c, .int .i64 q.nt, .slice q.nd.p q.nd.n q.nd.c, .int .i64 q.dp, .slice q.ds.p q.ds.n q.ds.c, .slice q.se.p q.se.n q.se.c, .slice q.da.p q.da.n q.da.c])) (h : ∀ w', Hid (RowG KPv NTv w' base (.slice (some ⟨g, 0, none⟩) (n + 1) c) (l ++ [q])) → Hid (w.grownBy w' (some g)) → C (a.put o.dst undef) w') :
    if Region.wanted o (yielded ops a.tmps) = true then Oper.wp Try.prog o a w C Q else E := by
  rw [if_pos hw]
  obtain ⟨w', hrun, h1, h2⟩ := store_last hr hn q
  unfold Oper.wp execOp
  simp only [ho, hx, hz, Sem.run_bind, Sem.run_pure, Result.andThen_ok, hrun]
  exact h w' h1 h2
end
end Go.Proofs.Ytnnbfhjbaagnkaa
