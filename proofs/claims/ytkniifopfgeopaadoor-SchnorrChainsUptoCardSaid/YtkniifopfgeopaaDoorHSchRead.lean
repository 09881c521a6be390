/-
  schnorr.readOne of a certificate that was written.
-/
import Derived.Test.YtkniifopfgeopaaDoorHSchCuts
import Derived.Test.YtkniifopfgeopaaDoorHZ8
namespace Go.Proofs.YtkniifopfgeopaaDoor
open Go.RowKit
set_option linter.unusedVariables false

theorem results_cell_tmp2 {fn : Func} {p u v : Tmp} {ty : TypeId} (h : fn.results = #[.cell p ty, .tmp u, .tmp v]) (tmps : Array Value) (P : Program) (w : World) :
    (results fn tmps).run P w =
      ((asAddr (tmps.getD p undef)).run P w).andThen fun a w₁ => ((loadVar ty a).run P w₁).andThen fun x w₂ => .ok (.tuple #[x, tmps.getD u undef, tmps.getD v undef]) w₂ := by
  simp only [results, h]
  simp [Sem.run_bind, Result.andThen]
theorem ret_ct3 {fn : Func} {R : Ending → World → Prop} {a : Act} {w : World} {p u u' : Nat} {g : Nat} {cs : Array Value} {v v' : Value} (h : fn.results = #[.cell p 37, .tmp u, .tmp u']) (hp : a.tmps.getD p undef = .pointer (some ⟨g, 0, none⟩)) (hu : a.tmps.getD u undef = v) (hu' : a.tmps.getD u' undef = v') (hd : a.defers = [])
    (hw : w.heap[g]? = some (.cells cs 37 (0, 0))) (hl : cs.size = 6) (hR : R (.returned (.tuple #[.agg cs, v, v'])) w) : bodyPost Tryd.prog fn R .ret a w := by
  refine bodyPost_ret (v := .tuple #[.agg cs, v, v']) ?_ hd hR
  rw [results_cell_tmp2 h]
  simp only [hp]
  simp [Result.andThen, hu, hu', asAddr, run_loadVar_row w g 37 37 cs (0, 0) _ hw Tryd.underlying37 rfl (by rw [infoC6, hl])]
set_option maxHeartbeats 800000 in
theorem numW_any (p : Option Addr) (n c : Nat) (xs : List Int) (w : World) (h : Byt w p n c xs) (a k : Nat) (h1 : 1 ≤ k) (h8 : k ≤ 8) (ha : a + k ≤ n) :
    Calls Tryd.prog 48 #[.slice p n c, .int .i64 (a : Int), .int .i64 (k : Int)] w fun e w' => e = .returned (.int .u64 (val ((xs.drop a).take k))) ∧ w = w' := by
  have HN := hidden (number_yes p n c xs w h a k h1 h8 ha)
  clear h
  generalize val ((xs.drop a).take k) = v at *
  go_enter Tryd.func48, Tryd.ntmps48
  go_wp2_with (first
    | (go_at_call 70; (with_reducible refine (HN.out).mono ?_); rintro e w2 ⟨rfl, rfl⟩)
    | fail)
  go_ret
  exact ⟨rfl, rfl⟩
/-- What readOne keeps: its own two certificates. -/
structure RdI (w W : World) (row : Array Value) : Prop where
  sz : row.size = 6
  cc : W.heap[w.heap.size + 1]? = some (.cells row 37 (0, 0))
  rr : W.heap[w.heap.size]? = some (.cells zeroC 37 (0, 0))
  bel : Below w.heap.size w W
theorem RdI.lt {w W : World} {row : Array Value} (h : RdI w W row) : w.heap.size + 1 < W.heap.size := (Array.getElem?_eq_some_iff.1 h.cc).1
theorem RdI.below {w W W' : World} {row : Array Value} (h : RdI w W row) (hb : Below W.heap.size W W') : RdI w W' row :=
  ⟨h.sz, by rw [hb.block _ h.lt]; exact h.cc, by rw [hb.block _ (by have := h.lt; omega)]; exact h.rr, h.bel.trans (hb.mono h.bel.size)⟩
theorem RdI.put {w W : World} {row : Array Value} (h : RdI w W row) (i : Nat) (u : Value) : RdI w (W.setCell ⟨w.heap.size + 1, i, none⟩ u) (row.setIfInBounds i u) := by
  have e := setCell_eq_setRow W (w.heap.size + 1) i row 37 (0, 0) u h.cc
  refine ⟨by rw [Array.size_setIfInBounds]; exact h.sz, ?_, ?_, h.bel.setCell (by simp) _⟩
  · rw [e]
    exact setRow_heap _ _ _ _ _ _ h.cc
  · rw [e, setRow_other _ _ _ _ (by omega)]
    exact h.rr
theorem RdI.cell {w W : World} {row : Array Value} (h : RdI w W row) (i : Nat) : W.cell? ⟨w.heap.size + 1, i, none⟩ = row[i]? := cell_of_row _ _ _ _ _ _ h.cc
theorem RdI.frz {w W : World} {row : Array Value} (h : RdI w W row) (i : Nat) : W.frozen? ⟨w.heap.size + 1, i, none⟩ = false := frozen_of_row _ _ _ _ _ h.cc
theorem RdI.new (w : World) : RdI w ((w.alloc (.cells zeroC 37)).alloc (.cells zeroC 37)) zeroC :=
  ⟨rfl, heap_alloc2_new w _ _, by rw [Below.heap_alloc _ _ _ (by simp)]; exact heap_alloc_new w _, ((Below.refl _ w).alloc (Nat.le_refl _) _).alloc (by simp) _⟩
theorem RdI.off {w W : World} {row : Array Value} (h : RdI w W row) (base : Nat) : OffB W base (some (w.heap.size + 1)) := fun r hr => Or.inr (fun cur fz e => by
  cases hr
  rw [h.cc] at e
  simp at e)
theorem RdI.bod {w W : World} {row : Array Value} (h : RdI w W row) (i : Nat) (u : Value) {base : Nat} {q : Option Addr} {n d : Nat} {g : List Int} (hy : Bod W base q n d g) : Bod (W.setCell ⟨w.heap.size + 1, i, none⟩ u) base q n d g := hy.grown (grown_set _ _ _ _) (h.off base)

/-- What readOne returns. -/
def RdTo (x : Ct) (w : World) (e : Ending) (w' : World) : Prop :=
  ∃ q d, e = .returned (.tuple #[.agg #[.string x.s, .int .u64 (x.k : Int), .int .i64 x.f, .int .i64 x.t, .bool x.a, .slice q 16 d], .int .i64 (1 + (x.s.size : Int) + 8 + 4 + 4 + 1 + 16), .bool true]) ∧ Bod w' w.heap.size q 16 d x.g ∧ Below w.heap.size w w'

end Go.Proofs.YtkniifopfgeopaaDoor
