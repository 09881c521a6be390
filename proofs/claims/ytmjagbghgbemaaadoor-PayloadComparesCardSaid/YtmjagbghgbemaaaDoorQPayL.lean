/-
  A payload's block as a value; steps of a region whose operations read, and whose callees only add memory.
-/
import Derived.Test.YtmjagbghgbemaaaDoorQPayVal
import Derived.BigQuiet
import Derived.BigCall
import Derived.Great.Frames
import Derived.WalkKit
namespace Go.Proofs.YtmjagbghgbemaaaDoor
open Go.RowKit
set_option linter.unusedVariables false

/-- The block g holds a payload, as a value. -/
structure PvL (w : World) (g : Nat) (v : Value) : Prop where
  run : (loadVar 40 ⟨g, 0, none⟩).run Tryd.prog w = .ok v w
theorem PvL.ld {w : World} {g : Nat} {v : Value} (h : PvL w g v) : Sem.run Tryd.prog (loadVar 40 ⟨g, 0, none⟩) w = .ok v w := h.run
theorem PvIn.pvl {w : World} {g : Nat} {x : Pv} (h : PvIn w g x) : PvL w g (.agg #[.int .i64 x.t, .slice x.pr.p x.pr.n x.pr.c, .int .i64 x.eg, .slice x.ed.p x.ed.n x.ed.c, .int .i64 x.ik, .slice x.id.p x.id.n x.id.c, .int .i64 x.am, .slice x.ad.p x.ad.n x.ad.c, .int .i64 x.np, .slice x.ns.p x.ns.n x.ns.c, .int .i64 x.nt, .slice x.nd.p x.nd.n x.nd.c, .int .i64 x.dp, .slice x.ds.p x.ds.n x.ds.c, .slice x.se.p x.se.n x.se.c, .slice x.da.p x.da.n x.da.c]) := by
  obtain ⟨c0, c1, c2, c3, c4, c5, c6, c7, c8, c9, c10, c11, c12, c13, c14, c15, fr⟩ := h
  constructor
  simp [loadVar, go_sem, c0, c1, c2, c3, c4, c5, c6, c7, c8, c9, c10, c11, c12, c13, c14, c15, Result.andThen]
section
variable {P : Program} {ops : Array Oper} {C : World → Prop} {K : Act → Prop} {a : Act} {o : Oper}
theorem quiet_call (f : FuncId) (eg : ∀ args w, (callFunc f args).run P w = .ok (.enter f args) w) (args : Array Value) (he : execOp a.eval o = callFunc f args) (v : Value)
    (hc : ∀ w, C w → Calls P f args w (fun e w'' => e = .returned v ∧ C w'')) (hk : K (a.put o.dst v)) : o.quiet P a C K :=
  ⟨v, fun w hw => by unfold Oper.quietAt; rw [he, eg]; exact ⟨rfl, hc w hw⟩, hk⟩
theorem quiet_load (ty : TypeId) (x : Operand) (ho : o.op = .load ty x) (g : Nat) (hx : a.eval x = .pointer (some ⟨g, 0, none⟩)) (v : Value) (hl : ∀ w, C w → (loadVar ty ⟨g, 0, none⟩).run P w = .ok v w) (hk : K (a.put o.dst v)) : o.quiet P a C K :=
  ⟨v, fun w hw => by
    unfold Oper.quietAt execOp
    simp only [ho, hx, Instr.loadAt, Instr.sureAddr, Sem.run_bind, Sem.run_pure, Result.andThen_ok, hl w hw]
    exact ⟨rfl, rfl⟩, hk⟩
theorem quiet_pure (v : Value) (hr : ∀ w, (execOp a.eval o).run P w = .ok (.value v) w) (hk : K (a.put o.dst v)) : o.quiet P a C K :=
  ⟨v, fun w _ => by unfold Oper.quietAt; rw [hr w]; exact ⟨rfl, rfl⟩, hk⟩
/-- A frame of which some slots are known. -/
structure FrS (m : Nat) (p4 p5 p6 : Value) (a : Act) : Prop where
  n : a.tmps.size = m
  d : a.defers = []
  e4 : a.eval (.tmp 4) = p4
  e5 : a.eval (.tmp 5) = p5
  e6 : a.eval (.tmp 6) = p6
theorem FrS.put {m : Nat} {p4 p5 p6 : Value} (h : FrS m p4 p5 p6 a) (d : Nat) (v : Value) (hd : d ≠ 4 ∧ d ≠ 5 ∧ d ≠ 6) : FrS m p4 p5 p6 (a.put (some d) v) :=
  ⟨by simp [Act.put, h.n], by simp [Act.put, h.d], by rw [Act.eval_put_ne _ _ _ _ hd.1]; exact h.e4, by rw [Act.eval_put_ne _ _ _ _ hd.2.1]; exact h.e5, by rw [Act.eval_put_ne _ _ _ _ hd.2.2]; exact h.e6⟩
theorem want_g (j d : Nat) (b : Bool) (hg : o.guard = some (j, b)) (hj : (ops[j]?).bind (·.dst) = some d) (hv : a.eval (.tmp d) = .bool b) : Region.wanted o (yielded ops a.tmps) = true := by
  have h : a.tmps[d]? = some (.bool b) := by
    have : a.tmps.getD d undef = .bool b := hv
    rw [Array.getD_eq_getD_getElem?] at this
    cases e : a.tmps[d]? with
    | none => rw [e] at this; simp [undef] at this
    | some x => rw [e] at this; simp at this; rw [this]
  unfold Region.wanted yielded
  simp only [hg]
  rw [hj]
  simp [h]
theorem step_q {Q : Act → Prop} {rest : List Oper} {m d : Nat} {v p4 p5 p6 : Value} (hod : o.dst = some d) (hw : Region.wanted o (yielded ops a.tmps) = true) (hq : ∀ K : Act → Prop, K (a.put o.dst v) → o.quiet P a C K)
    (hf : FrS m p4 p5 p6 a) (hd : d < m) (hd' : d ≠ 4 ∧ d ≠ 5 ∧ d ≠ 6)
    (h : ∀ a', FrS m p4 p5 p6 a' → a'.eval (.tmp d) = v → (∀ k, d ≠ k → a'.eval (.tmp k) = a.eval (.tmp k)) → wpQuiet P ops C Q rest a') : wpQuiet P ops C Q (o :: rest) a := by
  refine BigFrame.wpQuiet_want hw fun K hK => hq K (hK _ ?_)
  rw [hod]
  exact h _ (hf.put d v hd') (Act.eval_put_same a d v (by rw [hf.n]; exact hd)) (fun k hk => Act.eval_put_ne a d k v hk)
theorem quiet_move' (x : Operand) (ho : o.op = .move x) (v : Value) (hx : a.eval x = v) (hk : K (a.put o.dst v)) : o.quiet P a C K := BigFrame.quiet_move x ho (by rw [hx]; exact hk)
theorem quiet_assign' (x : Operand) (ho : o.op = .assign x) (v : Value) (hx : a.eval x = v) (hk : K (a.put o.dst v)) : o.quiet P a C K := BigFrame.quiet_assign x ho (by rw [hx]; exact hk)
theorem quiet_pick (c x y : Operand) (ho : o.op = .pick c x y) (v : Value) (hc : a.eval c = .bool true) (hx : a.eval x = v) (hk : K (a.put o.dst v)) : o.quiet P a C K :=
  quiet_pure v (fun w => by
    unfold execOp
    simp [ho, hc, hx, asBool]) hk
theorem quiet_eql (t t' : TypeId) (x y : Operand) (ho : o.op = .binOp .eql t x y t') (b : Bool) (hx : a.eval x = .bool b) (hy : a.eval y = .bool b) (hu : P.underlying t = some .bool) (hk : K (a.put o.dst (.bool true))) : o.quiet P a C K :=
  quiet_pure (.bool true) (fun w => by
    unfold execOp
    simp only [ho, hx, hy]
    have e : eqGuard .eql t x y (.bool b) (.bool b) = pure () := rfl
    have r := run_eql_bool (P := P) (w := w) t b b hu
    rw [e]
    simp [r, Result.andThen]) hk
theorem wp_region_quiet_c {id : Nat} {Q : Exit → Act → World → Prop} {w : World} {l : List Oper} (hm : P.follows .mixedOrders = true) (hB : Region.lexB .any l.toArray = true) (hC : C { w with drawn := w.drawn + 1 })
    (h : wpQuiet P l.toArray C (fun a' => ∀ w', C w' → Q .normal a' w') l a) : (Code.region id l.toArray true).wp P Q a w := wp_region_quiet hm hB hC (by simpa using h)
theorem region_q {id : Nat} {Q : Exit → Act → World → Prop} {w : World} {l : List Oper} {m : Nat} {p4 p5 p6 : Value} (hm : P.follows .mixedOrders = true) (hB : Region.lexB .any l.toArray = true) (hC : C { w with drawn := w.drawn + 1 })
    (hf : FrS m p4 p5 p6 a) (h : ∀ a', FrS m p4 p5 p6 a' → wpQuiet P l.toArray C (fun a' => ∀ w', C w' → Q .normal a' w') l a') : (Code.region id l.toArray true).wp P Q a w := wp_region_quiet_c hm hB hC (h a hf)
end
end Go.Proofs.YtmjagbghgbemaaaDoor
