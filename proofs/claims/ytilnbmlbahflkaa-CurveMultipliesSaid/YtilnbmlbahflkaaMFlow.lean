/-
  A statement that draws its order and holds calls, loads of whole arrays and allocations: loads are taken first, the calls and allocations come up in any order; loads and stores of a part of a block.
-/
import Derived.Test.YtilnbmlbahflkaaMRegInv
import Derived.Test.YtilnbmlbahflkaaMWn
namespace Go.Proofs.Ytilnbmlbahflkaa
open Go Go.RowKit
set_option linter.unusedVariables false

section
variable {P : Program} {o : Oper} {a : Act} {w : World}
/-- A load of a whole array from a part of a block. -/
theorem run_loadVar_part (w : World) (g k : Nat) (t ty : TypeId) (all cs : Array Value) (fr : Nat × Nat) (d : TypeDesc) (hg : w.heap[g]? = some (.cells all t fr))
    (hu : P.underlying ty = some d) (hd : (match d with | .struct _ | .array _ _ => true | _ => false) = true) (hi : (P.info? ty).map (·.size) = some cs.size)
    (hp : ∀ j v, cs.toList[j]? = some v → all[k + j]? = some v) : (loadVar ty ⟨g, k, none⟩).run P w = .ok (.agg cs) w := by
  have hl : (loadCells ⟨g, k, none⟩ cs.toList.length).run P w = .ok cs.toList.toArray w :=
    run_loadCells_list (P := P) w ⟨g, k, none⟩ cs.toList (fun j v hv => by
      have hadd : (⟨g, k, none⟩ : Addr).add j = ⟨g, k + j, none⟩ := by unfold Addr.add; split <;> simp_all
      rw [hadd, cell_of_row w g (k + j) all t fr hg]
      exact hp j v hv)
  cases hq : P.info? ty with
  | none => simp [hq] at hi
  | some i =>
    have hs : i.size = cs.size := by simpa [hq] using hi
    have hagg : (isAgg ty).run P w = .ok true w := by
      unfold isAgg
      rw [Sem.run_bind, run_underlying hu w]
      cases d <;> simp_all
    simp only [Array.length_toList, Array.toArray_toList] at hl
    simp [loadVar, Sem.run_bind, hagg, sizeOf, typeInfo, hq, hs, hl]
theorem fl_load (ty : TypeId) (x : Operand) (ho : o.op = .load ty x)
    (g k : Nat) (hx : a.eval x = .pointer (some ⟨g, k, none⟩)) (t : TypeId) (all cs : Array Value) (fr : Nat × Nat) (d : TypeDesc) (hg : w.heap[g]? = some (.cells all t fr))
    (hu : P.underlying ty = some d) (hd : (match d with | .struct _ | .array _ _ => true | _ => false) = true) (hi : (P.info? ty).map (·.size) = some cs.size)
    (hp : ∀ j v, cs.toList[j]? = some v → all[k + j]? = some v) : (execOp a.eval o).run P w = .ok (.value (.agg cs)) w := by
  unfold execOp
  simp only [ho, hx, Instr.loadAt, Instr.sureAddr, Sem.run_bind, Sem.run_pure, Result.andThen_ok, run_loadVar_part w g k t ty all cs fr d hg hu hd hi hp]
/-- A part of a row is written. -/
def patch (cur vs : List Value) (k : Nat) : List Value := cur.take k ++ vs ++ cur.drop (k + vs.length)
theorem patch_step (cur rest : List Value) (v : Value) (m : Nat) (h : m < cur.length) : patch (cur.set m v) rest (m + 1) = patch cur (v :: rest) m := by
  have h1 : (cur.set m v).take (m + 1) = cur.take m ++ [v] := by
    rw [List.take_succ_eq_append_getElem (by simpa using h), List.getElem_set_self, List.take_set_of_le (Nat.le_refl m)]
  have h2 : (cur.set m v).drop (m + 1 + rest.length) = cur.drop (m + (v :: rest).length) := by
    rw [List.drop_set_of_lt (by omega), List.length_cons]
    congr 1
    omega
  unfold patch
  rw [h1, h2]
  simp
theorem run_storeCells_at (g k : Nat) (t : TypeId) : ∀ (vs : List Value) (i : Nat) (cur : Array Value) (w : World), w.heap[g]? = some (.cells cur t (0, 0)) → k + i + vs.length ≤ cur.size → (∀ v ∈ vs, v.oneCell' = true) →
    (storeCells ⟨g, k, none⟩ vs i).run P w = .ok () (w.setRow g (patch cur.toList vs (k + i)).toArray)
  | [], i, cur, w, hg, hl, _ => by
    have e : patch cur.toList [] (k + i) = cur.toList := by simp [patch]
    have hv : w.heap[g]? = some (.cells cur t (0, 0)) := hg
    have hlt : g < w.heap.size := (Array.getElem?_eq_some_iff.1 hg).1
    have hv : w.heap[g] = .cells cur t (0, 0) := (Array.getElem?_eq_some_iff.1 hg).2
    simp only [storeCells, e, Array.toArray_toList]
    show Result.ok () w = _
    congr 1
    unfold World.setRow
    cases w with
    | mk heap tape drawn os output =>
      congr 1
      apply Array.ext
      · simp
      · intro k h1 h2
        simp only [Array.getElem_modify]
        split
        · rename_i hk; subst hk; simp at hv; simp [hv]
        · rfl
  | v :: rest, i, cur, w, hg, hl, h1 => by
    have hi : k + i < cur.size := by simp at hl; omega
    have hadd : (⟨g, k, none⟩ : Addr).add i = ⟨g, k + i, none⟩ := by unfold Addr.add; split <;> simp_all
    have hcell : w.cell? ⟨g, k + i, none⟩ = some cur[k + i] := by simp [World.cell?, hg, hi]
    have hfro : w.frozen? ⟨g, k + i, none⟩ = false := by simp [World.frozen?, hg]
    have hst : (store ((⟨g, k, none⟩ : Addr).add i) v).run P w = .ok () (w.setRow g (cur.setIfInBounds (k + i) v)) := by
      rw [hadd, run_store P w _ v _ (h1 v (by simp)), hcell]
      simp [hfro, setCell_eq_setRow w g (k + i) cur t (0, 0) v hg]
    have ih := run_storeCells_at g k t rest (i + 1) (cur.setIfInBounds (k + i) v) (w.setRow g (cur.setIfInBounds (k + i) v)) (setRow_heap w g cur _ t _ hg) (by simp at hl ⊢; omega) (fun x hx => h1 x (by simp [hx]))
    simp only [storeCells, Sem.run_bind, hst, Result.andThen_ok, ih, setRow_setRow]
    congr 3
    rw [Array.toList_setIfInBounds]
    exact patch_step cur.toList rest v (k + i) (by simpa using hi)
/-- A store of a whole array into a part of a block. -/
theorem run_storeVar_part (w : World) (g k : Nat) (t ty : TypeId) (old cells : Array Value) (hg : w.heap[g]? = some (.cells old t (0, 0))) (hi : (P.info? ty).map (·.size) = some cells.size)
    (ho : k + cells.size ≤ old.size) (h1 : cells.all (·.oneCell') = true) :
    (storeVar ty ⟨g, k, none⟩ (.agg cells)).run P w = .ok () (w.setRow g (patch old.toList cells.toList k).toArray) := by
  have := run_storeCells_at (P := P) g k t cells.toList 0 old w hg (by simp; omega) (fun v hv => (Array.all_eq_true_iff_forall_mem.1 h1) v (by simpa using hv))
  cases hq : P.info? ty with
  | none => simp [hq] at hi
  | some i =>
    have hs : cells.size = i.size := by simp [hq] at hi; omega
    rw [Nat.add_zero] at this
    simp [storeVar, sizeOf, typeInfo, hq, Value.cells, hs, this]
theorem fl_store (ty : TypeId) (x y : Operand) (ho : o.op = .store ty x y)
    (g k : Nat) (cells new : Array Value) (hx : a.eval x = .pointer (some ⟨g, k, none⟩)) (hy : a.eval y = .agg cells)
    (t : TypeId) (old : Array Value) (hg : w.heap[g]? = some (.cells old t (0, 0))) (hi : (P.info? ty).map (·.size) = some cells.size)
    (hold : k + cells.size ≤ old.size) (h1 : cells.all (·.oneCell') = true) (hn : (patch old.toList cells.toList k).toArray = new) : (execOp a.eval o).run P w = .ok .skip (w.setRow g new) := by
  subst hn
  unfold execOp
  simp only [ho, hx, hy, Instr.storeAt, Instr.sureAddr, Sem.run_bind, Sem.run_pure, Result.andThen_ok, run_storeVar_part w g k t ty old cells hg hi hold h1]
theorem fl_exec {ops : Array Oper} {K : Act → World → Prop} {Q : Exit → Act → World → Prop} {v : Value} {w' : World} (hg : o.guard = none) (he : (execOp a.eval o).run P w = .ok (.value v) w') (h : K (a.put o.dst v) w') :
    if Region.wanted o (yielded ops a.tmps) = true then Oper.wp P o a w K Q else K (a.put o.dst undef) w := by
  rw [if_pos (by simp [Region.wanted, hg])]
  unfold Oper.wp
  rw [he]
  exact h
theorem fl_skip {ops : Array Oper} {K : Act → World → Prop} {Q : Exit → Act → World → Prop} {w' : World} (hg : o.guard = none) (he : (execOp a.eval o).run P w = .ok .skip w') (h : K (a.put o.dst undef) w') :
    if Region.wanted o (yielded ops a.tmps) = true then Oper.wp P o a w K Q else K (a.put o.dst undef) w := by
  rw [if_pos (by simp [Region.wanted, hg])]
  unfold Oper.wp
  rw [he]
  exact h
theorem fl_call {ops : Array Oper} {K : Act → World → Prop} {Q : Exit → Act → World → Prop} {f : FuncId} {args : Array Value} {R : Value → World → Prop} (hg : o.guard = none) (he : (execOp a.eval o).run P w = .ok (.enter f args) w)
    (hc : Calls P f args w fun e w' => ∃ v, e = .returned v ∧ R v w') (h : ∀ v w', R v w' → K (a.put o.dst v) w') :
    if Region.wanted o (yielded ops a.tmps) = true then Oper.wp P o a w K Q else K (a.put o.dst undef) w := by
  rw [if_pos (by simp [Region.wanted, hg])]
  unfold Oper.wp
  rw [he, Oper.upon_enter]
  refine hc.mono ?_
  rintro e w' ⟨v, rfl, hv⟩
  exact h v w' hv
end

section
variable {P : Program} {ops : Array Oper} {Q : Exit → Act → World → Prop} {md : Region.Mode} {c : Nat} {S0 S1 : World → Prop}
/-- The rule by an invariant, beside the two conditions. -/
theorem anyC_inv (Φ : Array Bool → Act → World → Prop) (hS : ∀ l a w, Φ l a w → S0 w ∧ (l.getD c true = false → S1 w))
    (h : ∀ l a w, Φ l a w → (∀ n, cnt l ≤ n → anyC P md ops Q c S0 S1 n l a w) ∨ ((Region.ready md ops l = [] → Q .normal a w) ∧ ∀ i ∈ Region.ready md ops l, wpOp P ops Q i (Φ (l.setIfInBounds i true)) a w)) :
    ∀ (n : Nat) (l : Array Bool) (a : Act) (w : World), cnt l ≤ n → Φ l a w → anyC P md ops Q c S0 S1 n l a w := by
  intro n
  induction n with
  | zero =>
    intro l a w hc hp
    rcases h l a w hp with hd | ⟨he, _⟩
    · exact hd 0 hc
    · have hr : Region.ready md ops l = [] := by
        refine List.eq_nil_iff_forall_not_mem.2 fun j hj => ?_
        have h1 := (mem_ready.1 hj).1
        rw [cnt_zero (Nat.le_zero.1 hc) j] at h1
        cases h1
      exact ⟨hr, he hr⟩
  | succ n ih =>
    intro l a w hc hp
    rcases h l a w hp with hd | ⟨he, hs⟩
    · exact hd (n + 1) hc
    · refine ⟨he, fun i hi => wpOp_mono (fun a' w' hp' => ⟨hS _ _ _ hp', ih _ a' w' ?_ hp'⟩) (hs i hi)⟩
      have := cnt_set (mem_ready.1 hi).1
      omega
end
end Go.Proofs.Ytilnbmlbahflkaa
