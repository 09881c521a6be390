/-
  A map of the call's own from transforms to bools that holds just those of a list.
-/
import Derived.Test.YtnnbfhjbaagnkaaQZ0
import Derived.Maps.OwnOps
import Derived.Maps.Views
import Derived.DeepKeys4
namespace Go.Proofs.Ytnnbfhjbaagnkaa
open Go.RowKit
open Go.Maps (Keyed IsMap)
set_option linter.unusedVariables false
set_option maxRecDepth 100000

theorem Try.laidOutM : laidOutB Try.prog = true := by kernel_rfl
theorem Try.rowTr : (77 : TypeId) < Try.prog.types.size := of_decide_eq_true (by kernel_rfl)
theorem Try.wideTr : (match Try.prog.underlying 77 with | some (.array _ _) | some (.struct _) => true | _ => false) = true := by rw [Try.underlying77]
theorem lawTr : Keyed Try.prog 77 := Keyed.of_law (deep_law_laid Try.laidOutM (m := 2) (by omega) Try.rowTr (by kernel_rfl) Try.wideTr)
theorem Try.keyTypeTr : Try.prog.keyType 77 = true := by kernel_rfl
theorem Try.cellsTr : Try.prog.cellsOf 77 = 3 := by kernel_rfl
theorem Try.cellsInt : Try.prog.cellsOf 3 = 1 := by kernel_rfl
/-- A transform as a key. -/
def keyVal (t i k : Int) : Value := .agg #[.int .i64 t, .int .i64 i, .int .i64 k]
theorem wf_of {a : Int} (h : -9223372036854775808 ≤ a ∧ a ≤ 9223372036854775807) : (Lit.int .i64 a).wf = true := WalkArith.wf_i64 (by omega)
theorem keyOf_three {P : Program} {k e : TypeId} {fs : Array Go.Field} {f0 f1 f2 : Go.Field} (hk : P.underlying k = some (.struct fs)) (he : P.underlying e = some (.int .i64)) (hkt : P.keyType k = true) (hck : P.cellsOf k = 3) (hce : P.cellsOf e = 1) (hrow : k < P.types.size)
    (hall : fs.all (·.name != "_") = true) (hfs : fs.toList = [f0, f1, f2]) (t0 : f0.type = e) (t1 : f1.type = e) (t2 : f2.type = e) (o0 : f0.offset = 0) (o1 : f1.offset = 1) (o2 : f2.offset = 2)
    {a b c : Int} (ha : (Lit.int .i64 a).wf = true) (hb : (Lit.int .i64 b).wf = true) (hc : (Lit.int .i64 c).wf = true) : ∃ l, keyOf P k (.agg #[.int .i64 a, .int .i64 b, .int .i64 c]) = some l := by
  obtain ⟨m, hm⟩ : ∃ m, P.types.size = m + 1 := Nat.exists_eq_add_one_of_ne_zero (fun e => by rw [e] at hrow; exact Nat.not_lt_zero _ hrow)
  unfold keyOf
  rw [hk]
  simp [hkt, Value.formed, hk, hck, Program.keyLits, Value.cells, hm, he, hce, ha, hb, hc, hall, hfs, t0, t1, t2, o0, o1, o2]
theorem key_tr (t i k : Int) (h : IntT ⟨t, i, k⟩) : ∃ l, keyOf Try.prog 77 (keyVal t i k) = some l :=
  keyOf_three Try.underlying77 Try.underlying3 Try.keyTypeTr Try.cellsTr Try.cellsInt Try.rowTr (by simp) rfl rfl rfl rfl rfl rfl rfl (wf_of h.1) (wf_of h.2.1) (wf_of h.2.2)

/-- What the map reads as, and the transforms that it holds. -/
structure SeenD (D : DataW Unit) (ts : List Tr) : Prop where
  map : IsMap D
  at_ : ∀ (t i k : Int) (l : Lit), keyOf Try.prog 77 (keyVal t i k) = some l → D.atKey l (.lit (.bool false)) = .lit (.bool (decide ((⟨t, i, k⟩ : Tr) ∈ ts)))
def Seen (w : World) (b : Nat) (ts : List Tr) : Prop := ∃ D : DataW Unit, w.ownsMap Try.prog 77 (plainElem Try.prog 4) b ts.length D ∧ SeenD D ts
theorem Seen.made (w : World) : Seen (w.alloc (.map #[] 0)) w.heap.size [] := ⟨_, World.ownsMap_made _ _ _ _, ⟨[], rfl⟩, fun t i k l h => by simp [DataW.atKey]⟩
theorem Seen.lt {w : World} {b : Nat} {ts : List Tr} (h : Seen w b ts) : b < w.heap.size := by
  obtain ⟨D, h1, _⟩ := h
  exact h1.lt
theorem Seen.grown {w w' : World} {b : Nat} {ts : List Tr} {row : Option Nat} (h : Seen w b ts) (hg : w.grownBy w' row) (hne : some b ≠ row) : Seen w' b ts := by
  obtain ⟨D, h1, h2⟩ := h
  exact ⟨D, h1.kept hg hne, h2⟩
theorem Seen.notCells {w : World} {b : Nat} {ts : List Tr} (h : Seen w b ts) (cur : Array Value) (e : TypeId) (fz : Nat × Nat) : w.heap[b]? ≠ some (.cells cur e fz) := by
  obtain ⟨D, ⟨es, clock, h1, _⟩, _⟩ := h
  rw [h1]
  simp
theorem Try.zeroBool (w : World) : (zeroValue 4).run Try.prog w = .ok (.bool false) w := by kernel_rfl
theorem Seen.look {w : World} {b : Nat} {ts : List Tr} (h : Seen w b ts) (t i k : Int) (hi : IntT ⟨t, i, k⟩) (c : Bool) (hc : c = decide ((⟨t, i, k⟩ : Tr) ∈ ts)) :
    (Instr.lookup 75 (.map (some b)) (.agg #[.int .i64 t, .int .i64 i, .int .i64 k]) false).run Try.prog w = .ok (.bool c) w := by
  obtain ⟨D, h1, h2⟩ := h
  obtain ⟨l, hl⟩ := key_tr t i k hi
  obtain ⟨v, ps, hrun, hv⟩ := h1.lookup lawTr Try.underlying75 (Try.zeroBool w) (plainElem_bool Try.underlying4 false) hl
  rw [h2.at_ t i k l hl] at hv
  have : v = .bool c := by
    unfold plainElem at hv
    rw [Try.underlying4] at hv
    cases v <;> simp at hv
    rw [hv.1, hc]
  rw [← this]
  exact hrun
theorem SeenD.put {D : DataW Unit} {ts : List Tr} (h : SeenD D ts) (t i k : Int) (l : Lit) (hl : keyOf Try.prog 77 (keyVal t i k) = some l) : SeenD (D.put l (.lit (.bool true))) (ts ++ [⟨t, i, k⟩]) := by
  refine ⟨h.map.put _ _, fun t' i' k' l' hl' => ?_⟩
  by_cases he : l' = l
  · subst he
    rw [Maps.atKey_put_same h.map (lawTr.key hl)]
    have := lawTr.inj hl hl'
    simp [keyVal] at this
    obtain ⟨rfl, rfl, rfl⟩ := this
    simp
  · rw [Maps.atKey_put_other he, h.at_ t' i' k' l' hl']
    have hne : (⟨t', i', k'⟩ : Tr) ≠ ⟨t, i, k⟩ := by
      intro e
      simp at e
      obtain ⟨rfl, rfl, rfl⟩ := e
      rw [hl] at hl'
      simp at hl'
      exact he hl'.symm
    simp [hne]
/-- A store into the map as a law of the walk. -/
theorem wpList_seen (w : World) {ops : Array Oper} {rest : List Oper} {o : Oper} {a : Act} {Q : Exit → Act → World → Prop} (hg : o.guard = none) (m x v : Operand) (hop : o.op = Op.mapUpdate 75 m x v)
    (b : Nat) (ts : List Tr) (h : Seen w b ts) (hn : ts.length < maxLen) (hm : a.eval m = .map (some b)) (t i k : Int) (hx : a.eval x = .agg #[.int .i64 t, .int .i64 i, .int .i64 k]) (hv : a.eval v = .bool true) (hi : IntT ⟨t, i, k⟩)
    (hK : ∀ w', Seen w' b (ts ++ [⟨t, i, k⟩]) → w.grownBy w' (some b) → wpList Try.prog ops Q rest (a.put o.dst undef) w') : wpList Try.prog ops Q (o :: rest) a w := by
  obtain ⟨D, h1, h2⟩ := h
  obtain ⟨l, hl⟩ := key_tr t i k hi
  refine wpList_mapUpdate_own w hg m x v _ hop _ _ lawTr Try.underlying75 _ b _ D hm h1 hn _ _ l hx hv hl _ [] (plainElem_bool Try.underlying4 true) ?_
  intro w' h3 h4
  exact hK w' ⟨_, by simpa using h3, h2.put t i k l hl⟩ h4
end Go.Proofs.Ytnnbfhjbaagnkaa
