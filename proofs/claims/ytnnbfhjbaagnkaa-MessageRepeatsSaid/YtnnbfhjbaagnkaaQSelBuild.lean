/-
  What package selector's checkCount, checkEach and Build return.
-/
import Derived.Test.YtnnbfhjbaagnkaaQSelPut
import Derived.Test.YtnnbfhjbaagnkaaQZ1
namespace Go.Proofs.Ytnnbfhjbaagnkaa
open Go.RowKit
set_option linter.unusedVariables false

def cntE (n : Int) : Int := if n = 0 then 8 else if n > 16 then 10 else 0
theorem errL_drop (l : List Sl) (j : Nat) (hj : j < l.length) : errL (l.drop j) = if checkS l[j] ≠ 0 then checkS l[j] else errL (l.drop (j + 1)) := by
  rw [List.drop_eq_getElem_cons hj]
  rfl
/-- The selector at a place of a list that is read. -/
theorem rd_sl {w : World} {p : Option Addr} {n c : Nat} {l : List Sl} (h : RdG KSl DSlr w p n c l) (j : Nat) (hj : j < l.length) : ∃ g, p = some ⟨g, 0, none⟩ ∧ w.cell? ⟨g, j * 9, none⟩ = some (.int .i64 l[j].p) ∧ w.cell? ⟨g, j * 9 + 1, none⟩ = some (.int .i64 l[j].a) ∧ w.cell? ⟨g, j * 9 + 2, none⟩ = some (.int .i64 l[j].b) ∧ w.cell? ⟨g, j * 9 + 3, none⟩ = some (.int .i64 l[j].lo.f) ∧ w.cell? ⟨g, j * 9 + 4, none⟩ = some (.int .u64 l[j].lo.h) ∧ w.cell? ⟨g, j * 9 + 5, none⟩ = some (.int .u64 l[j].lo.l) ∧ w.cell? ⟨g, j * 9 + 6, none⟩ = some (.int .i64 l[j].hi.f) ∧ w.cell? ⟨g, j * 9 + 7, none⟩ = some (.int .u64 l[j].hi.h) ∧ w.cell? ⟨g, j * 9 + 8, none⟩ = some (.int .u64 l[j].hi.l) ∧ FitS l[j] := by
  obtain ⟨g, e, hc, hok⟩ := h.cell j hj
  exact ⟨g, e, hc 0 _ rfl, hc 1 _ rfl, hc 2 _ rfl, hc 3 _ rfl, hc 4 _ rfl, hc 5 _ rfl, hc 6 _ rfl, hc 7 _ rfl, hc 8 _ rfl, hok⟩

/-- What Build returns. -/
def BuiltS (w : World) (L : List Int) (E : Int) (e : Ending) (w' : World) : Prop := ∃ v, e = .returned (.tuple #[v, .int .i64 E]) ∧ Own w' w.heap.size 5 v L ∧ Below w.heap.size w w'
theorem built_none (w w' : World) (L : List Int) (E E' : Int) (h : ([], E) = (L, E')) (hb : Below w.heap.size w w') : BuiltS w L E' (.returned (.tuple #[.slice none 0 0, .int .i64 E])) w' := by
  obtain ⟨rfl, rfl⟩ := Prod.mk.inj h
  exact ⟨_, rfl, Own.nil _ _ _, hb⟩
theorem encL_le : ∀ (l : List Sl), (∀ s ∈ l, GoodS s) → (encL l).length ≤ l.length * 40
  | [], _ => by simp [encL]
  | s :: l, h => by
    have h1 := encL_le l (fun t ht => h t (by simp [ht]))
    have h2 := (one_enc (h s (by simp)) []).2
    simp only [encL, List.length_append, List.length_cons]
    omega
theorem encL_take (l : List Sl) (j : Nat) (hj : j < l.length) : encL (l.take (j + 1)) = encL (l.take j) ++ encO l[j] := by
  rw [List.take_succ_eq_append_getElem hj, encL_append]
  simp [encL]

theorem own_four (w : World) (base : Nat) (hb : base ≤ w.heap.size) (x0 x1 x2 x3 : Int) : Own (w.alloc (.cells #[.int .u8 x0, .int .u8 x1, .int .u8 x2, .int .u8 x3] 5)) base 5 (.slice (some ⟨w.heap.size, 0, none⟩) 4 4) [x0, x1, x2, x3] := by
  have := World.ownsRow_lit (base := base) (e := 5) (size := 1) w #[.int .u8 x0, .int .u8 x1, .int .u8 x2, .int .u8 x3] 4 hb (by unfold maxLen; omega) rfl
  exact this

end Go.Proofs.Ytnnbfhjbaagnkaa
