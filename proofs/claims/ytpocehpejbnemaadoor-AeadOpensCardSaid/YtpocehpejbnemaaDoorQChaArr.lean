/-
  The table of the quarters as it lies in memory; elements of arrays of words; storing into blocks of bytes.
-/
import Derived.Test.YtpocehpejbnemaaDoorQChaMath
import Derived.Test.YtpocehpejbnemaaDoorQPrfWb
namespace Go.Proofs.YtpocehpejbnemaaDoor
open Go.RowKit
set_option linter.unusedVariables false

theorem Tryd.infoWord : (Tryd.prog.info? 64).map (fun i => (i.zero, i.size, i.bytes)) = some (some (.int .u32 0), 1, 4) := by kernel_rfl
theorem infoS16 : (Tryd.prog.info? 84).map (·.size) = some 16 := by kernel_rfl
theorem infoB64 : (Tryd.prog.info? 89).map (·.size) = some 64 := by kernel_rfl
theorem infoQ8 : (Tryd.prog.info? 130).map (·.size) = some 32 := by kernel_rfl
theorem infoQ4 : (Tryd.prog.info? 129).map (·.size) = some 4 := by kernel_rfl
/-- The cells of the table. -/
def qCells : Array Value := (qT.map fun n => Value.int IntKind.i64 (Int.ofNat n)).toArray
/-- The table of the program lies in its variable. -/
structure QAt (w : World) : Prop where
  heap : ∃ t fr, w.heap[1]? = some (.cells qCells t fr)
theorem QAt.lt {w : World} (h : QAt w) : 1 < w.heap.size := by
  obtain ⟨t, fr, h⟩ := h
  exact (Array.getElem?_eq_some_iff.1 h).1
theorem QAt.below {w w' : World} {B : Nat} (h : QAt w) (hb : Below B w w') (hB : 1 < B) : QAt w' := by
  obtain ⟨t, fr, h⟩ := h
  exact ⟨t, fr, by rw [hb.block _ hB]; exact h⟩
theorem qT_lt : ∀ j : Fin 32, qT.getD j.val 0 < 16 := by decide
theorem qT_lt' (j : Nat) (h : j < 32) : qT.getD j 0 < 16 := qT_lt ⟨j, h⟩
/-- An element, itself an array, of an array. -/
theorem run_indexA {P : Program} {t e f : TypeId} {n m : Nat} (ht : P.underlying t = some (.array n e)) (he : P.underlying e = some (.array m f)) {i : TypeInfo} (hi : P.info? e = some i) (hs : i.size = 4) (cs : Array Value) (j : Nat) (hj : j < n) (w : World) :
    (Instr.index t (.agg cs) (.int .i64 j)).run P w = .ok (.agg (cs.extract (j * 4) (j * 4 + 4))) w := by
  have h1 : (0 : Int) ≤ (j : Int) ∧ (j : Int) < (n : Int) := by omega
  unfold Instr.index
  simp [asIntOf, run_underlying ht, run_underlying he, part, isAgg, sizeOf, typeInfo, hi, hs, Result.andThen]
  intro h
  omega
theorem qRow : ∀ n : Fin 8, qCells.extract (n.val * 4) (n.val * 4 + 4) = #[.int .i64 ((qT.getD (4 * n.val) 0 : Nat) : Int), .int .i64 ((qT.getD (4 * n.val + 1) 0 : Nat) : Int), .int .i64 ((qT.getD (4 * n.val + 2) 0 : Nat) : Int), .int .i64 ((qT.getD (4 * n.val + 3) 0 : Nat) : Int)] := by
  intro n
  have h : n = 0 ∨ n = 1 ∨ n = 2 ∨ n = 3 ∨ n = 4 ∨ n = 5 ∨ n = 6 ∨ n = 7 := by omega
  rcases h with rfl | rfl | rfl | rfl | rfl | rfl | rfl | rfl <;> rfl
/-- A row of the table. -/
theorem idxQ (n : Nat) (hn : n < 8) (w : World) : (Instr.index 130 (.agg qCells) (.int .i64 (n : Int))).run Tryd.prog w =
    .ok (.agg #[.int .i64 ((qT.getD (4 * n) 0 : Nat) : Int), .int .i64 ((qT.getD (4 * n + 1) 0 : Nat) : Int), .int .i64 ((qT.getD (4 * n + 2) 0 : Nat) : Int), .int .i64 ((qT.getD (4 * n + 3) 0 : Nat) : Int)]) w := by
  obtain ⟨i, hi⟩ : ∃ i, Tryd.prog.info? 129 = some i := by
    cases h : Tryd.prog.info? 129 with
    | none => have := infoQ4; rw [h] at this; cases this
    | some i => exact ⟨i, rfl⟩
  have hs : i.size = 4 := by have := infoQ4; rw [hi] at this; simpa using this
  rw [run_indexA (P := Tryd.prog) Tryd.underlying130 Tryd.underlying129 hi hs qCells n hn w]
  have := qRow ⟨n, hn⟩
  simp only at this
  rw [this]
/-- An element of an array of words. -/
theorem run_index32 {P : Program} {t e : TypeId} {n : Nat} (ht : P.underlying t = some (.array n e)) (he : P.underlying e = some (.int .u32)) {i : TypeInfo} (hi : P.info? e = some i) (hs : i.size = 1) (l : List Int) (hl : l.length = n) (j : Nat) (hj : j < n) (w : World) :
    (Instr.index t (.agg (l.map (Value.int .u32)).toArray) (.int .i64 j)).run P w = .ok (.int .u32 (l.getD j 0)) w := by
  subst hl
  have h1 : (0 : Int) ≤ (j : Int) ∧ (j : Int) < (l.length : Int) := by omega
  have h2 : (Option.map (Value.int IntKind.u32) l[j]?) = some (.int .u32 (l.getD j 0)) := by
    simp [List.getD_eq_getElem?_getD, hj]
  unfold Instr.index
  simp [asIntOf, run_underlying ht, run_underlying he, part, isAgg, sizeOf, typeInfo, hi, hs, h2, Result.andThen]
  intro h
  omega
section
variable {w : World} {g : Nat} {t : TypeId} {l : List Int}
theorem Wb.set (h : Wb w g t l) (j : Nat) (v : Int) : Wb (w.setCell ⟨g, j, none⟩ (.int .u8 v)) g t (l.set j v) := by
  constructor
  rw [heap_setCell_same w g j _ _ _ h.heap]
  simp [List.map_set]
theorem Wb.other (h : Wb w g t l) (a : Addr) (v : Value) (hn : g ≠ a.block) : Wb (w.setCell a v) g t l := ⟨by rw [Below.heap_setCell w a v g hn]; exact h.heap⟩
theorem Wb.rowOther (h : Wb w g t l) (k : Nat) (cs : Array Value) (hn : g ≠ k) : Wb (w.setRow k cs) g t l := ⟨by rw [setRow_other w k g cs hn]; exact h.heap⟩
theorem Wd.mix4 (h : Wd w g t l) (i j k m : Nat) (a b c d : Int) : Wd ((((w.setCell ⟨g, i, none⟩ (.int .u32 a)).setCell ⟨g, j, none⟩ (.int .u32 b)).setCell ⟨g, k, none⟩ (.int .u32 c)).setCell ⟨g, m, none⟩ (.int .u32 d)) g t ((((l.set i a).set j b).set k c).set m d) :=
  (((h.set i a).set j b).set k c).set m d
end
theorem Wd.grownC {w w' : World} {g : Nat} {t : TypeId} {l : List Int} {row : Option Nat} (h : Wd w g t l) (hg : w.grownBy w' row) (hn : some g ≠ row) : Wd w' g t l := ⟨by rw [hg.block g h.lt hn]; exact h.heap⟩
theorem Wb.fill {w : World} {g : Nat} {t : TypeId} {L : List Int} {n k : Nat} (h : Wb w g t (L ++ List.replicate (n - k) 0)) (hl : L.length = k) (hk : k < n) (z : Int) :
    Wb (w.setCell ⟨g, k, none⟩ (.int .u8 z)) g t ((L ++ [z]) ++ List.replicate (n - (k + 1)) 0) := by
  have := h.set k z
  rw [set_fill _ _ _ _ hl hk] at this
  exact this
end Go.Proofs.YtpocehpejbnemaaDoor
