/-
  A block of whole numbers of one kind; an element of such an array.
-/
import Derived.Test.YtilnbmlbahflkaaMPrfWb
import Derived.Test.YtilnbmlbahflkaaMBod
namespace Go.Proofs.Ytilnbmlbahflkaa
open Go.RowKit
set_option linter.unusedVariables false

/-- The cells of a list of numbers. -/
def ints (k : IntKind) (l : List Int) : Array Value := (l.map (Value.int k)).toArray
theorem ints_size (k : IntKind) (l : List Int) : (ints k l).size = l.length := by simp [ints]
/-- The block g holds just these numbers. -/
structure Wn (k : IntKind) (w : World) (g : Nat) (t : TypeId) (l : List Int) : Prop where
  heap : w.heap[g]? = some (.cells (ints k l) t (0, 0))
section
variable {k : IntKind} {w : World} {g : Nat} {t : TypeId} {l : List Int}
theorem Wn.lt (h : Wn k w g t l) : g < w.heap.size := (Array.getElem?_eq_some_iff.1 h.heap).1
theorem Wn.cell (h : Wn k w g t l) (j : Nat) (hj : j < l.length) : w.cell? ⟨g, j, none⟩ = some (.int k (l.getD j 0)) := by
  rw [cell_of_row w g j _ _ _ h.heap]
  simp [ints, List.getD_eq_getElem?_getD, hj]
theorem Wn.fr (h : Wn k w g t l) (j : Nat) : w.frozen? ⟨g, j, none⟩ = false := frozen_of_row w g j _ _ h.heap
theorem Wn.set (h : Wn k w g t l) (j : Nat) (v : Int) : Wn k (w.setCell ⟨g, j, none⟩ (.int k v)) g t (l.set j v) := by
  constructor
  rw [heap_setCell_same w g j _ _ _ h.heap]
  simp [ints, List.map_set]
theorem Wn.other (h : Wn k w g t l) (a : Addr) (v : Value) (hn : g ≠ a.block) : Wn k (w.setCell a v) g t l := ⟨by rw [Below.heap_setCell w a v g hn]; exact h.heap⟩
theorem Wn.row (h : Wn k w g t l) (m : List Int) : Wn k (w.setRow g (ints k m)) g t m := ⟨setRow_heap w g _ _ _ _ h.heap⟩
theorem Wn.rowOther (h : Wn k w g t l) (j : Nat) (cs : Array Value) (hn : g ≠ j) : Wn k (w.setRow j cs) g t l := ⟨by rw [setRow_other w j g cs hn]; exact h.heap⟩
theorem Wn.alloc (h : Wn k w g t l) (o : Obj) : Wn k (w.alloc o) g t l := ⟨by rw [Below.heap_alloc w o g h.lt]; exact h.heap⟩
theorem Wn.drew (h : Wn k w g t l) : Wn k w.drew g t l := ⟨h.heap⟩
theorem Wn.drewN (h : Wn k w g t l) (r : Nat) : Wn k (w.drewN r) g t l := ⟨h.heap⟩
theorem Wn.below {w' : World} (h : Wn k w g t l) (hb : Below w.heap.size w w') : Wn k w' g t l := ⟨by rw [hb.block g h.lt]; exact h.heap⟩
theorem Wn.grown {w' : World} {row : Option Nat} (h : Wn k w g t l) (hg : w.grownBy w' row) (hn : some g ≠ row) : Wn k w' g t l := ⟨by rw [hg.block g h.lt hn]; exact h.heap⟩
theorem Wn.new (k : IntKind) (w : World) (t : TypeId) (l : List Int) (cs : Array Value) (hc : cs = ints k l) : Wn k (w.alloc (.cells cs t)) w.heap.size t l := ⟨by rw [heap_alloc_new]; rw [hc]⟩
theorem Wn.new' (k : IntKind) (w : World) (t : TypeId) (l : List Int) (cs : Array Value) (hc : cs = ints k l) (g : Nat) (hg : w.heap.size = g) : Wn k (w.alloc (.cells cs t)) g t l := by subst hg; exact Wn.new k w t l cs hc
theorem onek (k : IntKind) (l : List Int) : (ints k l).all (·.oneCell') = true := by
  simp [ints, Value.oneCell']
end
theorem heap_1st (w : World) (S : Array Value) (t : TypeId) (o : Obj) : ((w.alloc (.cells S t)).alloc o).heap[w.heap.size]? = some (.cells S t (0, 0)) := by
  rw [Below.heap_alloc _ _ _ (by simp), heap_alloc_new]
/-- An element of an array of numbers. -/
theorem run_indexN {k : IntKind} {P : Program} {t e : TypeId} {n : Nat} (ht : P.underlying t = some (.array n e)) (he : P.underlying e = some (.int k)) {i : TypeInfo} (hi : P.info? e = some i) (hs : i.size = 1) (l : List Int) (hl : l.length = n) (j : Nat) (hj : j < n) (w : World) :
    (Instr.index t (.agg (ints k l)) (.int .i64 j)).run P w = .ok (.int k (l.getD j 0)) w := by
  subst hl
  have h1 : (0 : Int) ≤ (j : Int) ∧ (j : Int) < (l.length : Int) := by omega
  have h2 : (Option.map (Value.int k) l[j]?) = some (.int k (l.getD j 0)) := by
    simp [List.getD_eq_getElem?_getD, hj]
  unfold Instr.index
  simp [asIntOf, run_underlying ht, run_underlying he, part, isAgg, sizeOf, typeInfo, hi, hs, ints, h2, Result.andThen]
  intro h
  omega
end Go.Proofs.Ytilnbmlbahflkaa
