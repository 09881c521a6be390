/-
  A block of words of 32 bits.
-/
import Derived.Test.YtgpigjoonhghhaaDoorQCShaMath
import Derived.Test.YtgpigjoonhghhaaDoorQCIs
import Derived.WalkKit
namespace Go.Proofs.YtgpigjoonhghhaaDoor
open Go.RowKit
set_option linter.unusedVariables false
structure Wd (w : World) (g : Nat) (t : TypeId) (l : List Int) : Prop where
  heap : w.heap[g]? = some (.cells (l.map (Value.int .u32)).toArray t (0, 0))
variable {w : World} {g : Nat} {t : TypeId} {l : List Int}
theorem Wd.lt (h : Wd w g t l) : g < w.heap.size := (Array.getElem?_eq_some_iff.1 h.heap).1
theorem Wd.cell (h : Wd w g t l) (j : Nat) (hj : j < l.length) : w.cell? ⟨g, j, none⟩ = some (.int .u32 (l.getD j 0)) := by
  rw [cell_of_row w g j _ _ _ h.heap]
  simp [List.getD_eq_getElem?_getD, hj]
theorem Wd.fr (h : Wd w g t l) (j : Nat) : w.frozen? ⟨g, j, none⟩ = false := frozen_of_row w g j _ _ h.heap
theorem Wd.set (h : Wd w g t l) (j : Nat) (v : Int) : Wd (w.setCell ⟨g, j, none⟩ (.int .u32 v)) g t (l.set j v) := by
  constructor
  rw [heap_setCell_same w g j _ _ _ h.heap]
  simp [List.map_set]
theorem Wd.other (h : Wd w g t l) (a : Addr) (v : Value) (hn : g ≠ a.block) : Wd (w.setCell a v) g t l := ⟨by rw [Below.heap_setCell w a v g hn]; exact h.heap⟩
theorem Wd.row (h : Wd w g t l) (m : List Int) : Wd (w.setRow g (m.map (Value.int .u32)).toArray) g t m := ⟨setRow_heap w g _ _ _ _ h.heap⟩
theorem Wd.rowOther (h : Wd w g t l) (k : Nat) (cs : Array Value) (hn : g ≠ k) : Wd (w.setRow k cs) g t l := ⟨by rw [setRow_other w k g cs hn]; exact h.heap⟩
theorem Wd.alloc (h : Wd w g t l) (o : Obj) : Wd (w.alloc o) g t l := ⟨by rw [Below.heap_alloc w o g h.lt]; exact h.heap⟩
theorem Wd.drew (h : Wd w g t l) : Wd w.drew g t l := ⟨h.heap⟩
theorem Wd.below {w' : World} (h : Wd w g t l) (hb : Below w.heap.size w w') : Wd w' g t l := ⟨by rw [hb.block g h.lt]; exact h.heap⟩
theorem Wd.new (w : World) (t : TypeId) (l : List Int) (cs : Array Value) (hc : cs = (l.map (Value.int .u32)).toArray) : Wd (w.alloc (.cells cs t)) w.heap.size t l := ⟨by rw [heap_alloc_new]; rw [hc]⟩
theorem cell_set_other (w : World) (g i k : Nat) (z : Value) (h : ¬ i = k) : (w.setCell ⟨g, k, none⟩ z).cell? ⟨g, i, none⟩ = w.cell? ⟨g, i, none⟩ := by
  go_simp
theorem keep_two {w : World} {g i j k : Nat} {z u v : Value} (hu : w.cell? ⟨g, i, none⟩ = some u) (hv : w.cell? ⟨g, j, none⟩ = some v) (hi : ¬ i = k) (hj : ¬ j = k) :
    (w.setCell ⟨g, k, none⟩ z).cell? ⟨g, i, none⟩ = some u ∧ (w.setCell ⟨g, k, none⟩ z).cell? ⟨g, j, none⟩ = some v :=
  ⟨by rw [cell_set_other w g i k z hi]; exact hu, by rw [cell_set_other w g j k z hj]; exact hv⟩
theorem one32 (l : List Int) : ((l.map (Value.int .u32)).toArray).all (·.oneCell') = true := by
  simp [Value.oneCell']
theorem set_fill (l : List Int) (n k : Nat) (v : Int) (hl : l.length = k) (hk : k < n) : (l ++ List.replicate (n - k) 0).set k v = (l ++ [v]) ++ List.replicate (n - (k + 1)) 0 := by
  subst hl
  obtain ⟨m, hm⟩ : ∃ m, n - l.length = m + 1 := ⟨n - l.length - 1, by omega⟩
  rw [List.set_append_right _ _ (Nat.le_refl _), hm, show n - (l.length + 1) = m by omega]
  simp [List.replicate_succ]
theorem Wd.fill {w : World} {g : Nat} {t : TypeId} {L : List Int} {n k : Nat} (h : Wd w g t (L ++ List.replicate (n - k) 0)) (hl : L.length = k) (hk : k < n) {z z' : Int} (e : z' = z) :
    Wd (w.setCell ⟨g, k, none⟩ (.int .u32 z)) g t ((L ++ [z']) ++ List.replicate (n - (k + 1)) 0) := by
  subst e
  have := h.set k z'
  rw [set_fill _ _ _ _ hl hk] at this
  exact this
theorem getD_fill (l m : List Int) (j : Nat) (hj : j < l.length) : (l ++ m).getD j 0 = l.getD j 0 := by
  simp [List.getD_eq_getElem?_getD, List.getElem?_append_left hj]
end Go.Proofs.YtgpigjoonhghhaaDoor
