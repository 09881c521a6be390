/-
  A header that lies in a block of the call's own.
-/
import Derived.Test.YtnnbfhjbaagnkaaQHead
import Derived.Test.YtnnbfhjbaagnkaaQZ1
namespace Go.Proofs.Ytnnbfhjbaagnkaa
open Go.RowKit
set_option linter.unusedVariables false

/-- The header lies at block g from cell o on. -/
structure HdrIn (w : World) (g o : Nat) (i r n x f m : Int) : Prop where
  c0 : w.cell? ⟨g, o, none⟩ = some (.int .u64 i)
  c1 : w.cell? ⟨g, o + 1, none⟩ = some (.int .u64 r)
  c2 : w.cell? ⟨g, o + 2, none⟩ = some (.int .i64 n)
  c3 : w.cell? ⟨g, o + 3, none⟩ = some (.int .i64 x)
  c4 : w.cell? ⟨g, o + 4, none⟩ = some (.int .i64 f)
  c5 : w.cell? ⟨g, o + 5, none⟩ = some (.int .u32 m)
  fr : ∀ j, w.frozen? ⟨g, j, none⟩ = false

theorem HdrIn.lt {w : World} {g o : Nat} {i r n x f m : Int} (h : HdrIn w g o i r n x f m) : g < w.heap.size := World.block_lt_of_cell? w _ h.c0
theorem HdrIn.grown {w w' : World} {g o : Nat} {i r n x f m : Int} {row : Option Nat} (h : HdrIn w g o i r n x f m) (hg : w.grownBy w' row) (hne : some g ≠ row) : HdrIn w' g o i r n x f m :=
  ⟨hg.cell h.c0 hne, hg.cell h.c1 hne, hg.cell h.c2 hne, hg.cell h.c3 hne, hg.cell h.c4 hne, hg.cell h.c5 hne, fun j => (World.frozen?_of_block (a := ⟨g, j, none⟩) (hg.block g h.lt hne)).trans (h.fr j)⟩
theorem HdrIn.below {w w' : World} {g o : Nat} {i r n x f m : Int} (h : HdrIn w g o i r n x f m) (hb : Below w.heap.size w w') : HdrIn w' g o i r n x f m := h.grown (row := none) (grown_of_below hb none) (by simp)
theorem HdrIn.alloc {w : World} {g o : Nat} {i r n x f m : Int} (h : HdrIn w g o i r n x f m) (b : Obj) : HdrIn (w.alloc b) g o i r n x f m := h.below ((Below.refl _ _).alloc (Nat.le_refl _) b)
theorem HdrIn.new (w : World) (i r n x f m : Int) (T : TypeId) : HdrIn (w.alloc (.cells #[.int .u64 i, .int .u64 r, .int .i64 n, .int .i64 x, .int .i64 f, .int .u32 m] T)) w.heap.size 0 i r n x f m :=
  ⟨by go_simp, by go_simp, by go_simp, by go_simp, by go_simp, by go_simp, fun j => by go_simp⟩

section
variable {w : World} {g : Nat} {i r n x f m : Int}
theorem HdrIn.set0 (h : HdrIn w g 0 i r n x f m) (z : Int) : HdrIn (w.setCell ⟨g, 0, none⟩ (.int .u64 z)) g 0 z r n x f m := by
  obtain ⟨c0, c1, c2, c3, c4, c5, fr⟩ := h
  exact ⟨by go_simp, by go_simp, by go_simp, by go_simp, by go_simp, by go_simp, fun j => by rw [World.frozen?_setCell]; exact fr j⟩
theorem HdrIn.set1 (h : HdrIn w g 0 i r n x f m) (z : Int) : HdrIn (w.setCell ⟨g, 1, none⟩ (.int .u64 z)) g 0 i z n x f m := by
  obtain ⟨c0, c1, c2, c3, c4, c5, fr⟩ := h
  exact ⟨by go_simp, by go_simp, by go_simp, by go_simp, by go_simp, by go_simp, fun j => by rw [World.frozen?_setCell]; exact fr j⟩
theorem HdrIn.set2 (h : HdrIn w g 0 i r n x f m) (z : Int) : HdrIn (w.setCell ⟨g, 2, none⟩ (.int .i64 z)) g 0 i r z x f m := by
  obtain ⟨c0, c1, c2, c3, c4, c5, fr⟩ := h
  exact ⟨by go_simp, by go_simp, by go_simp, by go_simp, by go_simp, by go_simp, fun j => by rw [World.frozen?_setCell]; exact fr j⟩
theorem HdrIn.set3 (h : HdrIn w g 0 i r n x f m) (z : Int) : HdrIn (w.setCell ⟨g, 3, none⟩ (.int .i64 z)) g 0 i r n z f m := by
  obtain ⟨c0, c1, c2, c3, c4, c5, fr⟩ := h
  exact ⟨by go_simp, by go_simp, by go_simp, by go_simp, by go_simp, by go_simp, fun j => by rw [World.frozen?_setCell]; exact fr j⟩
theorem HdrIn.set4 (h : HdrIn w g 0 i r n x f m) (z : Int) : HdrIn (w.setCell ⟨g, 4, none⟩ (.int .i64 z)) g 0 i r n x z m := by
  obtain ⟨c0, c1, c2, c3, c4, c5, fr⟩ := h
  exact ⟨by go_simp, by go_simp, by go_simp, by go_simp, by go_simp, by go_simp, fun j => by rw [World.frozen?_setCell]; exact fr j⟩
theorem HdrIn.set5 (h : HdrIn w g 0 i r n x f m) (z : Int) : HdrIn (w.setCell ⟨g, 5, none⟩ (.int .u32 z)) g 0 i r n x f z := by
  obtain ⟨c0, c1, c2, c3, c4, c5, fr⟩ := h
  exact ⟨by go_simp, by go_simp, by go_simp, by go_simp, by go_simp, by go_simp, fun j => by rw [World.frozen?_setCell]; exact fr j⟩
end

end Go.Proofs.Ytnnbfhjbaagnkaa
