/-
  A header that lies in a block of the call's own.
-/
import Derived.Test.YtjkeijkbekdjfaaHead
import Derived.Test.YtjkeijkbekdjfaaCodes2
namespace Go.Proofs.Ytjkeijkbekdjfaa
open Go.RowKit
set_option linter.unusedVariables false

/-- The header lies at block g from cell o on. -/
structure HdrIn (w : World) (g o : Nat) (i r n x f m : Int) : Prop where
  c0 : w.cell? ⟨g, o, none⟩ = some (.int .u64 i)
  c1 : w.cell? ⟨g, o + 1, none⟩ = some (.int .u64 r)
  c2 : w.cell? ⟨g, o + 2, none⟩ = some (.int .i64 n)
  c3 : w.cell? ⟨g, o + 3, none⟩ = some (.int .i64 x)
  c4 : w.cell? ⟨g, o + 4, none⟩ = some (.int .i64 f)
  c5 : w.cell? ⟨g, o + 5, none⟩ = some (.int .u32 m)
  fr : ∀ j, w.frozen? ⟨g, j, none⟩ = false

theorem HdrIn.lt {w : World} {g o : Nat} {i r n x f m : Int} (h : HdrIn w g o i r n x f m) : g < w.heap.size := World.block_lt_of_cell? w _ h.c0
theorem HdrIn.grown {w w' : World} {g o : Nat} {i r n x f m : Int} {row : Option Nat} (h : HdrIn w g o i r n x f m) (hg : w.grownBy w' row) (hne : some g ≠ row) : HdrIn w' g o i r n x f m :=
  ⟨hg.cell h.c0 hne, hg.cell h.c1 hne, hg.cell h.c2 hne, hg.cell h.c3 hne, hg.cell h.c4 hne, hg.cell h.c5 hne, fun j => (World.frozen?_of_block (a := ⟨g, j, none⟩) (hg.block g h.lt hne)).trans (h.fr j)⟩
theorem HdrIn.below {w w' : World} {g o : Nat} {i r n x f m : Int} (h : HdrIn w g o i r n x f m) (hb : Below w.heap.size w w') : HdrIn w' g o i r n x f m := h.grown (row := none) (grown_of_below hb none) (by simp)
theorem HdrIn.alloc {w : World} {g o : Nat} {i r n x f m : Int} (h : HdrIn w g o i r n x f m) (b : Obj) : HdrIn (w.alloc b) g o i r n x f m := h.below ((Below.refl _ _).alloc (Nat.le_refl _) b)
theorem HdrIn.new (w : World) (i r n x f m : Int) (T : TypeId) : HdrIn (w.alloc (.cells #[.int .u64 i, .int .u64 r, .int .i64 n, .int .i64 x, .int .i64 f, .int .u32 m] T)) w.heap.size 0 i r n x f m :=
  ⟨by go_simp, by go_simp, by go_simp, by go_simp, by go_simp, by go_simp, fun j => by go_simp⟩

section
variable {w : World} {g : Nat} {i r n x f m : Int}
theorem HdrIn.set0 (h : HdrIn w g 0 i r n x f m) (z : Int) : HdrIn (w.setCell ⟨g, 0, none⟩ (.int .u64 z)) g 0 z r n x f m := by
  obtain ⟨c0, c1, c2, c3, c4, c5, fr⟩ := h
  exact ⟨by go_simp, by go_simp, by go_simp, by go_simp, by go_simp, by go_simp, fun j => by rw [World.frozen?_setCell]; exact fr j⟩
theorem HdrIn.set1 (h : HdrIn w g 0 i r n x f m) (z : Int) : HdrIn (w.setCell ⟨g, 1, none⟩ (.int .u64 z)) g 0 i z n x f m := by
  obtain ⟨c0, c1, c2, c3, c4, c5, fr⟩ := h
  exact ⟨by go_simp, by go_simp, by go_simp, by go_simp, by go_simp, by go_simp, fun j => by rw [World.frozen?_setCell]; exact fr j⟩
theorem HdrIn.set2 (h : HdrIn w g 0 i r n x f m) (z : Int) : HdrIn (w.setCell ⟨g, 2, none⟩ (.int .i64 z)) g 0 i r z x f m := by
  obtain ⟨c0, c1, c2, c3, c4, c5, fr⟩ := h
  exact ⟨by go_simp, by go_simp, by go_simp, by go_simp, by go_simp, by go_simp, fun j => by rw [World.frozen?_setCell]; exact fr j⟩
theorem HdrIn.set3 (h : HdrIn w g 0 i r n x f m) (z : Int) : HdrIn (w.setCell ⟨g, 3, none⟩ (.int .i64 z)) g 0 i r n z f m := by
  obtain ⟨c0, c1, c2, c3, c4, c5, fr⟩ := h
  exact ⟨by go_simp, by go_simp, by go_simp, by go_simp, by go_simp, by go_simp, fun j => by rw [World.frozen?_setCell]; exact fr j⟩
theorem HdrIn.set4 (h : HdrIn w g 0 i r n x f m) (z : Int) : HdrIn (w.setCell ⟨g, 4, none⟩ (.int .i64 z)) g 0 i r n x z m := by
  obtain ⟨c0, c1, c2, c3, c4, c5, fr⟩ := h
  exact ⟨by go_simp, by go_simp, by go_simp, by go_simp, by go_simp, by go_simp, fun j => by rw [World.frozen?_setCell]; exact fr j⟩
theorem HdrIn.set5 (h : HdrIn w g 0 i r n x f m) (z : Int) : HdrIn (w.setCell ⟨g, 5, none⟩ (.int .u32 z)) g 0 i r n x f z := by
  obtain ⟨c0, c1, c2, c3, c4, c5, fr⟩ := h
  exact ⟨by go_simp, by go_simp, by go_simp, by go_simp, by go_simp, by go_simp, fun j => by rw [World.frozen?_setCell]; exact fr j⟩
end

theorem ints_at (w : World) (l : List Int) (T : TypeId) (j : Nat) (hj : j < l.length) : (w.alloc (.cells (l.map (Value.int .i64)).toArray T)).cell? ⟨w.heap.size, j, none⟩ = some (.int .i64 (l.getD j 0)) := by
  rw [World.cell?_alloc_at _ _ _ _ rfl]
  simp [List.getD_eq_getElem?_getD, List.getElem?_eq_getElem hj]

set_option maxHeartbeats 400000 in
theorem int_any (W w : World) (k : Nat) (h : Cod W w k) :
    Calls Try.prog 15 #[.pointer (some ⟨k, 0, none⟩)] w fun e w' => ∃ r : Int, e = .returned (.int .i64 r) ∧ -9223372036854775808 ≤ r ∧ r ≤ 9223372036854775807 ∧ Cod W w' k ∧ w.grownBy w' (some k) := by
  have hk := h.lt
  have H := hidden h
  have HA := hidden (h.alloc (.cells ((([9223372036854775807, -9223372036854775808, 65535, 65536, 255, 256, -1, -2, 0, 4294967296, 16384, 37] : List Int).map (Value.int .i64)).toArray) 3))
  clear h
  go_enter Try.func15, Try.ntmps15
  go_wp2_with (go_at_call 10; refine (next_any W _ k HA.out _ ?_).mono ?_; omega)
  rintro e w1 ⟨r, rfl, r0, r1, hc, hg⟩
  have HC := hidden hc
  have HL := hidden (fun (j : Nat) (hj : j < 12) => hg.cell (ints_at w [9223372036854775807, -9223372036854775808, 65535, 65536, 255, 256, -1, -2, 0, 4294967296, 16384, 37] 3 j hj) (by simp; omega))
  have HB := hidden (show ∀ z ∈ ([9223372036854775807, -9223372036854775808, 65535, 65536, 255, 256, -1, -2, 0, 4294967296, 16384, 37] : List Int), -9223372036854775808 ≤ z ∧ z ≤ 9223372036854775807 by decide)
  have HG := hidden (grown_trans (World.grownBy_alloc w _ _) hg)
  clear hc hg HA
  by_cases h3 : r = 3
  · subst h3
    go_wp2_with (go_at_call 10; refine (next_any W _ k HC.out _ ?_).mono ?_; omega)
    rintro e w2 ⟨r, rfl, r0, r1, hc, hg⟩
    obtain ⟨j, rfl⟩ := Int.eq_ofNat_of_zero_le r0
    have hcell := hg.cell (HL.out j (by omega)) (by simp; omega)
    have hbd := HB.out _ (List.getElem_mem (n := j) (by simp; omega))
    rw [show ([9223372036854775807, -9223372036854775808, 65535, 65536, 255, 256, -1, -2, 0, 4294967296, 16384, 37] : List Int)[j]'(by simp; omega) = List.getD [9223372036854775807, -9223372036854775808, 65535, 65536, 255, 256, -1, -2, 0, 4294967296, 16384, 37] j 0 by rw [List.getD_eq_getElem?_getD, List.getElem?_eq_getElem (by simp; omega)]; rfl] at hbd
    generalize List.getD [9223372036854775807, -9223372036854775808, 65535, 65536, 255, 256, -1, -2, 0, 4294967296, 16384, 37] j (0 : Int) = z at hcell hbd
    have HC2 := hidden hc
    have HG2 := hidden (grown_trans HG.out hg)
    clear HL HB hc hg
    go_wp2
    go_ret
    exact ⟨z, rfl, hbd.1, hbd.2, HC2.out, HG2.out⟩
  · clear HL HB
    have e3 : (r == 3) = false := by simpa using h3
    go_wp2_with (go_at_call 10; refine (next_any W _ k HC.out _ ?_).mono ?_; omega)
    rintro e w2 ⟨r, rfl, r0, r1, hc, hg⟩
    have HC2 := hidden hc
    have HG2 := hidden (grown_trans HG.out hg)
    clear hc hg
    go_wp2
    go_ret
    exact ⟨r - 3, rfl, by omega, by omega, HC2.out, HG2.out⟩
end Go.Proofs.Ytjkeijkbekdjfaa
