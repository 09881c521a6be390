/-
  A list of choices: an int; ints that lie in a block; growing worlds.
-/
import Derived.Test.YtignenekomlleaaCodes2
namespace Go.Proofs.Ytignenekomlleaa
open Go.RowKit
set_option linter.unusedVariables false

theorem grown_set_new {a b : World} {row : Option Nat} (h : a.grownBy b row) (g j : Nat) (v : Value) (hg : a.heap.size ≤ g) : a.grownBy (b.setCell ⟨g, j, none⟩ v) row :=
  ⟨h.os, h.tape, h.output, by simp [World.setCell]; exact h.size, fun i hi hne => (Below.heap_setCell _ _ _ _ (by simp; omega)).trans (h.block i hi hne)⟩
theorem grown_alloc_new {a b : World} {row : Option Nat} (h : a.grownBy b row) (o : Obj) : a.grownBy (b.alloc o) row := grown_trans h (World.grownBy_alloc b o row)

theorem grown_own {a b c : World} {row row' : Option Nat} (h : a.grownBy b row) (hg : b.grownBy c row') (hr : ∀ j, row' = some j → a.heap.size ≤ j) : a.grownBy c row :=
  ⟨hg.os.trans h.os, hg.tape.trans h.tape, hg.output.trans h.output, Nat.le_trans h.size hg.size, fun i hi hne => (hg.block i (Nat.lt_of_lt_of_le hi h.size) (fun e => by have := hr i e.symm; omega)).trans (h.block i hi hne)⟩

theorem ints_at (w : World) (l : List Int) (T : TypeId) (j : Nat) (hj : j < l.length) : (w.alloc (.cells (l.map (Value.int .i64)).toArray T)).cell? ⟨w.heap.size, j, none⟩ = some (.int .i64 (l.getD j 0)) := by
  rw [World.cell?_alloc_at _ _ _ _ rfl]
  simp [List.getD_eq_getElem?_getD, List.getElem?_eq_getElem hj]

set_option maxHeartbeats 400000 in
theorem int_any (W w : World) (k : Nat) (h : Cod W w k) :
    Calls Try.prog 52 #[.pointer (some ⟨k, 0, none⟩)] w fun e w' => ∃ r : Int, e = .returned (.int .i64 r) ∧ -9223372036854775808 ≤ r ∧ r ≤ 9223372036854775807 ∧ Cod W w' k ∧ w.grownBy w' (some k) := by
  have hk := h.lt
  have H := hidden h
  have HA := hidden (h.alloc (.cells ((([9223372036854775807, -9223372036854775808, 65535, 65536, 255, 256, -1, -2, 0, 4294967296, 16384, 37] : List Int).map (Value.int .i64)).toArray) 3))
  clear h
  go_enter Try.func52, Try.ntmps52
  go_wp2_with (go_at_call 11; refine (next_any W _ k HA.out _ ?_).mono ?_; omega)
  rintro e w1 ⟨r, rfl, r0, r1, hc, hg⟩
  have HC := hidden hc
  have HL := hidden (fun (j : Nat) (hj : j < 12) => hg.cell (ints_at w [9223372036854775807, -9223372036854775808, 65535, 65536, 255, 256, -1, -2, 0, 4294967296, 16384, 37] 3 j hj) (by simp; omega))
  have HB := hidden (show ∀ z ∈ ([9223372036854775807, -9223372036854775808, 65535, 65536, 255, 256, -1, -2, 0, 4294967296, 16384, 37] : List Int), -9223372036854775808 ≤ z ∧ z ≤ 9223372036854775807 by decide)
  have HG := hidden (grown_trans (World.grownBy_alloc w _ _) hg)
  clear hc hg HA
  by_cases h3 : r = 3
  · subst h3
    go_wp2_with (go_at_call 11; refine (next_any W _ k HC.out _ ?_).mono ?_; omega)
    rintro e w2 ⟨r, rfl, r0, r1, hc, hg⟩
    obtain ⟨j, rfl⟩ := Int.eq_ofNat_of_zero_le r0
    have hcell := hg.cell (HL.out j (by omega)) (by simp; omega)
    have hbd := HB.out _ (List.getElem_mem (n := j) (by simp; omega))
    rw [show ([9223372036854775807, -9223372036854775808, 65535, 65536, 255, 256, -1, -2, 0, 4294967296, 16384, 37] : List Int)[j]'(by simp; omega) = List.getD [9223372036854775807, -9223372036854775808, 65535, 65536, 255, 256, -1, -2, 0, 4294967296, 16384, 37] j 0 by rw [List.getD_eq_getElem?_getD, List.getElem?_eq_getElem (by simp; omega)]; rfl] at hbd
    generalize List.getD [9223372036854775807, -9223372036854775808, 65535, 65536, 255, 256, -1, -2, 0, 4294967296, 16384, 37] j (0 : Int) = z at hcell hbd
    have HC2 := hidden hc
    have HG2 := hidden (grown_trans HG.out hg)
    clear HL HB hc hg
    go_wp2
    go_ret
    exact ⟨z, rfl, hbd.1, hbd.2, HC2.out, HG2.out⟩
  · clear HL HB
    have e3 : (r == 3) = false := by simpa using h3
    go_wp2_with (go_at_call 11; refine (next_any W _ k HC.out _ ?_).mono ?_; omega)
    rintro e w2 ⟨r, rfl, r0, r1, hc, hg⟩
    have HC2 := hidden hc
    have HG2 := hidden (grown_trans HG.out hg)
    clear hc hg
    go_wp2
    go_ret
    exact ⟨r - 3, rfl, by omega, by omega, HC2.out, HG2.out⟩
end Go.Proofs.Ytignenekomlleaa
