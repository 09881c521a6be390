/-
  A list of choices: what its methods return is a number in range, and they write nothing but the list's own place.
-/
import Derived.Test.YtgpigjoonhghhaaDoorRows
import Derived.Test.YtgpigjoonhghhaaDoorQCBytes
import Derived.Test.YtgpigjoonhghhaaDoorQCNum
import Derived.Deep.QuietTactic
import Derived.BigQuiet
namespace Go.Proofs.YtgpigjoonhghhaaDoor
open Go.RowKit
set_option linter.unusedVariables false
structure Cod (W w : World) (k : Nat) : Prop where
  base : W.heap.size ≤ k
  bel : Below W.heap.size W w
  free : ∀ j, w.frozen? ⟨k, j, none⟩ = false
  list : ∃ p n c xs, ∃ t : Nat, Byt W p n c xs ∧ t ≤ n ∧ w.cell? ⟨k, 0, none⟩ = some (.slice p n c) ∧ w.cell? ⟨k, 1, none⟩ = some (.int .i64 t)
theorem grown_trans {a b c : World} {row : Option Nat} (h : a.grownBy b row) (k : b.grownBy c row) : a.grownBy c row :=
  ⟨k.os.trans h.os, k.tape.trans h.tape, k.output.trans h.output, Nat.le_trans h.size k.size, fun i hi hne => (k.block i (Nat.lt_of_lt_of_le hi h.size) hne).trans (h.block i hi hne)⟩
theorem grown_refl (w : World) (row : Option Nat) : w.grownBy w row := ⟨rfl, rfl, rfl, Nat.le_refl _, fun _ _ _ => rfl⟩
theorem grown_of_below {w w' : World} (h : Below w.heap.size w w') (row : Option Nat) : w.grownBy w' row := ⟨h.os, h.tape, h.output, h.size, fun i hi _ => h.block i hi⟩
theorem grown_drewN (w : World) (r : Nat) (row : Option Nat) : w.grownBy (w.drewN r) row := ⟨rfl, rfl, rfl, Nat.le_refl _, fun _ _ _ => rfl⟩
theorem grown_set (w : World) (k j : Nat) (v : Value) : w.grownBy (w.setCell ⟨k, j, none⟩ v) (some k) :=
  ⟨rfl, rfl, rfl, by simp [World.setCell], fun i hi hne => Below.heap_setCell _ _ _ _ (by simp at hne; exact hne)⟩
theorem Cod.lt {W w : World} {k : Nat} (h : Cod W w k) : k < w.heap.size := by
  obtain ⟨p, n, c, xs, t, _, _, h0, _⟩ := h.list
  exact World.block_lt_of_cell? w _ h0
theorem Cod.grown {W w w' : World} {k : Nat} {row : Option Nat} (h : Cod W w k) (hg : w.grownBy w' row) (hne : some k ≠ row) (hr : ∀ j, row = some j → W.heap.size ≤ j) : Cod W w' k := by
  have hk := h.lt
  obtain ⟨p, n, c, xs, t, hb, ht, h0, h1⟩ := h.list
  exact ⟨h.base, h.bel.grown hg h.bel.size hr, fun j => (World.frozen?_of_block (a := ⟨k, j, none⟩) (hg.block k hk hne)).trans (h.free j), p, n, c, xs, t, hb, ht, hg.cell h0 hne, hg.cell h1 hne⟩
theorem Cod.below {W w w' : World} {k : Nat} (h : Cod W w k) (hb : Below w.heap.size w w') : Cod W w' k := h.grown (row := none) (grown_of_below hb none) (by simp) (by simp)
theorem left_at (k : Nat) (p : Option Addr) (n c t : Nat) (w : World) (h0 : w.cell? ⟨k, 0, none⟩ = some (.slice p n c)) (h1 : w.cell? ⟨k, 1, none⟩ = some (.int .i64 t)) (hn : n ≤ 9223372036854775807) :
    Calls Tryd.prog 48 #[.pointer (some ⟨k, 0, none⟩)] w fun e w' => e = .returned (.bool (decide (t < n))) ∧ ∃ r, w' = w.drewN r := by
  go_enter Tryd.func48, Tryd.ntmps48
  go_wp2
  go_quiet (fail)
  go_wp2
  go_ret
  refine ⟨?_, _, rfl⟩
  simp
set_option maxHeartbeats 400000 in
theorem next_any (W w : World) (k : Nat) (h : Cod W w k) (m : Int) (hm : 1 ≤ m ∧ m ≤ 9223372036854775807) :
    Calls Tryd.prog 29 #[.pointer (some ⟨k, 0, none⟩), .int .i64 m] w fun e w' => ∃ r : Int, e = .returned (.int .i64 r) ∧ 0 ≤ r ∧ r < m ∧ Cod W w' k ∧ w.grownBy w' (some k) := by
  obtain ⟨p, n, c, xs, t, hb, ht, h0, h1⟩ := h.list
  have hle := hb.le
  by_cases hlt : t < n
  · obtain ⟨b, o, rfl, hc⟩ := hb.at_ (by omega)
    have hbl := hb.lt (by omega)
    have hbase := h.base
    have hfr := h.free 1
    have hne : b ≠ k := by omega
    have hx := (cell_below h.bel _ _ (hc t hlt))
    have hr := rng_getD hb.rng t
    generalize xs.getD t 0 = x at hx hr
    have H := hidden h
    have HB := hidden hb
    have e2 : x.tmod m = x % m := Int.tmod_eq_emod_of_nonneg hr.1
    have e3 := Int.emod_nonneg x (show m ≠ 0 by omega)
    have e4 := Int.emod_lt_of_pos x (show 0 < m by omega)
    clear h hb hc
    go_enter Tryd.func29, Tryd.ntmps29
    go_wp2_with (go_at_call 48; refine (left_at k _ _ _ t _ h0 h1 (by omega)).mono ?_; rintro e w' ⟨rfl, r, rfl⟩)
    obtain ⟨w1, hw1⟩ : ∃ v, v = (w.drewN r).setCell ⟨k, 1, none⟩ (.int .i64 (t + 1)) := ⟨_, rfl⟩
    rw [← hw1]
    have g0 : w1.cell? ⟨k, 0, none⟩ = some (.slice (some ⟨b, o, none⟩) n c) := by rw [hw1]; go_simp
    have g1 : w1.cell? ⟨k, 1, none⟩ = some (.int .i64 (t + 1)) := by rw [hw1]; go_simp
    have gx : w1.cell? ⟨b, o + t, none⟩ = some (.int .u8 x) := by rw [hw1]; go_simp
    have gf : ∀ j, w1.frozen? ⟨k, j, none⟩ = false := fun j => by rw [hw1, World.frozen?_setCell]; exact H.out.free j
    have gg : w.grownBy w1 (some k) := by rw [hw1]; exact grown_trans (grown_drewN w r _) (grown_set _ k 1 _)
    have HG := hidden gg
    have HF := hidden gf
    have HW := hidden (show Cod W w1 k from ⟨hbase, H.out.bel.grown gg H.out.bel.size (by intro j hj; simp at hj; omega), gf, _, _, _, _, t + 1, HB.out, by omega, g0, g1⟩)
    clear h0 h1 hx hw1 hfr gg gf
    go_quiet (fail)
    go_wp2
    go_ret
    exact ⟨x % m, rfl, e3, e4, HW.out.below (drew_below ⟨_, rfl⟩), grown_trans HG.out (grown_drewN _ _ _)⟩
  · have H := hidden h
    clear h hb
    go_enter Tryd.func29, Tryd.ntmps29
    go_wp2_with (go_at_call 48; refine (left_at k _ _ _ t _ h0 h1 (by omega)).mono ?_; rintro e w' ⟨rfl, r, rfl⟩)
    go_ret
    exact ⟨0, rfl, by omega, by omega, H.out.below (drew_below ⟨_, rfl⟩), grown_drewN _ _ _⟩
end Go.Proofs.YtgpigjoonhghhaaDoor
