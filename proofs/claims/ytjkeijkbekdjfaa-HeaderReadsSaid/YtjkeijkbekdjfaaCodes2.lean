/-
  A list of choices: its making, a number of 64 bits, and an int.
-/
import Derived.Test.YtjkeijkbekdjfaaCodes
namespace Go.Proofs.Ytjkeijkbekdjfaa
open Go.RowKit
set_option linter.unusedVariables false

theorem Cod.alloc {W w : World} {k : Nat} (h : Cod W w k) (o : Obj) : Cod W (w.alloc o) k := h.below ((Below.refl _ _).alloc (Nat.le_refl _) o)
/-- A store into another block of the call's own. -/
theorem Cod.set {W w : World} {k : Nat} (h : Cod W w k) (g j : Nat) (v : Value) (hg : W.heap.size ≤ g) (hne : g ≠ k) : Cod W (w.setCell ⟨g, j, none⟩ v) k :=
  h.grown (grown_set w g j v) (by simp; omega) (by simp; omega)

set_option maxHeartbeats 400000 in
theorem new_any (W : World) (p : Option Addr) (n c : Nat) (xs : List Int) (w : World) (h : Byt W p n c xs) (hb : Below W.heap.size W w) (m : Nat) (hm : m ≤ 9223372036854775807) :
    Calls Try.prog 8 #[.slice p n c, .int .i64 m] w fun e w' => e = .returned (.pointer (some ⟨w.heap.size, 0, none⟩)) ∧ Cod W w' w.heap.size ∧ Below w.heap.size w w' := by
  have hn := h.le
  have hcap := h.cap
  have hbig := h.big
  have hs := hb.size
  unfold maxLen at hbig
  have key : ∀ (w' : World) p n c xs, Byt W p n c xs → w' = w.alloc (.cells #[.slice p n c, .int .i64 0] 50) → Cod W w' w.heap.size ∧ Below w.heap.size w w' := by
    intro w' p n c xs hx hw
    have hbb := (Below.refl w.heap.size w).alloc (Nat.le_refl _) (.cells #[.slice p n c, .int .i64 0] 50)
    subst hw
    refine ⟨⟨hs, hb.alloc hs _, fun j => by go_simp, p, n, c, xs, 0, hx, Nat.zero_le _, by go_simp, by go_simp⟩, hbb⟩
  have HK := hidden key
  have H := hidden h
  clear key h hb
  by_cases hlt : m < n
  · go_enter Try.func8, Try.ntmps8
    go_wp2
    go_ret
    exact ⟨rfl, HK.out _ _ _ _ _ (H.out.front m (by omega)) rfl⟩
  · go_enter Try.func8, Try.ntmps8
    go_wp2
    go_ret
    exact ⟨rfl, HK.out _ _ _ _ _ H.out rfl⟩

set_option maxHeartbeats 400000 in
theorem word_any (W w : World) (k : Nat) (h : Cod W w k) :
    Calls Try.prog 23 #[.pointer (some ⟨k, 0, none⟩)] w fun e w' => ∃ r : Int, e = .returned (.int .u64 r) ∧ 0 ≤ r ∧ r ≤ 18446744073709551615 ∧ Cod W w' k ∧ w.grownBy w' (some k) := by
  have H := hidden h
  clear h
  go_enter Try.func23, Try.ntmps23
  go_wp2_with (go_at_call 10; refine (next_any W _ k H.out _ ?_).mono ?_; omega)
  rintro e w1 ⟨r, rfl, r0, r1, hc, hg⟩
  have HC := hidden hc
  have HG := hidden hg
  clear hc hg H
  by_cases h0 : r = 0
  · subst h0
    go_wp2_with (go_at_call 10; refine (next_any W _ k HC.out _ ?_).mono ?_; omega; rintro e w2 ⟨r2, rfl, r3, r4, hc2, hg2⟩; have HC2 := hidden hc2; have HG2 := hidden (grown_trans HG.out hg2); clear hc2 hg2)
    go_ret
    exact ⟨r2, rfl, r3, by omega, HC2.out, HG2.out⟩
  by_cases h1 : r = 1
  · subst h1
    go_wp2_with (go_at_call 10; refine (next_any W _ k HC.out _ ?_).mono ?_; omega; rintro e w2 ⟨r2, rfl, r3, r4, hc2, hg2⟩; have HC2 := hidden hc2; have HG2 := hidden (grown_trans HG.out hg2); clear hc2 hg2)
    go_ret
    exact ⟨18446744073709551615 - r2, rfl, by omega, by omega, HC2.out, HG2.out⟩
  have e0 : (r == 0) = false := by simpa using h0
  have e1 : (r == 1) = false := by simpa using h1
  go_wp2
  go_loopw [3, 4] (fun v i wr => ∃ j : Nat, j ≤ 8 ∧ i = .int .i64 j ∧ ∃ z : Int, v = .int .u64 z ∧ 0 ≤ z ∧ z ≤ 18446744073709551615 ∧ Cod W wr k ∧ w.grownBy wr (some k)) (fun _ i _ => 8 - (intOf i).toNat)
  case atStart => exact ⟨0, by omega, rfl, 0, rfl, by omega, by omega, HC.out, HG.out⟩
  case round =>
    obtain ⟨j, hj, rfl, z, rfl, z0, z1, hc, hg⟩ := hrel
    have HC1 := hidden hc
    have HG1 := hidden hg
    clear hc hg HC HG
    by_cases hlt : j < 8
    · go_wp2_with (go_at_call 10; refine (next_any W _ k HC1.out _ ?_).mono ?_; omega; rintro e w2 ⟨r2, rfl, r3, r4, hc2, hg2⟩; have HC2 := hidden hc2; have HG2 := hidden (grown_trans HG1.out hg2); clear hc2 hg2)
      go_roundw
      case rel => exact ⟨j + 1, by omega, by go_num, _, rfl, bits_lo_u64 _ _ _, bits_hi_u64 _ _ _, HC2.out, HG2.out⟩
      case measure => simp [intOf]; omega
    · obtain rfl : j = 8 := by omega
      go_wp2
      go_ret
      exact ⟨z, rfl, z0, z1, HC1.out, HG1.out⟩
end Go.Proofs.Ytjkeijkbekdjfaa
