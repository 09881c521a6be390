/-
  What wire.Number returns, for every slice of bytes, place and width.
-/
import Derived.Test.YtgpigjoonhghhaaDoorRows
import Derived.Test.YtgpigjoonhghhaaDoorQCBytes
import Derived.Test.YtgpigjoonhghhaaDoorQCNum
namespace Go.Proofs.YtgpigjoonhghhaaDoor
open Go.RowKit
set_option linter.unusedVariables false
theorem isWidth_yes (v : Int) (w : World) (h1 : 1 ≤ v) (h8 : v ≤ 8) : Calls Tryd.prog 56 #[.int .i64 v] w fun e w' => e = .returned (.bool true) ∧ w = w' := by
  go_enter Tryd.func56, Tryd.ntmps56
  go_wp2
  go_ret
  exact ⟨by simp <;> omega, rfl⟩
theorem inside_yes (p : Option Addr) (n c : Nat) (a k : Int) (w : World) (hn : n ≤ 9223372036854775807) (h1 : 0 ≤ a) (h2 : 0 ≤ k) (h3 : k ≤ n - a) :
    Calls Tryd.prog 72 #[.slice p n c, .int .i64 a, .int .i64 k] w fun e w' => e = .returned (.bool true) ∧ w = w' := by
  go_enter Tryd.func72, Tryd.ntmps72
  go_wp2
  go_ret
  exact ⟨by simp <;> omega, rfl⟩
theorem inside_no (p : Option Addr) (n c : Nat) (a k : Int) (w : World) (hn : n ≤ 9223372036854775807) (ha : a ≤ 9223372036854775807) (h : a < 0 ∨ k < 0 ∨ n - a < k) :
    Calls Tryd.prog 72 #[.slice p n c, .int .i64 a, .int .i64 k] w fun e w' => e = .returned (.bool false) ∧ w = w' := by
  by_cases h1 : 0 ≤ a
  · by_cases h2 : 0 ≤ k
    · have h3 : (n : Int) - a < k := by omega
      go_enter Tryd.func72, Tryd.ntmps72
      go_wp2
      all_goals go_ret
      all_goals exact ⟨by simp <;> omega, rfl⟩
    · go_enter Tryd.func72, Tryd.ntmps72
      go_wp2
      all_goals go_ret
      all_goals exact ⟨by simp <;> omega, rfl⟩
  · go_enter Tryd.func72, Tryd.ntmps72
    go_wp2
    all_goals go_ret
    all_goals exact ⟨by simp <;> omega, rfl⟩
set_option maxHeartbeats 400000 in
theorem number_yes (p : Option Addr) (n c : Nat) (xs : List Int) (w : World) (h : Byt w p n c xs) (a k : Nat) (h1 : 1 ≤ k) (h8 : k ≤ 8) (hin : a + k ≤ n) :
    Calls Tryd.prog 78 #[.slice p n c, .int .i64 a, .int .i64 k] w fun e w' => e = .returned (.tuple #[.int .u64 (val ((xs.drop a).take k)), .bool true]) ∧ w = w' := by
  have hn := h.le
  have hcap := h.cap
  obtain ⟨b, o, rfl, hc⟩ := h.at_ (by omega)
  have hl : ((xs.drop a).take k).length = k := by have := h.len; simp; omega
  have hr : ∀ x ∈ (xs.drop a).take k, 0 ≤ x ∧ x ≤ 255 := rng_take (rng_drop h.rng _) _
  have hcc : ∀ j, j < k → w.cell? ⟨b, o + a + j, none⟩ = some (.int .u8 (((xs.drop a).take k).getD j 0)) := fun j hj => by
    rw [Nat.add_assoc, hc (a + j) (by omega)]
    simp [List.getD_eq_getElem?_getD, List.getElem?_take_of_lt hj]
  generalize (xs.drop a).take k = ys at hl hr hcc
  clear hc h
  go_enter Tryd.func78, Tryd.ntmps78
  go_wp2_with (first | (go_at_call 56; refine (isWidth_yes _ _ (by omega) (by omega)).mono ?_; rintro e w' ⟨rfl, rfl⟩) | (go_at_call 72; refine (inside_yes _ _ _ _ _ _ (by omega) (by omega) (by omega) (by omega)).mono ?_; rintro e w' ⟨rfl, rfl⟩))
  go_loop [8, 10, 28] (fun v x i => ∃ j : Nat, j ≤ k ∧ i = .int .i64 j ∧ v = .int .u64 (val (ys.take j))) (fun _ _ i => k - (intOf i).toNat)
  case atStart => exact ⟨0, by omega, rfl, rfl⟩
  case round =>
    obtain ⟨j, hj, rfl, rfl⟩ := hrel
    by_cases hlt : j < k
    · have hcell := hcc j hlt
      have hb := rng_getD hr j
      have hv := val_56 (ys.take j) (rng_take hr j) (by simp; omega)
      have hs := hidden (val_step ys j (by omega))
      have ho := or_byte (val (ys.take j)) (ys.getD j 0) hv.1 hv.2 hb.1 hb.2
      generalize val (ys.take j) = v at *
      generalize ys.getD j 0 = x at *
      clear hcc hr hl
      go_wp2
      go_round
      case rel => exact ⟨j + 1, by omega, by go_num, by rw [hs.out]⟩
      case measure => simp [intOf]; omega
    · obtain rfl : j = k := by omega
      have hy : ys.take j = ys := List.take_of_length_le (by omega)
      clear hcc hr
      go_wp2
      go_ret2
      exact ⟨rfl, rfl⟩
end Go.Proofs.YtgpigjoonhghhaaDoor
