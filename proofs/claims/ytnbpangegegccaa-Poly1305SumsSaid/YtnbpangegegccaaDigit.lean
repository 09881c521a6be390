/-
  What wire's digit and the document's own Digit return: the value of a hexadecimal digit, -1 for another byte.
-/
import Derived.Test.YtnbpangegegccaaRows
import Derived.Test.YtnbpangegegccaaBytes
import Derived.Test.YtnbpangegegccaaText
namespace Go.Proofs.Ytnbpangegegccaa
open Go.RowKit
set_option linter.unusedVariables false

theorem first_of (c : Int) (h0 : 0 ≤ c) (h1 : c ≤ 255) : firstIdx ⟨#[48, 49, 50, 51, 52, 53, 54, 55, 56, 57, 97, 98, 99, 100, 101, 102]⟩ c.toNat.toUInt8 =
    (if 48 ≤ c ∧ c ≤ 57 then c - 48 else if 97 ≤ c ∧ c ≤ 102 then c - 87 else -1) := by
  have := first_small ⟨c.toNat, by omega⟩
  have e : c.toNat.toUInt8 = UInt8.ofNat c.toNat := rfl
  rw [e]
  simp only at this
  rw [this]
  have e2 : (c.toNat : Int) = c := by omega
  have e3 : (48 ≤ c.toNat ∧ c.toNat ≤ 57) = (48 ≤ c ∧ c ≤ 57) := by apply propext; omega
  have e4 : (97 ≤ c.toNat ∧ c.toNat ≤ 102) = (97 ≤ c ∧ c ≤ 102) := by apply propext; omega
  simp only [e2, e3, e4]

set_option maxHeartbeats 800000 in
theorem rdigit_any (c : Int) (w : World) (h0 : 0 ≤ c) (h1 : c ≤ 255) : Calls Try.prog 32 #[.int .u8 c] w fun e w' => e = .returned (.int .i64 (dg c)) ∧ w = w' := by
  by_cases a1 : 48 ≤ c ∧ c ≤ 57
  · have hd : dg c = c - 48 := by unfold dg; rw [if_pos a1]
    rw [hd]
    clear hd
    obtain ⟨b1, b2⟩ := a1
    go_enter Try.func32, Try.ntmps32
    go_wp2
    go_ret
    exact ⟨rfl, rfl⟩
  by_cases a2 : 97 ≤ c ∧ c ≤ 102
  · have hd : dg c = c - 97 + 10 := by unfold dg; rw [if_neg a1, if_pos a2]; omega
    rw [hd]
    clear hd
    obtain ⟨b1, b2⟩ := a2
    have b3 : ¬ c ≤ 57 := by omega
    have b4 : 48 ≤ c := by omega
    clear a1
    go_enter Try.func32, Try.ntmps32
    go_wp2
    go_ret
    exact ⟨rfl, rfl⟩
  by_cases a3 : 65 ≤ c ∧ c ≤ 70
  · have hd : dg c = c - 65 + 10 := by unfold dg; rw [if_neg a1, if_neg a2, if_pos a3]; omega
    rw [hd]
    clear hd
    obtain ⟨b1, b2⟩ := a3
    have b3 : ¬ c ≤ 57 := by omega
    have b4 : 48 ≤ c := by omega
    have b5 : ¬ 97 ≤ c := by omega
    clear a1 a2
    go_enter Try.func32, Try.ntmps32
    go_wp2
    go_ret
    exact ⟨rfl, rfl⟩
  · have hd : dg c = -1 := by unfold dg; rw [if_neg a1, if_neg a2, if_neg a3]
    rw [hd]
    clear hd
    have key : (c < 48) ∨ (57 < c ∧ c < 65) ∨ (70 < c ∧ c < 97) ∨ (102 < c) := by omega
    clear a1 a2 a3
    rcases key with b | ⟨b1, b2⟩ | ⟨b1, b2⟩ | b
    all_goals
      go_enter Try.func32, Try.ntmps32
      go_wp2
      go_ret
      exact ⟨rfl, rfl⟩
theorem rdigit_quiet (c : Int) (w : World) (h0 : 0 ≤ c) (h1 : c ≤ 255) : Calls Try.prog 32 #[.int .u8 c] w fun e w' => e = .returned (.int .i64 (dg c)) ∧ w' = w :=
  (rdigit_any c w h0 h1).mono fun _ _ ⟨h1, h2⟩ => ⟨h1, h2.symm⟩
end Go.Proofs.Ytnbpangegegccaa
