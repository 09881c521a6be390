/-
  What the laws of chapter 13 use: public numbers and powers told for what they are.
-/
import Derived.Test.YtgagdfafgephoaaGrpPub
import Derived.Test.YtgagdfafgephoaaRCompare
namespace Go.Proofs.Ytgagdfafgephoaa
open Go.RowKit
set_option linter.unusedVariables false

theorem pub_secret (s : Nat) (h1 : 1 ≤ s) (h2 : s < gq) (W : World) : Calls Try.prog 18 #[.int .u64 s] W fun e w' => e = .returned (.tuple #[.int .u64 ((gpow 4 s : Nat) : Int), .int .i64 0]) ∧ Below W.heap.size W w' := by
  have h := pub_any s (Nat.lt_trans h2 (by decide)) W
  unfold pubV pubE at h
  rw [if_pos (gsec_yes s ⟨h1, h2⟩), if_pos (gsec_yes s ⟨h1, h2⟩)] at h
  exact h
/-- A power that is known. -/
theorem pow_known (a e : Nat) (A E R : Int) (ha : a < 18446744073709551616) (he : e < 18446744073709551616) (hA : A = (a : Int)) (hE : E = (e : Int)) (hR : ((gpow a e : Nat) : Int) = R) (W : World) :
    Calls Try.prog 11 #[.int .u64 A, .int .u64 E] W fun en w' => en = .returned (.int .u64 R) ∧ Below W.heap.size W w' := by
  subst hA hE hR
  exact gpow_any a e ha he W
theorem mul_known (a b : Nat) (A B R : Int) (ha : a < 18446744073709551616) (hb : b < 18446744073709551616) (hA : A = (a : Int)) (hB : B = (b : Int)) (hR : ((gmul a b : Nat) : Int) = R) (W : World) :
    Calls Try.prog 9 #[.int .u64 A, .int .u64 B] W fun en w' => en = .returned (.int .u64 R) ∧ Below W.heap.size W w' := by
  subst hA hB hR
  exact gmul_any a b ha hb W
theorem gp_lt : gp < 18446744073709551616 := by decide
theorem below_grown {base : Nat} {w w' w'' : World} {k : Nat} (h : Below base w w') (hs : base ≤ w'.heap.size) (hg : w'.grownBy w'' (some k)) (hk : base ≤ k) : Below base w w'' := h.grown hg hs (fun j e => by cases e; exact hk)
end Go.Proofs.Ytgagdfafgephoaa
