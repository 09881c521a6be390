/-
  What package selector reads of the beginning of some bytes.
-/
import Derived.Test.YtignenekomlleaaSelBytes
import Derived.Test.YtignenekomlleaaSelIn
import Derived.Test.YtignenekomlleaaWNumber
namespace Go.Proofs.Ytignenekomlleaa
open Go.RowKit
set_option linter.unusedVariables false

theorem numR_bd (xs : List Int) (hr : ∀ x ∈ xs, 0 ≤ x ∧ x ≤ 255) (a k : Int) : 0 ≤ (numR xs a k).1 ∧ (numR xs a k).1 ≤ 18446744073709551615 := by
  unfold numR
  split
  · rename_i h
    have hb := val_bd ((xs.drop a.toNat).take k.toNat) (rng_take (rng_drop hr _) _)
    have hl : ((xs.drop a.toNat).take k.toNat).length ≤ 8 := by simp; omega
    have h8 := pow256_le hl
    have e : (256 : Int) ^ 8 = 18446744073709551616 := by decide
    rw [e] at h8
    simp only
    omega
  · simp
theorem numR_two (xs : List Int) (hr : ∀ x ∈ xs, 0 ≤ x ∧ x ≤ 255) (a k : Int) (hk : k ≤ 2) : (numR xs a k).1 ≤ 65535 := by
  unfold numR
  split
  · rename_i h
    have hb := val_bd ((xs.drop a.toNat).take k.toNat) (rng_take (rng_drop hr _) _)
    have hl : ((xs.drop a.toNat).take k.toNat).length ≤ 2 := by simp; omega
    have h8 := pow256_le hl
    have e : (256 : Int) ^ 2 = 65536 := by decide
    rw [e] at h8
    simp only
    omega
  · simp
theorem numR_in (xs : List Int) (a k : Nat) (h1 : 1 ≤ k) (h8 : k ≤ 8) (h : a + k ≤ xs.length) : numR xs a k = (nAt xs a k, true) := by
  unfold numR nAt
  rw [if_pos (by omega)]
  rfl
theorem nAt_one (xs : List Int) (a : Nat) (h : a < xs.length) : nAt xs a 1 = xs.getD a 0 := by
  unfold nAt
  rw [List.drop_eq_getElem_cons h, List.take_succ_cons, List.take_zero, List.getD_eq_getElem?_getD, List.getElem?_eq_getElem h]
  show (0 : Int) * 256 + xs[a] = xs[a]
  omega
/-- The selector at the beginning, by the numbers that are read. -/
theorem oneS_num (xs : List Int) (K Z : Int) (hK : (numR xs 0 1).1 = K) (hZ : (numR xs 2 2).1 = Z) :
    oneS xs = if K = 7 ∧ Z = 16 ∧ 16 ≤ xs.length then some (⟨nAt xs 1 1, nAt xs 4 2, nAt xs 6 2, ⟨4, 0, nAt xs 8 4⟩, ⟨4, 0, nAt xs 12 4⟩⟩, 16)
      else if K = 8 ∧ Z = 40 ∧ 40 ≤ xs.length then some (⟨nAt xs 1 1, nAt xs 4 2, nAt xs 6 2, ⟨6, nAt xs 8 8, nAt xs 16 8⟩, ⟨6, nAt xs 24 8, nAt xs 32 8⟩⟩, 40)
      else none := by
  unfold oneS
  by_cases h : xs.length < 8
  · rw [if_pos h, if_neg (by omega), if_neg (by omega)]
  · rw [if_neg h]
    have h0 := numR_in xs 0 1 (by omega) (by omega) (by omega)
    have h2 := numR_in xs 2 2 (by omega) (by omega) (by omega)
    rw [show ((0 : Nat) : Int) = 0 from rfl, show ((1 : Nat) : Int) = 1 from rfl] at h0
    rw [show ((2 : Nat) : Int) = 2 from rfl] at h2
    rw [h0] at hK
    rw [h2] at hZ
    simp only at hK hZ
    rw [← nAt_one xs 0 (by omega), ← nAt_one xs 1 (by omega), hK, hZ]

theorem snum_any (p : Option Addr) (n c : Nat) (xs : List Int) (w : World) (h : Byt w p n c xs) (a k : Int) (ha : -9223372036854775808 ≤ a ∧ a ≤ 9223372036854775807) (hk : 0 ≤ k ∧ k ≤ 2) (v : Int) (hv : (numR xs a k).1 = v) :
    Calls Try.prog 95 #[.slice p n c, .int .i64 a, .int .i64 k] w fun e w' => e = .returned (.int .i64 v) ∧ w = w' := by
  have HN := hidden (number_any p n c xs w h a k ha (by omega))
  have b1 := numR_bd xs h.rng a k
  have b2 := numR_two xs h.rng a k hk.2
  rw [hv] at b1 b2
  obtain ⟨v', ok, hr⟩ : ∃ v' ok, numR xs a k = (v', ok) := ⟨_, _, rfl⟩
  rw [hr] at hv
  obtain rfl : v' = v := hv
  rw [hr] at HN
  have hw : IntKind.i64.wrap v' = v' := by rw [IntKind.wrap_i64]; omega
  clear h hr
  go_enter Try.func95, Try.ntmps95
  go_wp2_with (first
    | (go_at_call 121; (with_reducible refine (HN.out).mono ?_); rintro e w' ⟨rfl, rfl⟩)
    | fail)
  go_ret
  exact ⟨rfl, rfl⟩

theorem num_b (p : Option Addr) (n c : Nat) (xs : List Int) (w : World) (h : Byt w p n c xs) (a k : Nat) (A K : Int) (hA : A = a) (hK : K = k) (h1 : 1 ≤ k) (h8 : k ≤ 8) (hin : a + k ≤ n) :
    Calls Try.prog 121 #[.slice p n c, .int .i64 A, .int .i64 K] w fun e w' => e = .returned (.tuple #[.int .u64 (nAt xs a k), .bool true]) ∧ w = w' := by
  subst hA hK
  exact number_yes p n c xs w h a k h1 h8 hin
theorem read4_any (p : Option Addr) (n c : Nat) (xs : List Int) (w : World) (h : Byt w p n c xs) (a : Nat) (A : Int) (hA : A = a) (hin : a + 4 ≤ n) :
    Calls Try.prog 96 #[.slice p n c, .int .i64 A] w fun e w' => e = .returned (.agg #[.int .i64 4, .int .u64 0, .int .u64 (nAt xs a 4)]) ∧ Below w.heap.size w w' := by
  subst hA
  have hn := h.le
  have HN := hidden (num_b p n c xs _ (h.alloc (.cells #[.int .i64 0, .int .u64 0, .int .u64 0] 46)) a 4 a 4 rfl rfl (by omega) (by omega) (by omega))
  have HB := hidden ((Below.refl w.heap.size w).alloc (Nat.le_refl _) (.cells #[.int .i64 0, .int .u64 0, .int .u64 0] 46))
  clear h
  go_enter Try.func96, Try.ntmps96
  go_wp2_with (first
    | (go_at_call 121; (with_reducible refine (HN.out).mono ?_); rintro e w' ⟨rfl, rfl⟩)
    | fail)
  refine ret_ad (g := w.heap.size) (x := ⟨4, 0, nAt xs a 4⟩) rfl rfl rfl (AdIn.new w ⟨4, 0, nAt xs a 4⟩ _) ?_
  exact ⟨rfl, (Below.refl w.heap.size w).alloc (Nat.le_refl _) _⟩
theorem read6_any (p : Option Addr) (n c : Nat) (xs : List Int) (w : World) (h : Byt w p n c xs) (a : Nat) (A : Int) (hA : A = a) (hin : a + 16 ≤ n) :
    Calls Try.prog 97 #[.slice p n c, .int .i64 A] w fun e w' => e = .returned (.agg #[.int .i64 6, .int .u64 (nAt xs a 8), .int .u64 (nAt xs (a + 8) 8)]) ∧ Below w.heap.size w w' := by
  subst hA
  have hn := h.le
  have HN := hidden (num_b p n c xs _ (h.alloc (.cells #[.int .i64 0, .int .u64 0, .int .u64 0] 46)) a 8 a 8 rfl rfl (by omega) (by omega) (by omega))
  have HM := hidden (num_b p n c xs _ (h.alloc (.cells #[.int .i64 0, .int .u64 0, .int .u64 0] 46)) (a + 8) 8 ((a : Int) + 8) 8 (by omega) rfl (by omega) (by omega) (by omega))
  have hw : IntKind.i64.wrap ((a : Int) + 8) = (a : Int) + 8 := by rw [IntKind.wrap_i64]; omega
  clear h
  go_enter Try.func97, Try.ntmps97
  go_wp2_with (first
    | (go_at_call 121; (first | (with_reducible refine (HN.out).mono ?_) | (with_reducible refine (HM.out).mono ?_)); rintro e w' ⟨rfl, rfl⟩)
    | fail)
  refine ret_ad (g := w.heap.size) (x := ⟨6, nAt xs a 8, nAt xs (a + 8) 8⟩) rfl rfl rfl (AdIn.new w ⟨6, nAt xs a 8, nAt xs (a + 8) 8⟩ _) ?_
  exact ⟨rfl, (Below.refl w.heap.size w).alloc (Nat.le_refl _) _⟩
end Go.Proofs.Ytignenekomlleaa
