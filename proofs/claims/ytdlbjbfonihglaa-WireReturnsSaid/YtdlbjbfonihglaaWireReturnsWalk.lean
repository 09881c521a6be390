/-
  The walk of the law WireReturns: a number that was appended is read again.
-/
import Derived.Test.YtdlbjbfonihglaaAwake
import Derived.Test.YtdlbjbfonihglaaWPut
import Derived.Test.YtdlbjbfonihglaaWEqual
namespace Go.Proofs.Ytdlbjbfonihglaa
open Go.RowKit
set_option linter.unusedVariables false

theorem numR_put (xs : List Int) (v : Int) (k : Nat) (h1 : 1 ≤ k) (h8 : k ≤ 8) : numR (xs ++ be k v) xs.length k = (v % 2 ^ (8 * k), true) := by
  rw [numR, if_pos (by rw [List.length_append, be_len]; omega)]
  simp only [Int.toNat_natCast, List.drop_left]
  rw [List.take_of_length_le (by rw [be_len]; exact Nat.le_refl _), val_be]
theorem mask64 (k : Nat) (hk : k ≤ 64) (v : Int) (h0 : 0 ≤ v) (h1 : v ≤ 18446744073709551615) : bits .and .u64 v (2 ^ k - 1) = v % 2 ^ k :=
  bits_mask .u64 64 (by decide) wraps_u64 k hk v h0 (by omega)

theorem mask_all (v : Int) (h0 : 0 ≤ v) (h1 : v ≤ 18446744073709551615) : v % 2 ^ (8 * 8) = v ∧ bits .and .u64 v 255 = v % 2 ^ (8 * 1) ∧ bits .and .u64 v 65535 = v % 2 ^ (8 * 2) ∧ bits .and .u64 v 16777215 = v % 2 ^ (8 * 3) ∧ bits .and .u64 v 4294967295 = v % 2 ^ (8 * 4) ∧
    bits .and .u64 v 1099511627775 = v % 2 ^ (8 * 5) ∧ bits .and .u64 v 281474976710655 = v % 2 ^ (8 * 6) ∧ bits .and .u64 v 72057594037927935 = v % 2 ^ (8 * 7) :=
  ⟨by omega, mask64 8 (by decide) v h0 h1, mask64 16 (by decide) v h0 h1, mask64 24 (by decide) v h0 h1, mask64 32 (by decide) v h0 h1, mask64 40 (by decide) v h0 h1, mask64 48 (by decide) v h0 h1, mask64 56 (by decide) v h0 h1⟩

/-- What the walk needs to know of Put, Number and Equal at one width. -/
structure Facts (w : World) (p : Option Addr) (n c : Nat) (v kz r : Int) (N : Nat) : Prop where
  c1 : ∀ W, Below w.heap.size w W → Calls Try.prog 15 #[.slice p n c, .int .u64 v, .int .i64 kz] W fun e W' => ∃ t f, e = .returned (.slice t N f) ∧ Below w.heap.size w W' ∧ n ≤ f ∧
    (∀ V, Below W'.heap.size W' V → Calls Try.prog 12 #[.slice t N f, .int .i64 n, .int .i64 kz] V fun e V' => e = .returned (.tuple #[.int .u64 r, .bool true]) ∧ V = V') ∧
    (∀ V, Below W'.heap.size W' V → Calls Try.prog 21 #[.slice t n f, .slice p n c] V fun e V' => e = .returned (.bool true) ∧ V = V')

theorem facts (p : Option Addr) (n c : Nat) (xs : List Int) (v : Int) (w : World) (h : Byt w p n c xs) (b0 : c ≤ 140737488351232) (g1 : 0 ≤ v ∧ v ≤ 18446744073709551615) (k : Nat) (h1 : 1 ≤ k) (h8 : k ≤ 8) : Facts w p n c v k (v % 2 ^ (8 * k)) (n + k) := by
  have l0 := h.cap
  have hl := h.len
  refine ⟨fun W hb => (put_yes p n c xs W (h.below hb) (by omega) v g1 k h1 h8).mono ?_⟩
  rintro e W' ⟨u, rfl, ho, hb2⟩
  obtain ⟨t, f, rfl, hy⟩ := ho.bytN rfl (show (xs ++ be k v).length = n + k by rw [List.length_append, be_len, hl]) (rng_append h.rng (be_rng k v))
  have hb3 := hb.trans (hb2.mono hb.size)
  refine ⟨t, f, rfl, hb3, by have := hy.cap; omega, fun V hV => ?_, fun V hV => ?_⟩
  · have := number_any t (n + k) f _ V (hy.below hV) n k (by omega) (by omega)
    rw [← hl, numR_put xs v k h1 h8] at this
    rw [← hl]
    exact this
  · have := equal_any t p n f n c _ xs V ((hy.below hV).front n (by omega)) (h.below (hb3.trans (hV.mono hb3.size)))
    rw [← hl, List.take_left, decide_eq_true rfl] at this
    rw [← hl]
    exact this

set_option maxHeartbeats 800000 in
theorem wireReturns_8 (p : Option Addr) (n c : Nat) (v r z : Int) (w : World) (hz : z % 8 = 7) (b0 : n ≤ 140737488351232) (g1 : 0 ≤ v ∧ v ≤ 18446744073709551615) (g2 : 0 ≤ z ∧ z ≤ 255) (N : Nat) (hN : N = n + 8) (F : Facts w p n c v 8 v N) :
    Calls Try.prog 6 #[.slice p n c, .int .u64 v, .int .u8 z] w fun e w' => e = .returned (.bool true) ∧ Below w.heap.size w w' := by
  have H := hidden F.c1
  clear F
  have hN2 : (N : Int) = (n : Int) + 8 := by omega
  have hN3 : ((N : Int) == (n : Int) + 8) = true := by simp [hN2]
  have hnN : n ≤ N := by omega
  clear hN hN2
  go_enter Try.func6, Try.ntmps6
  go_wp2_with (first
    | (go_at_call 10; refine (awake_any _).mono ?_; rintro e w1 ⟨rfl, hb1⟩; have HB := hidden hb1; clear hb1)
    | (go_at_call 15; (with_reducible refine (H.out _ HB.out).mono ?_); rintro e w2 ⟨t, f, rfl, hb2, hnf, d2, d3⟩; have HB2 := hidden hb2; have D2 := hidden (d2 _ (Below.refl _ _)); have D3 := hidden (d3 _ (Below.refl _ _)); clear hb2 d2 d3)
    | (go_at_call 12; (with_reducible refine D2.out.mono ?_); rintro e w' ⟨rfl, rfl⟩)
    | (go_at_call 21; (with_reducible refine D3.out.mono ?_); rintro e w' ⟨rfl, rfl⟩))
  go_ret
  exact ⟨rfl, HB2.out⟩

set_option maxHeartbeats 800000 in
theorem wireReturns_1 (p : Option Addr) (n c : Nat) (v r z : Int) (w : World) (hz : z % 8 = 0) (b0 : n ≤ 140737488351232) (g1 : 0 ≤ v ∧ v ≤ 18446744073709551615) (g2 : 0 ≤ z ∧ z ≤ 255) (hm : bits .and .u64 v 255 = r) (N : Nat) (hN : N = n + 1) (F : Facts w p n c v 1 r N) :
    Calls Try.prog 6 #[.slice p n c, .int .u64 v, .int .u8 z] w fun e w' => e = .returned (.bool true) ∧ Below w.heap.size w w' := by
  have H := hidden F.c1
  clear F
  have hN2 : (N : Int) = (n : Int) + 1 := by omega
  have hN3 : ((N : Int) == (n : Int) + 1) = true := by simp [hN2]
  have hnN : n ≤ N := by omega
  clear hN hN2
  go_enter Try.func6, Try.ntmps6
  go_wp2_with (first
    | (go_at_call 10; refine (awake_any _).mono ?_; rintro e w1 ⟨rfl, hb1⟩; have HB := hidden hb1; clear hb1)
    | (go_at_call 15; (with_reducible refine (H.out _ HB.out).mono ?_); rintro e w2 ⟨t, f, rfl, hb2, hnf, d2, d3⟩; have HB2 := hidden hb2; have D2 := hidden (d2 _ (Below.refl _ _)); have D3 := hidden (d3 _ (Below.refl _ _)); clear hb2 d2 d3)
    | (go_at_call 12; (with_reducible refine D2.out.mono ?_); rintro e w' ⟨rfl, rfl⟩)
    | (go_at_call 21; (with_reducible refine D3.out.mono ?_); rintro e w' ⟨rfl, rfl⟩))
  go_ret
  exact ⟨rfl, HB2.out⟩

set_option maxHeartbeats 800000 in
theorem wireReturns_2 (p : Option Addr) (n c : Nat) (v r z : Int) (w : World) (hz : z % 8 = 1) (b0 : n ≤ 140737488351232) (g1 : 0 ≤ v ∧ v ≤ 18446744073709551615) (g2 : 0 ≤ z ∧ z ≤ 255) (hm : bits .and .u64 v 65535 = r) (N : Nat) (hN : N = n + 2) (F : Facts w p n c v 2 r N) :
    Calls Try.prog 6 #[.slice p n c, .int .u64 v, .int .u8 z] w fun e w' => e = .returned (.bool true) ∧ Below w.heap.size w w' := by
  have H := hidden F.c1
  clear F
  have hN2 : (N : Int) = (n : Int) + 2 := by omega
  have hN3 : ((N : Int) == (n : Int) + 2) = true := by simp [hN2]
  have hnN : n ≤ N := by omega
  clear hN hN2
  go_enter Try.func6, Try.ntmps6
  go_wp2_with (first
    | (go_at_call 10; refine (awake_any _).mono ?_; rintro e w1 ⟨rfl, hb1⟩; have HB := hidden hb1; clear hb1)
    | (go_at_call 15; (with_reducible refine (H.out _ HB.out).mono ?_); rintro e w2 ⟨t, f, rfl, hb2, hnf, d2, d3⟩; have HB2 := hidden hb2; have D2 := hidden (d2 _ (Below.refl _ _)); have D3 := hidden (d3 _ (Below.refl _ _)); clear hb2 d2 d3)
    | (go_at_call 12; (with_reducible refine D2.out.mono ?_); rintro e w' ⟨rfl, rfl⟩)
    | (go_at_call 21; (with_reducible refine D3.out.mono ?_); rintro e w' ⟨rfl, rfl⟩))
  go_ret
  exact ⟨rfl, HB2.out⟩

set_option maxHeartbeats 800000 in
theorem wireReturns_3 (p : Option Addr) (n c : Nat) (v r z : Int) (w : World) (hz : z % 8 = 2) (b0 : n ≤ 140737488351232) (g1 : 0 ≤ v ∧ v ≤ 18446744073709551615) (g2 : 0 ≤ z ∧ z ≤ 255) (hm : bits .and .u64 v 16777215 = r) (N : Nat) (hN : N = n + 3) (F : Facts w p n c v 3 r N) :
    Calls Try.prog 6 #[.slice p n c, .int .u64 v, .int .u8 z] w fun e w' => e = .returned (.bool true) ∧ Below w.heap.size w w' := by
  have H := hidden F.c1
  clear F
  have hN2 : (N : Int) = (n : Int) + 3 := by omega
  have hN3 : ((N : Int) == (n : Int) + 3) = true := by simp [hN2]
  have hnN : n ≤ N := by omega
  clear hN hN2
  go_enter Try.func6, Try.ntmps6
  go_wp2_with (first
    | (go_at_call 10; refine (awake_any _).mono ?_; rintro e w1 ⟨rfl, hb1⟩; have HB := hidden hb1; clear hb1)
    | (go_at_call 15; (with_reducible refine (H.out _ HB.out).mono ?_); rintro e w2 ⟨t, f, rfl, hb2, hnf, d2, d3⟩; have HB2 := hidden hb2; have D2 := hidden (d2 _ (Below.refl _ _)); have D3 := hidden (d3 _ (Below.refl _ _)); clear hb2 d2 d3)
    | (go_at_call 12; (with_reducible refine D2.out.mono ?_); rintro e w' ⟨rfl, rfl⟩)
    | (go_at_call 21; (with_reducible refine D3.out.mono ?_); rintro e w' ⟨rfl, rfl⟩))
  go_ret
  exact ⟨rfl, HB2.out⟩

set_option maxHeartbeats 800000 in
theorem wireReturns_4 (p : Option Addr) (n c : Nat) (v r z : Int) (w : World) (hz : z % 8 = 3) (b0 : n ≤ 140737488351232) (g1 : 0 ≤ v ∧ v ≤ 18446744073709551615) (g2 : 0 ≤ z ∧ z ≤ 255) (hm : bits .and .u64 v 4294967295 = r) (N : Nat) (hN : N = n + 4) (F : Facts w p n c v 4 r N) :
    Calls Try.prog 6 #[.slice p n c, .int .u64 v, .int .u8 z] w fun e w' => e = .returned (.bool true) ∧ Below w.heap.size w w' := by
  have H := hidden F.c1
  clear F
  have hN2 : (N : Int) = (n : Int) + 4 := by omega
  have hN3 : ((N : Int) == (n : Int) + 4) = true := by simp [hN2]
  have hnN : n ≤ N := by omega
  clear hN hN2
  go_enter Try.func6, Try.ntmps6
  go_wp2_with (first
    | (go_at_call 10; refine (awake_any _).mono ?_; rintro e w1 ⟨rfl, hb1⟩; have HB := hidden hb1; clear hb1)
    | (go_at_call 15; (with_reducible refine (H.out _ HB.out).mono ?_); rintro e w2 ⟨t, f, rfl, hb2, hnf, d2, d3⟩; have HB2 := hidden hb2; have D2 := hidden (d2 _ (Below.refl _ _)); have D3 := hidden (d3 _ (Below.refl _ _)); clear hb2 d2 d3)
    | (go_at_call 12; (with_reducible refine D2.out.mono ?_); rintro e w' ⟨rfl, rfl⟩)
    | (go_at_call 21; (with_reducible refine D3.out.mono ?_); rintro e w' ⟨rfl, rfl⟩))
  go_ret
  exact ⟨rfl, HB2.out⟩

set_option maxHeartbeats 800000 in
theorem wireReturns_5 (p : Option Addr) (n c : Nat) (v r z : Int) (w : World) (hz : z % 8 = 4) (b0 : n ≤ 140737488351232) (g1 : 0 ≤ v ∧ v ≤ 18446744073709551615) (g2 : 0 ≤ z ∧ z ≤ 255) (hm : bits .and .u64 v 1099511627775 = r) (N : Nat) (hN : N = n + 5) (F : Facts w p n c v 5 r N) :
    Calls Try.prog 6 #[.slice p n c, .int .u64 v, .int .u8 z] w fun e w' => e = .returned (.bool true) ∧ Below w.heap.size w w' := by
  have H := hidden F.c1
  clear F
  have hN2 : (N : Int) = (n : Int) + 5 := by omega
  have hN3 : ((N : Int) == (n : Int) + 5) = true := by simp [hN2]
  have hnN : n ≤ N := by omega
  clear hN hN2
  go_enter Try.func6, Try.ntmps6
  go_wp2_with (first
    | (go_at_call 10; refine (awake_any _).mono ?_; rintro e w1 ⟨rfl, hb1⟩; have HB := hidden hb1; clear hb1)
    | (go_at_call 15; (with_reducible refine (H.out _ HB.out).mono ?_); rintro e w2 ⟨t, f, rfl, hb2, hnf, d2, d3⟩; have HB2 := hidden hb2; have D2 := hidden (d2 _ (Below.refl _ _)); have D3 := hidden (d3 _ (Below.refl _ _)); clear hb2 d2 d3)
    | (go_at_call 12; (with_reducible refine D2.out.mono ?_); rintro e w' ⟨rfl, rfl⟩)
    | (go_at_call 21; (with_reducible refine D3.out.mono ?_); rintro e w' ⟨rfl, rfl⟩))
  go_ret
  exact ⟨rfl, HB2.out⟩

set_option maxHeartbeats 800000 in
theorem wireReturns_6 (p : Option Addr) (n c : Nat) (v r z : Int) (w : World) (hz : z % 8 = 5) (b0 : n ≤ 140737488351232) (g1 : 0 ≤ v ∧ v ≤ 18446744073709551615) (g2 : 0 ≤ z ∧ z ≤ 255) (hm : bits .and .u64 v 281474976710655 = r) (N : Nat) (hN : N = n + 6) (F : Facts w p n c v 6 r N) :
    Calls Try.prog 6 #[.slice p n c, .int .u64 v, .int .u8 z] w fun e w' => e = .returned (.bool true) ∧ Below w.heap.size w w' := by
  have H := hidden F.c1
  clear F
  have hN2 : (N : Int) = (n : Int) + 6 := by omega
  have hN3 : ((N : Int) == (n : Int) + 6) = true := by simp [hN2]
  have hnN : n ≤ N := by omega
  clear hN hN2
  go_enter Try.func6, Try.ntmps6
  go_wp2_with (first
    | (go_at_call 10; refine (awake_any _).mono ?_; rintro e w1 ⟨rfl, hb1⟩; have HB := hidden hb1; clear hb1)
    | (go_at_call 15; (with_reducible refine (H.out _ HB.out).mono ?_); rintro e w2 ⟨t, f, rfl, hb2, hnf, d2, d3⟩; have HB2 := hidden hb2; have D2 := hidden (d2 _ (Below.refl _ _)); have D3 := hidden (d3 _ (Below.refl _ _)); clear hb2 d2 d3)
    | (go_at_call 12; (with_reducible refine D2.out.mono ?_); rintro e w' ⟨rfl, rfl⟩)
    | (go_at_call 21; (with_reducible refine D3.out.mono ?_); rintro e w' ⟨rfl, rfl⟩))
  go_ret
  exact ⟨rfl, HB2.out⟩

set_option maxHeartbeats 800000 in
theorem wireReturns_7 (p : Option Addr) (n c : Nat) (v r z : Int) (w : World) (hz : z % 8 = 6) (b0 : n ≤ 140737488351232) (g1 : 0 ≤ v ∧ v ≤ 18446744073709551615) (g2 : 0 ≤ z ∧ z ≤ 255) (hm : bits .and .u64 v 72057594037927935 = r) (N : Nat) (hN : N = n + 7) (F : Facts w p n c v 7 r N) :
    Calls Try.prog 6 #[.slice p n c, .int .u64 v, .int .u8 z] w fun e w' => e = .returned (.bool true) ∧ Below w.heap.size w w' := by
  have H := hidden F.c1
  clear F
  have hN2 : (N : Int) = (n : Int) + 7 := by omega
  have hN3 : ((N : Int) == (n : Int) + 7) = true := by simp [hN2]
  have hnN : n ≤ N := by omega
  clear hN hN2
  go_enter Try.func6, Try.ntmps6
  go_wp2_with (first
    | (go_at_call 10; refine (awake_any _).mono ?_; rintro e w1 ⟨rfl, hb1⟩; have HB := hidden hb1; clear hb1)
    | (go_at_call 15; (with_reducible refine (H.out _ HB.out).mono ?_); rintro e w2 ⟨t, f, rfl, hb2, hnf, d2, d3⟩; have HB2 := hidden hb2; have D2 := hidden (d2 _ (Below.refl _ _)); have D3 := hidden (d3 _ (Below.refl _ _)); clear hb2 d2 d3)
    | (go_at_call 12; (with_reducible refine D2.out.mono ?_); rintro e w' ⟨rfl, rfl⟩)
    | (go_at_call 21; (with_reducible refine D3.out.mono ?_); rintro e w' ⟨rfl, rfl⟩))
  go_ret
  exact ⟨rfl, HB2.out⟩

theorem wireReturns_walk (p : Option Addr) (n c : Nat) (xs : List Int) (v z : Int) (w : World)
    (h : Byt w p n c xs) (b0 : c ≤ 140737488351232) (g1 : 0 ≤ v ∧ v ≤ 18446744073709551615) (g2 : 0 ≤ z ∧ z ≤ 255) :
    Calls Try.prog 6 #[.slice p n c, .int .u64 v, .int .u8 z] w fun e w' => e = .returned (.bool true) ∧ Below w.heap.size w w' := by
  have l0 := h.cap
  have F := facts p n c xs v w h b0 g1
  obtain ⟨m8, m1, m2, m3, m4, m5, m6, m7⟩ := mask_all v g1.1 g1.2
  have hz : z % 8 = 7 ∨ z % 8 = 0 ∨ z % 8 = 1 ∨ z % 8 = 2 ∨ z % 8 = 3 ∨ z % 8 = 4 ∨ z % 8 = 5 ∨ z % 8 = 6 := by omega
  rcases hz with hz | hz | hz | hz | hz | hz | hz | hz
  · have F8 := F 8 (by omega) (by omega)
    rw [m8] at F8
    exact wireReturns_8 p n c v 0 z w hz (by omega) g1 g2 _ rfl F8
  · exact wireReturns_1 p n c v _ z w hz (by omega) g1 g2 m1 _ rfl (F 1 (by omega) (by omega))
  · exact wireReturns_2 p n c v _ z w hz (by omega) g1 g2 m2 _ rfl (F 2 (by omega) (by omega))
  · exact wireReturns_3 p n c v _ z w hz (by omega) g1 g2 m3 _ rfl (F 3 (by omega) (by omega))
  · exact wireReturns_4 p n c v _ z w hz (by omega) g1 g2 m4 _ rfl (F 4 (by omega) (by omega))
  · exact wireReturns_5 p n c v _ z w hz (by omega) g1 g2 m5 _ rfl (F 5 (by omega) (by omega))
  · exact wireReturns_6 p n c v _ z w hz (by omega) g1 g2 m6 _ rfl (F 6 (by omega) (by omega))
  · exact wireReturns_7 p n c v _ z w hz (by omega) g1 g2 m7 _ rfl (F 7 (by omega) (by omega))
end Go.Proofs.Ytdlbjbfonihglaa
