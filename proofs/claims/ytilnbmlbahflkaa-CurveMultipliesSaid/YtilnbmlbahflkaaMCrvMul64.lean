/-
  curve.addProduct, and Mul64 and Add64 of math/bits.
-/
import Derived.Test.YtilnbmlbahflkaaRows
import Derived.Test.YtilnbmlbahflkaaMBytes
import Derived.Test.YtilnbmlbahflkaaMNum
import Derived.Test.YtilnbmlbahflkaaMIs
import Derived.Deep.Cut
import Derived.Deep.CutRange
import Derived.Lib.Mul64
import Derived.Laws.BitsAllLaws
import Derived.Laws.Externs
namespace Go.Proofs.Ytilnbmlbahflkaa
open Go.RowKit
set_option linter.unusedVariables false

theorem low32 (x : Int) (h0 : 0 ≤ x) (h1 : x < 18446744073709551616) : bits .and .u64 x 4294967295 = x % 4294967296 := by
  rw [u64_and x 4294967295 h0 h1 (by decide) (by decide)]
  have e : x.toNat &&& (4294967295 : Int).toNat = x.toNat % 4294967296 := Nat.and_two_pow_sub_one_eq_mod x.toNat 32
  rw [e]
  omega
theorem low32N (a : Nat) (ha : a < 18446744073709551616) : bits .and .u64 (a : Int) 4294967295 = ((a % 4294967296 : Nat) : Int) := by
  rw [low32 _ (by omega) (by omega)]
  omega
theorem hi32N (a : Nat) : (a : Int) / 4294967296 = ((a / 4294967296 : Nat) : Int) := by omega
theorem mulNN (a b : Nat) : (a : Int) * (b : Int) = ((a * b : Nat) : Int) := (Int.natCast_mul a b).symm
theorem addNN (a b : Nat) : (a : Int) + (b : Int) = ((a + b : Nat) : Int) := (Int.natCast_add a b).symm
theorem wrapNN (a : Nat) (ha : a < 18446744073709551616) : IntKind.u64.wrap (a : Int) = (a : Int) := by rw [IntKind.wrap_u64]; omega
theorem wrapMN (a : Nat) : IntKind.u64.wrap (a : Int) = ((a % 18446744073709551616 : Nat) : Int) := by rw [IntKind.wrap_u64]; omega

set_option maxHeartbeats 1000000 in
theorem mul64_any (x y : Nat) (hx : x < 18446744073709551616) (hy : y < 18446744073709551616) (w : World) :
    Calls Try.prog 37 #[.int .u64 x, .int .u64 y] w fun e w' => e = .returned (.tuple #[.int .u64 ((x * y / 18446744073709551616 : Nat) : Int), .int .u64 ((x * y % 18446744073709551616 : Nat) : Int)]) ∧ w' = w := by
  obtain ⟨bd, bt, bw, hhi⟩ := Lib.mul64_hi x y hx hy
  have ba := Lib.half_mul_le (a := x / 4294967296) (b := y / 4294967296) (by omega) (by omega)
  have bb := Lib.half_mul_le (a := x / 4294967296) (b := y % 4294967296) (by omega) (by omega)
  have bc := Lib.half_mul_le (a := x % 4294967296) (b := y / 4294967296) (by omega) (by omega)
  have ba' : x / 4294967296 * (y / 4294967296) < 18446744073709551616 := by omega
  have bb' : x / 4294967296 * (y % 4294967296) < 18446744073709551616 := by omega
  have bc' : x % 4294967296 * (y / 4294967296) < 18446744073709551616 := by omega
  have bh1 : x / 4294967296 * (y / 4294967296) + (x / 4294967296 * (y % 4294967296) + x % 4294967296 * (y % 4294967296) / 4294967296) / 4294967296 < 18446744073709551616 := by omega
  have bh : x / 4294967296 * (y / 4294967296) + (x / 4294967296 * (y % 4294967296) + x % 4294967296 * (y % 4294967296) / 4294967296) / 4294967296 + ((x / 4294967296 * (y % 4294967296) + x % 4294967296 * (y % 4294967296) / 4294967296) % 4294967296 + x % 4294967296 * (y / 4294967296)) / 4294967296 < 18446744073709551616 := by omega
  go_enter Try.func37, Try.ntmps37
  go_wp2
  simp only [low32N x hx, low32N y hy, hi32N, mulNN, addNN, wrapNN _ bd, wrapNN _ bb', wrapNN _ bt, low32N _ bt, wrapNN _ bc', wrapNN _ bw, wrapNN _ ba', wrapNN _ bh1, wrapNN _ bh, wrapMN (x * y)]
  rw [hhi]
  go_ret2
  exact ⟨rfl, rfl⟩


theorem add64_0 (x y : Int) (hx : 0 ≤ x) (hy : 0 ≤ y) (w : World) :
    (callFunc 38 #[.int .u64 x, .int .u64 y, .int .u64 0]).run Try.prog w =
      .ok (.value (.tuple #[.int .u64 ((x + y) % 18446744073709551616), .int .u64 ((x + y) / 18446744073709551616)])) w := by
  rw [run_callFunc_extern Try.func38 (by kernel_rfl) (by kernel_rfl) (by kernel_rfl) (e := add64Entry) (by kernel_rfl), run_add64 x y 0 hx hy (Int.le_refl 0) (by decide)]
  simp only [Result.andThen, Int.add_zero]

theorem addp_nat (h l x y T : Nat) (hT : h * 18446744073709551616 + l = T) (hl : l < 18446744073709551616) (p q : Nat) (hp : p = x * y / 18446744073709551616) (hq : q = x * y % 18446744073709551616) (hb : T + x * y < 340282366920938463463374607431768211456) :
    h + p + (l + q) / 18446744073709551616 = (T + x * y) / 18446744073709551616 ∧ (l + q) % 18446744073709551616 = (T + x * y) % 18446744073709551616 ∧ h + p + (l + q) / 18446744073709551616 < 18446744073709551616 := by
  generalize x * y = z at *
  omega

set_option maxHeartbeats 1600000 in
set_option maxRecDepth 100000 in
/-- A product is added to a number of two words. -/
theorem addProduct_any (T x y : Nat) (hx : x < 18446744073709551616) (hy : y < 18446744073709551616) (hb : T + x * y < 340282366920938463463374607431768211456) (w : World) :
    Calls Try.prog 35 #[.int .u64 ((T / 18446744073709551616 : Nat) : Int), .int .u64 ((T % 18446744073709551616 : Nat) : Int), .int .u64 x, .int .u64 y] w fun e w' =>
      e = .returned (.tuple #[.int .u64 (((T + x * y) / 18446744073709551616 : Nat) : Int), .int .u64 (((T + x * y) % 18446744073709551616 : Nat) : Int)]) ∧ w' = w := by
  have HM := hidden (mul64_any x y hx hy w)
  obtain ⟨e1, e2, e3⟩ := addp_nat (T / 18446744073709551616) (T % 18446744073709551616) x y T (by omega) (by omega) _ _ rfl rfl hb
  generalize hR1 : (T + x * y) / 18446744073709551616 = R1 at *
  generalize hR2 : (T + x * y) % 18446744073709551616 = R2 at *
  clear hR1 hR2 hb hx hy
  generalize x * y / 18446744073709551616 = p at *
  generalize hq : x * y % 18446744073709551616 = q at *
  generalize T / 18446744073709551616 = h at *
  generalize T % 18446744073709551616 = l at *
  have k1 : IntKind.u64.wrap ((h : Int) + (p : Int)) = (h : Int) + (p : Int) := by rw [IntKind.wrap_u64]; omega
  have k2 : IntKind.u64.wrap ((h : Int) + (p : Int) + ((l : Int) + (q : Int)) / 18446744073709551616) = (R1 : Int) := by rw [IntKind.wrap_u64]; omega
  have k3 : ((l : Int) + (q : Int)) % 18446744073709551616 = (R2 : Int) := by omega
  have n1 : (0 : Int) ≤ (l : Int) := by omega
  have n2 : (0 : Int) ≤ (q : Int) := by omega
  clear e1 e2 e3 hq
  go_enter Try.func35, Try.ntmps35
  go_wp2_with (first
    | (go_at_call 37; (with_reducible refine (HM.out).mono ?_); rintro e w2 ⟨rfl, rfl⟩)
    | simp only [add64_0 (l : Int) (q : Int) n1 n2]
    | fail)
  go_ret2
  exact ⟨rfl, rfl⟩
end Go.Proofs.Ytilnbmlbahflkaa
