/-
  A list of choices: some bytes, as a row of the call's own.
  append(v, make([]byte, z)...) on a row of the call's own that may be nil: z zeros more.
  Products and powers in the small group, and which numbers are elements: the program's and the document's.
-/
import Derived.Test.YtgpigjoonhghhaaDoorQAZ4
import Derived.Test.YtgpigjoonhghhaaDoorQAZeros
import Derived.Test.YtgpigjoonhghhaaDoorQAOwnB
import Derived.Test.YtgpigjoonhghhaaDoorQAConcat
import Derived.Test.YtgpigjoonhghhaaDoorQAGrpDiv
import Derived.Test.YtgpigjoonhghhaaDoorQAIs
namespace Go.Proofs.YtgpigjoonhghhaaDoor
open Go.RowKit
set_option linter.unusedVariables false
end Go.Proofs.YtgpigjoonhghhaaDoor

namespace Go.Proofs.YtgpigjoonhghhaaDoor
open Go.RowKit
set_option linter.unusedVariables false
section
variable {P : Program} {w : World}
end
end Go.Proofs.YtgpigjoonhghhaaDoor

namespace Go.Proofs.YtgpigjoonhghhaaDoor
open Go.RowKit
set_option linter.unusedVariables false
theorem low32N (a : Nat) (ha : a < 18446744073709551616) : bits .and .u64 (a : Int) 4294967295 = ((a % 4294967296 : Nat) : Int) := by
  rw [low32 _ (by omega) (by omega)]
  omega
theorem hi32N (a : Nat) : (a : Int) / 4294967296 = ((a / 4294967296 : Nat) : Int) := by omega
theorem mulNN (a b : Nat) : (a : Int) * (b : Int) = ((a * b : Nat) : Int) := (Int.natCast_mul a b).symm
theorem addNN (a b : Nat) : (a : Int) + (b : Int) = ((a + b : Nat) : Int) := (Int.natCast_add a b).symm
theorem wrapNN (a : Nat) (ha : a < 18446744073709551616) : IntKind.u64.wrap (a : Int) = (a : Int) := by rw [IntKind.wrap_u64]; omega
theorem wrapMN (a : Nat) : IntKind.u64.wrap (a : Int) = ((a % 18446744073709551616 : Nat) : Int) := by rw [IntKind.wrap_u64]; omega
set_option maxHeartbeats 1000000 in
theorem mul64_any (x y : Nat) (hx : x < 18446744073709551616) (hy : y < 18446744073709551616) (w : World) :
    Calls Tryd.prog 65 #[.int .u64 x, .int .u64 y] w fun e w' => e = .returned (.tuple #[.int .u64 ((x * y / 18446744073709551616 : Nat) : Int), .int .u64 ((x * y % 18446744073709551616 : Nat) : Int)]) ∧ w' = w := by
  obtain ⟨bd, bt, bw, hhi⟩ := Lib.mul64_hi x y hx hy
  have ba := Lib.half_mul_le (a := x / 4294967296) (b := y / 4294967296) (by omega) (by omega)
  have bb := Lib.half_mul_le (a := x / 4294967296) (b := y % 4294967296) (by omega) (by omega)
  have bc := Lib.half_mul_le (a := x % 4294967296) (b := y / 4294967296) (by omega) (by omega)
  have ba' : x / 4294967296 * (y / 4294967296) < 18446744073709551616 := by omega
  have bb' : x / 4294967296 * (y % 4294967296) < 18446744073709551616 := by omega
  have bc' : x % 4294967296 * (y / 4294967296) < 18446744073709551616 := by omega
  have bh1 : x / 4294967296 * (y / 4294967296) + (x / 4294967296 * (y % 4294967296) + x % 4294967296 * (y % 4294967296) / 4294967296) / 4294967296 < 18446744073709551616 := by omega
  have bh : x / 4294967296 * (y / 4294967296) + (x / 4294967296 * (y % 4294967296) + x % 4294967296 * (y % 4294967296) / 4294967296) / 4294967296 + ((x / 4294967296 * (y % 4294967296) + x % 4294967296 * (y % 4294967296) / 4294967296) % 4294967296 + x % 4294967296 * (y / 4294967296)) / 4294967296 < 18446744073709551616 := by omega
  go_enter Tryd.func65, Tryd.ntmps65
  go_wp2
  simp only [low32N x hx, low32N y hy, hi32N, mulNN, addNN, wrapNN _ bd, wrapNN _ bb', wrapNN _ bt, low32N _ bt, wrapNN _ bc', wrapNN _ bw, wrapNN _ ba', wrapNN _ bh1, wrapNN _ bh, wrapMN (x * y)]
  rw [hhi]
  go_ret2
  exact ⟨rfl, rfl⟩
set_option maxHeartbeats 800000 in
theorem rem64_any (x y : Int) (hx0 : 0 ≤ x) (hx : x < 18446744073709551616) (hy0 : 0 ≤ y) (hy : y < 18446744073709551616) (w : World) :
    Calls Tryd.prog 66 #[.int .u64 x, .int .u64 y, .int .u64 4611686018427377339] w fun e w' => e = .returned (.int .u64 ((x * 18446744073709551616 + y) % 4611686018427377339)) ∧ Below w.heap.size w w' := by
  have HD := hidden (div64_any (x % 4611686018427377339) y (by omega) (by omega) hy0 hy w)
  have he : Hid ((x % 4611686018427377339 * 18446744073709551616 + y) % 4611686018427377339 = (x * 18446744073709551616 + y) % 4611686018427377339) := by unfold Hid; omega
  go_enter Tryd.func66, Tryd.ntmps66
  go_wp2_with (first
    | (go_at_call 73; (with_reducible refine (HD.out).mono ?_); rintro e w2 ⟨⟨q, rfl⟩, hb⟩; have HB := hidden hb; clear hb)
    | fail)
  go_ret
  exact ⟨by first | rfl | (rw [he.out]; rfl), HB.out⟩
theorem prod_parts (a b : Nat) : ((((a * b / 18446744073709551616 : Nat) : Int) * 18446744073709551616 + ((a * b % 18446744073709551616 : Nat) : Int)) % 4611686018427377339) = ((gmul a b : Nat) : Int) := by
  unfold gmul gp
  omega
set_option maxHeartbeats 800000 in
theorem gmul_any (a b : Nat) (ha : a < 18446744073709551616) (hb : b < 18446744073709551616) (w : World) :
    Calls Tryd.prog 59 #[.int .u64 a, .int .u64 b] w fun e w' => e = .returned (.int .u64 ((gmul a b : Nat) : Int)) ∧ Below w.heap.size w w' := by
  have HM := hidden (mul64_any a b ha hb w)
  have hp : a * b < 18446744073709551616 * 18446744073709551616 := by
    rcases Nat.eq_zero_or_pos b with rfl | h
    · omega
    · exact Nat.lt_of_lt_of_le ((Nat.mul_lt_mul_right h).2 ha) (Nat.mul_le_mul_left _ (Nat.le_of_lt hb))
  have HR := hidden (rem64_any ((a * b / 18446744073709551616 : Nat) : Int) ((a * b % 18446744073709551616 : Nat) : Int) (by omega) (by omega) (by omega) (by omega) w)
  rw [prod_parts a b] at HR
  clear hp
  generalize ((a * b / 18446744073709551616 : Nat) : Int) = H at *
  generalize ((a * b % 18446744073709551616 : Nat) : Int) = L at *
  generalize gmul a b = g at *
  go_enter Tryd.func59, Tryd.ntmps59
  go_wp2_with (first
    | (go_at_call 65; (with_reducible refine (HM.out).mono ?_); rintro e w2 ⟨rfl, rfl⟩)
    | (go_at_call 66; (with_reducible refine (HR.out).mono ?_); rintro e w3 ⟨rfl, hb⟩; have HB := hidden hb; clear hb)
    | fail)
  go_ret
  exact ⟨rfl, HB.out⟩
theorem and_oneN (a : Nat) (ha : a < 18446744073709551616) : bits .and .u64 (a : Int) 1 = ((a % 2 : Nat) : Int) := by
  have h := u64_and_nat a 1 ha (by decide)
  rw [nat_mask1] at h
  exact h
set_option maxHeartbeats 1600000 in
set_option maxRecDepth 100000 in
theorem gpow_any (a e : Nat) (ha : a < 18446744073709551616) (he : e < 18446744073709551616) (w : World) :
    Calls Tryd.prog 45 #[.int .u64 a, .int .u64 e] w fun en w' => en = .returned (.int .u64 ((gpow a e : Nat) : Int)) ∧ Below w.heap.size w w' := by
  have HM := hidden (fun (x y : Nat) (W : World) hx hy => gmul_any x y hx hy W)
  go_enter Tryd.func45, Tryd.ntmps45
  obtain ⟨g, hg⟩ : ∃ g, gpow a e = g := ⟨_, rfl⟩
  have HG : Is (gmul 1 (gpow a e)) g := ⟨by rw [one_gmul _ (gpow_lt _ _), hg]⟩
  rw [hg]
  clear hg
  have HB0 := hidden (Below.refl w.heap.size w)
  go_wp2
  go_loopw [5, 0, 1] (fun r x i wr => ∃ (r' x' k : Nat), r = .int .u64 r' ∧ x = .int .u64 x' ∧ i = .int .u64 k ∧ r' < gp ∧ x' < 18446744073709551616 ∧ k < 18446744073709551616 ∧ Is (gmul r' (gpow x' k)) g ∧ Below w.heap.size w wr) (fun _ _ k _ => (intOf k).toNat)
  case atStart => exact ⟨1, a, e, rfl, rfl, rfl, by decide, ha, he, HG, HB0.out⟩
  case round =>
    obtain ⟨r, x, k, rfl, rfl, rfl, hr, hx, hk, HI, hb⟩ := hrel
    have HB := hidden hb
    clear hb HB0 HG
    try clear ea
    have hr2 : r < 18446744073709551616 := Nat.lt_trans hr (by decide)
    by_cases hk0 : k = 0
    · have hrg : r = g := by rw [← HI.eq, hk0, pow_end r x hr]
      subst hrg
      subst hk0
      go_wp2
      go_ret
      exact ⟨rfl, HB.out⟩
    · have hkp : (0 : Int) < (k : Int) := by omega
      have hmm := HM.out x x
      have l2 : gmul x x < 18446744073709551616 := Nat.lt_trans (gmul_lt _ _) (by decide)
      have e5 : Hid ((k : Int) / 2 = ((k / 2 : Nat) : Int)) := by unfold Hid; omega
      by_cases hodd : k % 2 = 1
      · have HN := Is.mk (show gmul (gmul r x) (gpow (gmul x x) (k / 2)) = g by rw [pow_odd r x k hodd]; exact HI.eq)
        have hbit : bits .and .u64 (k : Int) 1 = 1 := by rw [and_oneN k hk]; omega
        have HM1 := hidden (HM.out r x)
        have l3 := gmul_lt r x
        have HM2 := hidden hmm
        clear hmm HI
        generalize gmul x x = x2 at *
        generalize gmul r x = r2 at *
        go_wp2_with (first
          | (go_at_call 59; (with_reducible refine (HM1.out _ hr2 hx).mono ?_); rintro en w2 ⟨rfl, hb⟩; have HB1 := hidden (HB.out.trans (hb.mono HB.out.size)); clear hb)
          | (go_at_call 59; (with_reducible refine (HM2.out _ hx hx).mono ?_); rintro en w3 ⟨rfl, hb⟩; have HB2 := hidden (HB1.out.trans (hb.mono HB1.out.size)); clear hb)
          | fail)
        go_roundw
        case rel => exact ⟨r2, x2, k / 2, rfl, rfl, (by rw [e5.out]), l3, l2, by omega, HN, HB2.out⟩
        case measure => simp [intOf]; omega
      · have HN := Is.mk (show gmul r (gpow (gmul x x) (k / 2)) = g by rw [pow_even r x k (by omega)]; exact HI.eq)
        have hbit : bits .and .u64 (k : Int) 1 = 0 := by rw [and_oneN k hk]; omega
        have HM2 := hidden hmm
        clear hmm HI
        generalize gmul x x = x2 at *
        go_wp2_with (first
          | (go_at_call 59; (with_reducible refine (HM2.out _ hx hx).mono ?_); rintro en w3 ⟨rfl, hb⟩; have HB2 := hidden (HB.out.trans (hb.mono HB.out.size)); clear hb)
          | fail)
        go_roundw
        case rel => exact ⟨r, x2, k / 2, rfl, rfl, (by rw [e5.out]), hr, l2, by omega, HN, HB2.out⟩
        case measure => simp [intOf]; omega
theorem gel_range (a : Nat) (h : ¬ (2 ≤ a ∧ a < gp)) : gel a = false := by
  unfold gel
  simp only [Bool.and_eq_false_iff, decide_eq_false_iff_not]
  omega
theorem gel_in (a : Nat) (h : 2 ≤ a ∧ a < gp) : gel a = (gpow a gq == 1) := by
  unfold gel
  rw [decide_eq_true h.1, decide_eq_true h.2, Bool.true_and, Bool.true_and]
set_option maxHeartbeats 1600000 in
set_option maxRecDepth 100000 in
theorem gel_any (a : Nat) (ha : a < 18446744073709551616) (w : World) :
    Calls Tryd.prog 46 #[.int .u64 a] w fun en w' => en = .returned (.bool (gel a)) ∧ Below w.heap.size w w' := by
  have HP := hidden (gpow_any a gq ha (by decide) w)
  rw [show ((gq : Nat) : Int) = 2305843009213688669 by decide] at HP
  by_cases h1 : 2 ≤ a
  · by_cases h2 : a < gp
    · rw [gel_in a ⟨h1, h2⟩]
      have h3 : (2 : Int) ≤ (a : Int) := by omega
      have h4 : (a : Int) < 4611686018427377339 := by unfold gp at h2; omega
      have hbb : (((gpow a gq : Nat) : Int) == 1) = (gpow a gq == 1) := by rw [Bool.eq_iff_iff, beq_iff_eq, beq_iff_eq]; omega
      have HBB := Is.mk hbb
      clear hbb
      generalize gpow a gq = g at *
      go_enter Tryd.func46, Tryd.ntmps46
      go_wp2_with (first
        | (go_at_call 45; (with_reducible refine (HP.out).mono ?_); rintro en w2 ⟨rfl, hb⟩; have HB := hidden hb; clear hb)
        | fail)
      go_ret
      exact ⟨by rw [← HBB.eq]; rfl, HB.out⟩
    · rw [gel_range a (by omega)]
      have h3 : (2 : Int) ≤ (a : Int) := by omega
      have h4 : ¬ (a : Int) < 4611686018427377339 := by unfold gp at h2; omega
      go_enter Tryd.func46, Tryd.ntmps46
      go_wp2
      go_ret
      exact ⟨rfl, Below.refl _ _⟩
  · rw [gel_range a (by omega)]
    have h3 : ¬ (2 : Int) ≤ (a : Int) := by omega
    go_enter Tryd.func46, Tryd.ntmps46
    go_wp2
    go_ret
    exact ⟨rfl, Below.refl _ _⟩
end Go.Proofs.YtgpigjoonhghhaaDoor
