/-
  Products and powers in the small group, and which numbers are elements: the program's and the document's.
  Public numbers, shared secrets and the bytes of elements: the program's and the document's; a drawn secret; the chapter's example.
  Signatures as functions on numbers and lists; a signature is accepted for the public number of its secret.
  The remainder of a product of two words by the small group's order: Div64 and Rem64 of math/bits.
  prf.Hmac: the keyed hash of any bytes.
-/
import Derived.Test.YtkniifopfgeopaaDoorHGrpDiv
import Derived.Test.YtkniifopfgeopaaDoorHZ0
import Derived.Test.YtkniifopfgeopaaDoorHZ5
import Derived.Test.YtkniifopfgeopaaDoorHZ1
import Derived.Test.YtkniifopfgeopaaDoorHZ3
import Derived.Test.YtkniifopfgeopaaDoorHZ4
import Derived.Test.YtkniifopfgeopaaDoorHShaSum
import Derived.Deep.Cut
import Derived.Deep.CutRange
import Derived.Lib.Mul64
import Derived.Laws.BitsAllLaws
namespace Go.Proofs.YtkniifopfgeopaaDoor
open Go.RowKit
set_option linter.unusedVariables false

theorem low32N (a : Nat) (ha : a < 18446744073709551616) : bits .and .u64 (a : Int) 4294967295 = ((a % 4294967296 : Nat) : Int) := by
  rw [low32 _ (by omega) (by omega)]
  omega
theorem hi32N (a : Nat) : (a : Int) / 4294967296 = ((a / 4294967296 : Nat) : Int) := by omega
theorem mulNN (a b : Nat) : (a : Int) * (b : Int) = ((a * b : Nat) : Int) := (Int.natCast_mul a b).symm
theorem addNN (a b : Nat) : (a : Int) + (b : Int) = ((a + b : Nat) : Int) := (Int.natCast_add a b).symm
theorem wrapNN (a : Nat) (ha : a < 18446744073709551616) : IntKind.u64.wrap (a : Int) = (a : Int) := by rw [IntKind.wrap_u64]; omega
theorem wrapMN (a : Nat) : IntKind.u64.wrap (a : Int) = ((a % 18446744073709551616 : Nat) : Int) := by rw [IntKind.wrap_u64]; omega

set_option maxHeartbeats 1000000 in
theorem mul64_any (x y : Nat) (hx : x < 18446744073709551616) (hy : y < 18446744073709551616) (w : World) :
    Calls Tryd.prog 74 #[.int .u64 x, .int .u64 y] w fun e w' => e = .returned (.tuple #[.int .u64 ((x * y / 18446744073709551616 : Nat) : Int), .int .u64 ((x * y % 18446744073709551616 : Nat) : Int)]) ∧ w' = w := by
  obtain ⟨bd, bt, bw, hhi⟩ := Lib.mul64_hi x y hx hy
  have ba := Lib.half_mul_le (a := x / 4294967296) (b := y / 4294967296) (by omega) (by omega)
  have bb := Lib.half_mul_le (a := x / 4294967296) (b := y % 4294967296) (by omega) (by omega)
  have bc := Lib.half_mul_le (a := x % 4294967296) (b := y / 4294967296) (by omega) (by omega)
  have ba' : x / 4294967296 * (y / 4294967296) < 18446744073709551616 := by omega
  have bb' : x / 4294967296 * (y % 4294967296) < 18446744073709551616 := by omega
  have bc' : x % 4294967296 * (y / 4294967296) < 18446744073709551616 := by omega
  have bh1 : x / 4294967296 * (y / 4294967296) + (x / 4294967296 * (y % 4294967296) + x % 4294967296 * (y % 4294967296) / 4294967296) / 4294967296 < 18446744073709551616 := by omega
  have bh : x / 4294967296 * (y / 4294967296) + (x / 4294967296 * (y % 4294967296) + x % 4294967296 * (y % 4294967296) / 4294967296) / 4294967296 + ((x / 4294967296 * (y % 4294967296) + x % 4294967296 * (y % 4294967296) / 4294967296) % 4294967296 + x % 4294967296 * (y / 4294967296)) / 4294967296 < 18446744073709551616 := by omega
  go_enter Tryd.func74, Tryd.ntmps74
  go_wp2
  simp only [low32N x hx, low32N y hy, hi32N, mulNN, addNN, wrapNN _ bd, wrapNN _ bb', wrapNN _ bt, low32N _ bt, wrapNN _ bc', wrapNN _ bw, wrapNN _ ba', wrapNN _ bh1, wrapNN _ bh, wrapMN (x * y)]
  rw [hhi]
  go_ret2
  exact ⟨rfl, rfl⟩

set_option maxHeartbeats 800000 in
theorem rem64_any (x y : Int) (hx0 : 0 ≤ x) (hx : x < 18446744073709551616) (hy0 : 0 ≤ y) (hy : y < 18446744073709551616) (w : World) :
    Calls Tryd.prog 76 #[.int .u64 x, .int .u64 y, .int .u64 4611686018427377339] w fun e w' => e = .returned (.int .u64 ((x * 18446744073709551616 + y) % 4611686018427377339)) ∧ Below w.heap.size w w' := by
  have HD := hidden (div64_any (x % 4611686018427377339) y (by omega) (by omega) hy0 hy w)
  have he : Hid ((x % 4611686018427377339 * 18446744073709551616 + y) % 4611686018427377339 = (x * 18446744073709551616 + y) % 4611686018427377339) := by unfold Hid; omega
  go_enter Tryd.func76, Tryd.ntmps76
  go_wp2_with (first
    | (go_at_call 84; (with_reducible refine (HD.out).mono ?_); rintro e w2 ⟨⟨q, rfl⟩, hb⟩; have HB := hidden hb; clear hb)
    | fail)
  go_ret
  exact ⟨by first | rfl | (rw [he.out]; rfl), HB.out⟩

theorem prod_parts (a b : Nat) : ((((a * b / 18446744073709551616 : Nat) : Int) * 18446744073709551616 + ((a * b % 18446744073709551616 : Nat) : Int)) % 4611686018427377339) = ((gmul a b : Nat) : Int) := by
  unfold gmul gp
  omega
set_option maxHeartbeats 800000 in
theorem gmul_any (a b : Nat) (ha : a < 18446744073709551616) (hb : b < 18446744073709551616) (w : World) :
    Calls Tryd.prog 56 #[.int .u64 a, .int .u64 b] w fun e w' => e = .returned (.int .u64 ((gmul a b : Nat) : Int)) ∧ Below w.heap.size w w' := by
  have HM := hidden (mul64_any a b ha hb w)
  have hp : a * b < 18446744073709551616 * 18446744073709551616 := by
    rcases Nat.eq_zero_or_pos b with rfl | h
    · omega
    · exact Nat.lt_of_lt_of_le ((Nat.mul_lt_mul_right h).2 ha) (Nat.mul_le_mul_left _ (Nat.le_of_lt hb))
  have HR := hidden (rem64_any ((a * b / 18446744073709551616 : Nat) : Int) ((a * b % 18446744073709551616 : Nat) : Int) (by omega) (by omega) (by omega) (by omega) w)
  rw [prod_parts a b] at HR
  clear hp
  generalize ((a * b / 18446744073709551616 : Nat) : Int) = H at *
  generalize ((a * b % 18446744073709551616 : Nat) : Int) = L at *
  generalize gmul a b = g at *
  go_enter Tryd.func56, Tryd.ntmps56
  go_wp2_with (first
    | (go_at_call 74; (with_reducible refine (HM.out).mono ?_); rintro e w2 ⟨rfl, rfl⟩)
    | (go_at_call 76; (with_reducible refine (HR.out).mono ?_); rintro e w3 ⟨rfl, hb⟩; have HB := hidden hb; clear hb)
    | fail)
  go_ret
  exact ⟨rfl, HB.out⟩

theorem and_oneN (a : Nat) (ha : a < 18446744073709551616) : bits .and .u64 (a : Int) 1 = ((a % 2 : Nat) : Int) := by
  have h := u64_and_nat a 1 ha (by decide)
  rw [nat_mask1] at h
  exact h
set_option maxHeartbeats 1600000 in
set_option maxRecDepth 100000 in
theorem rgmul_any (a b : Nat) (ha : a < 18446744073709551616) (hb : b < 18446744073709551616) (w : World) :
    Calls Tryd.prog 58 #[.int .u64 a, .int .u64 b] w fun e w' => e = .returned (.int .u64 ((gmul a b : Nat) : Int)) ∧ Below w.heap.size w w' := by
  go_enter Tryd.func58, Tryd.ntmps58
  obtain ⟨a0, ha0⟩ : ∃ x, a % 4611686018427377339 = x := ⟨_, rfl⟩
  obtain ⟨b0, hb0⟩ : ∃ x, b % 4611686018427377339 = x := ⟨_, rfl⟩
  have ea : (a : Int) % 4611686018427377339 = (a0 : Int) := by omega
  have eb : (b : Int) % 4611686018427377339 = (b0 : Int) := by omega
  have hb1 : b0 < 4611686018427387904 := by omega
  have ha1 : a0 < 4611686018427377339 := by omega
  have HG : Is ((0 + a0 * (b0 / 2 ^ 0)) % gp) (gmul a b) := ⟨by unfold gmul; rw [Nat.pow_zero, Nat.div_one, Nat.zero_add, ← ha0, ← hb0, show 4611686018427377339 = gp from rfl, ← Nat.mul_mod]⟩
  generalize gmul a b = g at *
  clear ha0 hb0
  go_wp2
  go_loopw [5, 0, 6] (fun o x i wr => ∃ (o' x' j : Nat), j ≤ 62 ∧ o = .int .u64 o' ∧ x = .int .u64 x' ∧ i = .int .i64 j ∧ o' < 4611686018427377339 ∧ x' < 4611686018427377339 ∧ Is ((o' + x' * (b0 / 2 ^ j)) % gp) g ∧ w = wr) (fun _ _ i _ => 62 - (intOf i).toNat)
  case atStart => exact ⟨0, a0, 0, by omega, rfl, by rw [ea], rfl, by omega, ha1, HG, (by first | rfl | trivial)⟩
  case round =>
    obtain ⟨o, x, j, hj, rfl, rfl, rfl, ho, hx, HI, rfl⟩ := hrel
    obtain ⟨B, hB⟩ : ∃ B, b0 / 2 ^ j = B := ⟨_, rfl⟩
    have hsh : (b0 : Int) / 2 ^ j = (B : Int) := by rw [← hB]; simp
    have hB1 : B < 18446744073709551616 := by rw [← hB]; exact Nat.lt_of_le_of_lt (Nat.div_le_self _ _) (by omega)
    have hBn : b0 / 2 ^ (j + 1) = B / 2 := by rw [Nat.pow_succ, ← Nat.div_div_eq_div_mul, hB]
    have hHI : (o + x * B) % gp = g := by rw [← hB]; exact HI.eq
    have e2 : (2 * (x : Int)) % 4611686018427377339 = ((2 * x % gp : Nat) : Int) := by unfold gp; omega
    have e3 : (((o : Int) + (x : Int)) % 4611686018427377339) = (((o + x) % gp : Nat) : Int) := by unfold gp; omega
    have l2 : 2 * x % gp < 4611686018427377339 := Nat.mod_lt _ gp_pos
    have l3 : (o + x) % gp < 4611686018427377339 := Nat.mod_lt _ gp_pos
    by_cases hlt : j < 62
    · by_cases hodd : B % 2 = 1
      · have HN := Is.mk (show ((o + x) % gp + 2 * x % gp * (b0 / 2 ^ (j + 1))) % gp = g by rw [hBn]; exact dbl_odd o x B g hodd hHI)
        have hbit : bits .and .u64 (B : Int) 1 = 1 := by rw [and_oneN B hB1]; omega
        generalize 2 * x % gp = x2 at *
        generalize (o + x) % gp = o2 at *
        clear hB hBn hHI HI
        go_wp2
        go_roundw
        case rel => exact ⟨o2, x2, j + 1, by omega, (by first | rfl | rw [e3]), (by rw [e2]), by go_num, l3, l2, HN, (by first | rfl | trivial)⟩
        case measure => simp [intOf]; omega
      · have HN := Is.mk (show (o + 2 * x % gp * (b0 / 2 ^ (j + 1))) % gp = g by rw [hBn]; exact dbl_even o x B g (by omega) hHI)
        have hbit : bits .and .u64 (B : Int) 1 = 0 := by rw [and_oneN B hB1]; omega
        generalize 2 * x % gp = x2 at *
        clear hB hBn hHI HI
        go_wp2
        go_roundw
        case rel => exact ⟨o, x2, j + 1, by omega, rfl, (by rw [e2]), by go_num, ho, l2, HN, (by first | rfl | trivial)⟩
        case measure => simp [intOf]; omega
    · have hj62 : j = 62 := by omega
      have hB0 : B = 0 := by rw [← hB, hj62]; exact Nat.div_eq_of_lt (by omega)
      have hge : ¬ (j : Int) < 62 := by omega
      have hog : o = g := by rw [← hHI, hB0, Nat.mul_zero, Nat.add_zero]; exact (Nat.mod_eq_of_lt ho).symm
      subst hog
      clear hj62 hB0 hB hHI HI HG
      go_wp2
      go_ret
      exact ⟨rfl, Below.refl _ _⟩

set_option maxHeartbeats 1600000 in
set_option maxRecDepth 100000 in
theorem gpow_any (a e : Nat) (ha : a < 18446744073709551616) (he : e < 18446744073709551616) (w : World) :
    Calls Tryd.prog 52 #[.int .u64 a, .int .u64 e] w fun en w' => en = .returned (.int .u64 ((gpow a e : Nat) : Int)) ∧ Below w.heap.size w w' := by
  have HM := hidden (fun (x y : Nat) (W : World) hx hy => gmul_any x y hx hy W)
  go_enter Tryd.func52, Tryd.ntmps52
  obtain ⟨g, hg⟩ : ∃ g, gpow a e = g := ⟨_, rfl⟩
  have HG : Is (gmul 1 (gpow a e)) g := ⟨by rw [one_gmul _ (gpow_lt _ _), hg]⟩
  rw [hg]
  clear hg
  have HB0 := hidden (Below.refl w.heap.size w)
  go_wp2
  go_loopw [5, 0, 1] (fun r x i wr => ∃ (r' x' k : Nat), r = .int .u64 r' ∧ x = .int .u64 x' ∧ i = .int .u64 k ∧ r' < gp ∧ x' < 18446744073709551616 ∧ k < 18446744073709551616 ∧ Is (gmul r' (gpow x' k)) g ∧ Below w.heap.size w wr) (fun _ _ k _ => (intOf k).toNat)
  case atStart => exact ⟨1, a, e, rfl, rfl, rfl, by decide, ha, he, HG, HB0.out⟩
  case round =>
    obtain ⟨r, x, k, rfl, rfl, rfl, hr, hx, hk, HI, hb⟩ := hrel
    have HB := hidden hb
    clear hb HB0 HG
    try clear ea
    have hr2 : r < 18446744073709551616 := Nat.lt_trans hr (by decide)
    by_cases hk0 : k = 0
    · have hrg : r = g := by rw [← HI.eq, hk0, pow_end r x hr]
      subst hrg
      subst hk0
      go_wp2
      go_ret
      exact ⟨rfl, HB.out⟩
    · have hkp : (0 : Int) < (k : Int) := by omega
      have hmm := HM.out x x
      have l2 : gmul x x < 18446744073709551616 := Nat.lt_trans (gmul_lt _ _) (by decide)
      have e5 : Hid ((k : Int) / 2 = ((k / 2 : Nat) : Int)) := by unfold Hid; omega
      by_cases hodd : k % 2 = 1
      · have HN := Is.mk (show gmul (gmul r x) (gpow (gmul x x) (k / 2)) = g by rw [pow_odd r x k hodd]; exact HI.eq)
        have hbit : bits .and .u64 (k : Int) 1 = 1 := by rw [and_oneN k hk]; omega
        have HM1 := hidden (HM.out r x)
        have l3 := gmul_lt r x
        have HM2 := hidden hmm
        clear hmm HI
        generalize gmul x x = x2 at *
        generalize gmul r x = r2 at *
        go_wp2_with (first
          | (go_at_call 56; (with_reducible refine (HM1.out _ hr2 hx).mono ?_); rintro en w2 ⟨rfl, hb⟩; have HB1 := hidden (HB.out.trans (hb.mono HB.out.size)); clear hb)
          | (go_at_call 56; (with_reducible refine (HM2.out _ hx hx).mono ?_); rintro en w3 ⟨rfl, hb⟩; have HB2 := hidden (HB1.out.trans (hb.mono HB1.out.size)); clear hb)
          | fail)
        go_roundw
        case rel => exact ⟨r2, x2, k / 2, rfl, rfl, (by rw [e5.out]), l3, l2, by omega, HN, HB2.out⟩
        case measure => simp [intOf]; omega
      · have HN := Is.mk (show gmul r (gpow (gmul x x) (k / 2)) = g by rw [pow_even r x k (by omega)]; exact HI.eq)
        have hbit : bits .and .u64 (k : Int) 1 = 0 := by rw [and_oneN k hk]; omega
        have HM2 := hidden hmm
        clear hmm HI
        generalize gmul x x = x2 at *
        go_wp2_with (first
          | (go_at_call 56; (with_reducible refine (HM2.out _ hx hx).mono ?_); rintro en w3 ⟨rfl, hb⟩; have HB2 := hidden (HB.out.trans (hb.mono HB.out.size)); clear hb)
          | fail)
        go_roundw
        case rel => exact ⟨r, x2, k / 2, rfl, rfl, (by rw [e5.out]), hr, l2, by omega, HN, HB2.out⟩
        case measure => simp [intOf]; omega

set_option maxHeartbeats 1600000 in
set_option maxRecDepth 100000 in
theorem rgpow_any (a e : Nat) (ha : a < 18446744073709551616) (he : e < 18446744073709551616) (w : World) :
    Calls Tryd.prog 31 #[.int .u64 a, .int .u64 e] w fun en w' => en = .returned (.int .u64 ((gpow a e : Nat) : Int)) ∧ Below w.heap.size w w' := by
  have HM := hidden (fun (x y : Nat) (W : World) hx hy => rgmul_any x y hx hy W)
  go_enter Tryd.func31, Tryd.ntmps31
  obtain ⟨g, hg⟩ : ∃ g, gpow a e = g := ⟨_, rfl⟩
  obtain ⟨a0, ha0⟩ : ∃ x, a % 4611686018427377339 = x := ⟨_, rfl⟩
  have ea : (a : Int) % 4611686018427377339 = (a0 : Int) := by omega
  have ha1 : a0 < 18446744073709551616 := by omega
  have HG : Is (gmul 1 (gpow a0 e)) g := ⟨by rw [one_gmul _ (gpow_lt _ _), ← ha0, show 4611686018427377339 = gp from rfl, gpow_mod, hg]⟩
  rw [hg]
  clear hg ha0
  have HB0 := hidden (Below.refl w.heap.size w)
  go_wp2
  go_loopw [5, 0, 1] (fun r x i wr => ∃ (r' x' k : Nat), r = .int .u64 r' ∧ x = .int .u64 x' ∧ i = .int .u64 k ∧ r' < gp ∧ x' < 18446744073709551616 ∧ k < 18446744073709551616 ∧ Is (gmul r' (gpow x' k)) g ∧ Below w.heap.size w wr) (fun _ _ k _ => (intOf k).toNat)
  case atStart => exact ⟨1, a0, e, rfl, by rw [ea], rfl, by decide, ha1, he, HG, HB0.out⟩
  case round =>
    obtain ⟨r, x, k, rfl, rfl, rfl, hr, hx, hk, HI, hb⟩ := hrel
    have HB := hidden hb
    clear hb HB0 HG
    try clear ea
    have hr2 : r < 18446744073709551616 := Nat.lt_trans hr (by decide)
    by_cases hk0 : k = 0
    · have hrg : r = g := by rw [← HI.eq, hk0, pow_end r x hr]
      subst hrg
      subst hk0
      go_wp2
      go_ret
      exact ⟨rfl, HB.out⟩
    · have hkp : (0 : Int) < (k : Int) := by omega
      have hmm := HM.out x x
      have l2 : gmul x x < 18446744073709551616 := Nat.lt_trans (gmul_lt _ _) (by decide)
      have e5 : Hid ((k : Int) / 2 = ((k / 2 : Nat) : Int)) := by unfold Hid; omega
      by_cases hodd : k % 2 = 1
      · have HN := Is.mk (show gmul (gmul r x) (gpow (gmul x x) (k / 2)) = g by rw [pow_odd r x k hodd]; exact HI.eq)
        have hbit : bits .and .u64 (k : Int) 1 = 1 := by rw [and_oneN k hk]; omega
        have HM1 := hidden (HM.out r x)
        have l3 := gmul_lt r x
        have HM2 := hidden hmm
        clear hmm HI
        generalize gmul x x = x2 at *
        generalize gmul r x = r2 at *
        go_wp2_with (first
          | (go_at_call 58; (with_reducible refine (HM1.out _ hr2 hx).mono ?_); rintro en w2 ⟨rfl, hb⟩; have HB1 := hidden (HB.out.trans (hb.mono HB.out.size)); clear hb)
          | (go_at_call 58; (with_reducible refine (HM2.out _ hx hx).mono ?_); rintro en w3 ⟨rfl, hb⟩; have HB2 := hidden (HB1.out.trans (hb.mono HB1.out.size)); clear hb)
          | fail)
        go_roundw
        case rel => exact ⟨r2, x2, k / 2, rfl, rfl, (by rw [e5.out]), l3, l2, by omega, HN, HB2.out⟩
        case measure => simp [intOf]; omega
      · have HN := Is.mk (show gmul r (gpow (gmul x x) (k / 2)) = g by rw [pow_even r x k (by omega)]; exact HI.eq)
        have hbit : bits .and .u64 (k : Int) 1 = 0 := by rw [and_oneN k hk]; omega
        have HM2 := hidden hmm
        clear hmm HI
        generalize gmul x x = x2 at *
        go_wp2_with (first
          | (go_at_call 58; (with_reducible refine (HM2.out _ hx hx).mono ?_); rintro en w3 ⟨rfl, hb⟩; have HB2 := hidden (HB.out.trans (hb.mono HB.out.size)); clear hb)
          | fail)
        go_roundw
        case rel => exact ⟨r, x2, k / 2, rfl, rfl, (by rw [e5.out]), hr, l2, by omega, HN, HB2.out⟩
        case measure => simp [intOf]; omega

/-- What Element answers. -/
theorem gel_range (a : Nat) (h : ¬ (2 ≤ a ∧ a < gp)) : gel a = false := by
  unfold gel
  simp only [Bool.and_eq_false_iff, decide_eq_false_iff_not]
  omega
theorem gel_in (a : Nat) (h : 2 ≤ a ∧ a < gp) : gel a = (gpow a gq == 1) := by
  unfold gel
  rw [decide_eq_true h.1, decide_eq_true h.2, Bool.true_and, Bool.true_and]

set_option maxHeartbeats 1600000 in
set_option maxRecDepth 100000 in
theorem gel_any (a : Nat) (ha : a < 18446744073709551616) (w : World) :
    Calls Tryd.prog 41 #[.int .u64 a] w fun en w' => en = .returned (.bool (gel a)) ∧ Below w.heap.size w w' := by
  have HP := hidden (gpow_any a gq ha (by decide) w)
  rw [show ((gq : Nat) : Int) = 2305843009213688669 by decide] at HP
  by_cases h1 : 2 ≤ a
  · by_cases h2 : a < gp
    · rw [gel_in a ⟨h1, h2⟩]
      have h3 : (2 : Int) ≤ (a : Int) := by omega
      have h4 : (a : Int) < 4611686018427377339 := by unfold gp at h2; omega
      have hbb : (((gpow a gq : Nat) : Int) == 1) = (gpow a gq == 1) := by rw [Bool.eq_iff_iff, beq_iff_eq, beq_iff_eq]; omega
      have HBB := Is.mk hbb
      clear hbb
      generalize gpow a gq = g at *
      go_enter Tryd.func41, Tryd.ntmps41
      go_wp2_with (first
        | (go_at_call 52; (with_reducible refine (HP.out).mono ?_); rintro en w2 ⟨rfl, hb⟩; have HB := hidden hb; clear hb)
        | fail)
      go_ret
      exact ⟨by rw [← HBB.eq]; rfl, HB.out⟩
    · rw [gel_range a (by omega)]
      have h3 : (2 : Int) ≤ (a : Int) := by omega
      have h4 : ¬ (a : Int) < 4611686018427377339 := by unfold gp at h2; omega
      go_enter Tryd.func41, Tryd.ntmps41
      go_wp2
      go_ret
      exact ⟨rfl, Below.refl _ _⟩
  · rw [gel_range a (by omega)]
    have h3 : ¬ (2 : Int) ≤ (a : Int) := by omega
    go_enter Tryd.func41, Tryd.ntmps41
    go_wp2
    go_ret
    exact ⟨rfl, Below.refl _ _⟩

set_option maxHeartbeats 1600000 in
set_option maxRecDepth 100000 in
theorem rgel_any (a : Nat) (ha : a < 18446744073709551616) (w : World) :
    Calls Tryd.prog 44 #[.int .u64 a] w fun en w' => en = .returned (.bool (gel a)) ∧ Below w.heap.size w w' := by
  have HP := hidden (rgpow_any a gq ha (by decide) w)
  rw [show ((gq : Nat) : Int) = 2305843009213688669 by decide] at HP
  by_cases h1 : 2 ≤ a
  · by_cases h2 : a < gp
    · rw [gel_in a ⟨h1, h2⟩]
      have h3 : (2 : Int) ≤ (a : Int) := by omega
      have h4 : (a : Int) < 4611686018427377339 := by unfold gp at h2; omega
      have hbb : (((gpow a gq : Nat) : Int) == 1) = (gpow a gq == 1) := by rw [Bool.eq_iff_iff, beq_iff_eq, beq_iff_eq]; omega
      have HBB := Is.mk hbb
      clear hbb
      generalize gpow a gq = g at *
      go_enter Tryd.func44, Tryd.ntmps44
      go_wp2_with (first
        | (go_at_call 31; (with_reducible refine (HP.out).mono ?_); rintro en w2 ⟨rfl, hb⟩; have HB := hidden hb; clear hb)
        | fail)
      go_ret
      exact ⟨by rw [← HBB.eq]; rfl, HB.out⟩
    · rw [gel_range a (by omega)]
      have h3 : (2 : Int) ≤ (a : Int) := by omega
      have h4 : ¬ (a : Int) < 4611686018427377339 := by unfold gp at h2; omega
      go_enter Tryd.func44, Tryd.ntmps44
      go_wp2
      go_ret
      exact ⟨rfl, Below.refl _ _⟩
  · rw [gel_range a (by omega)]
    have h3 : ¬ (2 : Int) ≤ (a : Int) := by omega
    go_enter Tryd.func44, Tryd.ntmps44
    go_wp2
    go_ret
    exact ⟨rfl, Below.refl _ _⟩
end Go.Proofs.YtkniifopfgeopaaDoor

namespace Go.Proofs.YtkniifopfgeopaaDoor
open Go.RowKit
set_option linter.unusedVariables false

/-- A number is a secret. -/
def gsec (s : Nat) : Bool := decide (1 ≤ s) && decide (s < gq)
theorem gsec_no (s : Nat) (h : ¬ (1 ≤ s ∧ s < gq)) : gsec s = false := by
  unfold gsec
  simp only [Bool.and_eq_false_iff, decide_eq_false_iff_not]
  omega
theorem gsec_yes (s : Nat) (h : 1 ≤ s ∧ s < gq) : gsec s = true := by
  unfold gsec
  rw [decide_eq_true h.1, decide_eq_true h.2]
  rfl
def pubV (s : Nat) : Nat := if gsec s = true then gpow 4 s else 0
def pubE (s : Nat) : Int := if gsec s = true then 0 else 13
theorem pubV_lt (s : Nat) : pubV s < gp := by
  unfold pubV
  split
  · exact gpow_lt _ _
  · exact gp_pos
/-- The bytes of a number of the group. -/
def gbytes (a : Nat) : List Int := be 8 (a : Int)
def shrL (s p : Nat) : List Int := if (gsec s && gel p) = true then gbytes (gpow p s) else []
def shrE (s p : Nat) : Int := if (gsec s && gel p) = true then 0 else 13
theorem gbytes_len (a : Nat) : (gbytes a).length = 8 := be_len 8 _
theorem gbytes_rng (a : Nat) : ∀ x ∈ gbytes a, 0 ≤ x ∧ x ≤ 255 := be_rng 8 _
theorem val_gbytes (a : Nat) (h : a < 18446744073709551616) : val (gbytes a) = (a : Int) := by
  unfold gbytes
  rw [val_be]
  omega
/-- What Parse answers. -/
def parV (xs : List Int) : Int := if xs.length = 8 ∧ gel (val xs).toNat = true then val xs else 0
def parE (xs : List Int) : Int := if xs.length = 8 then (if gel (val xs).toNat = true then 0 else 13) else 2
/-- A slice of bytes and an error are returned. -/
def ToGE (R : List Int) (E : Int) (w : World) (e : Ending) (w' : World) : Prop :=
  ∃ p' N c', e = .returned (.tuple #[.slice p' N c', .int .i64 E]) ∧ Byt w' p' N c' R ∧ Below w.heap.size w w'
/-- A slice of bytes is returned. -/
def ToG (R : List Int) (w : World) (e : Ending) (w' : World) : Prop :=
  ∃ p' N c', e = .returned (.slice p' N c') ∧ Byt w' p' N c' R ∧ Below w.heap.size w w'
theorem cast4 : ((4 : Nat) : Int) = 4 := rfl

set_option maxHeartbeats 800000 in
set_option maxRecDepth 100000 in
theorem sec_any (s : Nat) (w : World) : Calls Tryd.prog 69 #[.int .u64 s] w fun en w' => en = .returned (.bool (gsec s)) ∧ Below w.heap.size w w' := by
  by_cases h1 : 1 ≤ s
  · by_cases h2 : s < gq
    · rw [gsec_yes s ⟨h1, h2⟩]
      have h3 : (1 : Int) ≤ (s : Int) := by omega
      have h4 : (s : Int) < 2305843009213688669 := by unfold gq at h2; omega
      go_enter Tryd.func69, Tryd.ntmps69
      go_wp2
      go_ret
      exact ⟨rfl, Below.refl _ _⟩
    · rw [gsec_no s (by omega)]
      have h3 : (1 : Int) ≤ (s : Int) := by omega
      have h4 : ¬ (s : Int) < 2305843009213688669 := by unfold gq at h2; omega
      go_enter Tryd.func69, Tryd.ntmps69
      go_wp2
      go_ret
      exact ⟨rfl, Below.refl _ _⟩
  · rw [gsec_no s (by omega)]
    have h3 : ¬ (1 : Int) ≤ (s : Int) := by omega
    go_enter Tryd.func69, Tryd.ntmps69
    go_wp2
    go_ret
    exact ⟨rfl, Below.refl _ _⟩

set_option maxHeartbeats 800000 in
set_option maxRecDepth 100000 in
theorem pub_any (s : Nat) (hs : s < 18446744073709551616) (w : World) : Calls Tryd.prog 47 #[.int .u64 s] w fun en w' => en = .returned (.tuple #[.int .u64 ((pubV s : Nat) : Int), .int .i64 (pubE s)]) ∧ Below w.heap.size w w' := by
  have HS := hidden (sec_any s)
  have HP := hidden (fun W => gpow_any 4 s (by decide) hs W)
  rw [cast4] at HP
  unfold pubV pubE
  generalize gpow 4 s = g at *
  cases hg : gsec s with
  | true =>
    rw [hg] at HS
    rw [if_pos rfl, if_pos rfl]
    clear hg
    go_enter Tryd.func47, Tryd.ntmps47
    go_wp2_with (first
      | (go_at_call 69; (with_reducible refine (HS.out _).mono ?_); rintro en w2 ⟨rfl, hb⟩; have HB := hidden hb; clear hb)
      | (go_at_call 52; (with_reducible refine (HP.out _).mono ?_); rintro en w3 ⟨rfl, hb⟩; have HB2 := hidden (HB.out.trans (hb.mono HB.out.size)); clear hb)
      | fail)
    go_ret2
    exact ⟨rfl, HB2.out⟩
  | false =>
    rw [hg] at HS
    rw [if_neg (by decide), if_neg (by decide)]
    clear hg
    go_enter Tryd.func47, Tryd.ntmps47
    go_wp2_with (first
      | (go_at_call 69; (with_reducible refine (HS.out _).mono ?_); rintro en w2 ⟨rfl, hb⟩; have HB := hidden hb; clear hb)
      | fail)
    go_ret2
    exact ⟨rfl, HB.out⟩

set_option maxHeartbeats 800000 in
set_option maxRecDepth 100000 in
theorem gbytes_any (a : Nat) (ha : a < 18446744073709551616) (w : World) : Calls Tryd.prog 50 #[.int .u64 a] w (ToG (gbytes a) w) := by
  have HP := hidden (fun W => put_yes none 0 0 [] W (Byt.nil _ _ _ (Nat.zero_le _)) (by omega) (a : Int) (by omega) 8 (by omega) (by omega))
  rw [List.nil_append, show be 8 (a : Int) = gbytes a from rfl, show ((8 : Nat) : Int) = 8 from rfl] at HP
  have hl := Is.mk (gbytes_len a)
  have HR := hidden (gbytes_rng a)
  generalize gbytes a = R at *
  go_enter Tryd.func50, Tryd.ntmps50
  go_wp2_with (first
    | (go_at_call 42; (with_reducible refine (HP.out _).mono ?_); rintro en w2 ⟨v, rfl, ho, hb⟩; obtain ⟨q, d, rfl, hy⟩ := ho.byt HR.out; have HB := hidden hb; have HY := hidden hy; clear ho hb hy)
    | fail)
  go_ret
  exact ⟨_, _, _, rfl, HY.out, HB.out⟩

set_option maxHeartbeats 800000 in
set_option maxRecDepth 100000 in
theorem rsec_any (s : Nat) (w : World) : Calls Tryd.prog 30 #[.int .u64 s] w fun en w' => en = .returned (.bool (gsec s)) ∧ Below w.heap.size w w' := by
  by_cases h1 : 1 ≤ s
  · by_cases h2 : s < gq
    · rw [gsec_yes s ⟨h1, h2⟩]
      have h3 : (1 : Int) ≤ (s : Int) := by omega
      have h4 : (s : Int) < 2305843009213688669 := by unfold gq at h2; omega
      go_enter Tryd.func30, Tryd.ntmps30
      go_wp2
      go_ret
      exact ⟨rfl, Below.refl _ _⟩
    · rw [gsec_no s (by omega)]
      have h3 : (1 : Int) ≤ (s : Int) := by omega
      have h4 : ¬ (s : Int) < 2305843009213688669 := by unfold gq at h2; omega
      go_enter Tryd.func30, Tryd.ntmps30
      go_wp2
      go_ret
      exact ⟨rfl, Below.refl _ _⟩
  · rw [gsec_no s (by omega)]
    have h3 : ¬ (1 : Int) ≤ (s : Int) := by omega
    go_enter Tryd.func30, Tryd.ntmps30
    go_wp2
    go_ret
    exact ⟨rfl, Below.refl _ _⟩

set_option maxHeartbeats 800000 in
set_option maxRecDepth 100000 in
theorem rpub_any (s : Nat) (hs : s < 18446744073709551616) (w : World) : Calls Tryd.prog 7 #[.int .u64 s] w fun en w' => en = .returned (.tuple #[.int .u64 ((pubV s : Nat) : Int), .int .i64 (pubE s)]) ∧ Below w.heap.size w w' := by
  have HS := hidden (rsec_any s)
  have HP := hidden (fun W => rgpow_any 4 s (by decide) hs W)
  rw [cast4] at HP
  unfold pubV pubE
  generalize gpow 4 s = g at *
  cases hg : gsec s with
  | true =>
    rw [hg] at HS
    rw [if_pos rfl, if_pos rfl]
    clear hg
    go_enter Tryd.func7, Tryd.ntmps7
    go_wp2_with (first
      | (go_at_call 30; (with_reducible refine (HS.out _).mono ?_); rintro en w2 ⟨rfl, hb⟩; have HB := hidden hb; clear hb)
      | (go_at_call 31; (with_reducible refine (HP.out _).mono ?_); rintro en w3 ⟨rfl, hb⟩; have HB2 := hidden (HB.out.trans (hb.mono HB.out.size)); clear hb)
      | fail)
    go_ret2
    exact ⟨rfl, HB2.out⟩
  | false =>
    rw [hg] at HS
    rw [if_neg (by decide), if_neg (by decide)]
    clear hg
    go_enter Tryd.func7, Tryd.ntmps7
    go_wp2_with (first
      | (go_at_call 30; (with_reducible refine (HS.out _).mono ?_); rintro en w2 ⟨rfl, hb⟩; have HB := hidden hb; clear hb)
      | fail)
    go_ret2
    exact ⟨rfl, HB.out⟩

set_option maxHeartbeats 800000 in
set_option maxRecDepth 100000 in
theorem rgbytes_any (a : Nat) (ha : a < 18446744073709551616) (w : World) : Calls Tryd.prog 46 #[.int .u64 a] w (ToG (gbytes a) w) := by
  have HP := hidden (fun W => rput_yes none 0 0 [] W (Byt.nil _ _ _ (Nat.zero_le _)) (by omega) (a : Int) (by omega) 8 (by omega) (by omega))
  rw [List.nil_append, show be 8 (a : Int) = gbytes a from rfl, show ((8 : Nat) : Int) = 8 from rfl] at HP
  have hl := Is.mk (gbytes_len a)
  have HR := hidden (gbytes_rng a)
  generalize gbytes a = R at *
  go_enter Tryd.func46, Tryd.ntmps46
  go_wp2_with (first
    | (go_at_call 45; (with_reducible refine (HP.out _).mono ?_); rintro en w2 ⟨v, rfl, ho, hb⟩; obtain ⟨q, d, rfl, hy⟩ := ho.byt HR.out; have HB := hidden hb; have HY := hidden hy; clear ho hb hy)
    | fail)
  go_ret
  exact ⟨_, _, _, rfl, HY.out, HB.out⟩

set_option maxHeartbeats 800000 in
set_option maxRecDepth 100000 in
theorem secret_any (W w : World) (k : Nat) (h : Cod W w k) :
    Calls Tryd.prog 27 #[.pointer (some ⟨k, 0, none⟩)] w fun e w' => (∃ s : Nat, e = .returned (.int .u64 s) ∧ 1 ≤ s ∧ s < gq) ∧ Cod W w' k ∧ w.grownBy w' (some k) := by
  have HW := hidden (word_any W w k h)
  clear h
  go_enter Tryd.func27, Tryd.ntmps27
  go_wp2_with (first
    | (go_at_call 10; (with_reducible refine (HW.out).mono ?_); rintro e w2 ⟨r, rfl, r0, r1, hc, hg⟩; have HC := hidden hc; have HG := hidden hg; clear hc hg; have hw : IntKind.u64.wrap (1 + r % 2305843009213688668) = 1 + r % 2305843009213688668 := wraps_u64 _ (by omega) (by omega))
    | fail)
  go_ret
  refine ⟨⟨(1 + r % 2305843009213688668).toNat, ?_, by omega, by unfold gq; omega⟩, HC.out, HG.out⟩
  rw [Int.toNat_of_nonneg (by omega)]
  rfl

end Go.Proofs.YtkniifopfgeopaaDoor

namespace Go.Proofs.YtkniifopfgeopaaDoor
open Go.RowKit
set_option linter.unusedVariables false

/-- The number of the first eight bytes. -/
def num8 (xs : List Int) : Nat := (val (xs.take 8)).toNat
theorem num8_int (xs : List Int) (h : ∀ x ∈ xs, 0 ≤ x ∧ x ≤ 255) : ((num8 xs : Nat) : Int) = val (xs.take 8) ∧ num8 xs < 18446744073709551616 := by
  have h1 := val_bd (xs.take 8) (rng_take h 8)
  have h2 : (256 : Int) ^ (xs.take 8).length ≤ 256 ^ 8 := pow256_le (by simp; omega)
  have h3 : (256 : Int) ^ 8 = 18446744073709551616 := by decide
  unfold num8
  omega
theorem num8_gbytes (a : Nat) (h : a < 18446744073709551616) (r : List Int) : num8 (gbytes a ++ r) = a := by
  unfold num8
  rw [List.take_append_of_le_length (by rw [gbytes_len]; exact Nat.le_refl _), List.take_of_length_le (by rw [gbytes_len]; exact Nat.le_refl _), val_gbytes a h]
  omega
/-- The number e that bytes have with r for the public number y. -/
def chal (r y : Nat) (m : List Int) : Nat := num8 (shaS (gbytes r ++ (gbytes y ++ m))) % gq
def kS (x : Nat) (m : List Int) : Nat := 1 + num8 (hmacS (gbytes x) m) % (gq - 1)
def eS (x : Nat) (m : List Int) : Nat := chal (gpow 4 (kS x m)) (pubV x) m
def sS (x : Nat) (m : List Int) : Nat := (kS x m + eS x m * x) % gq
def sigL (x : Nat) (m : List Int) : List Int := if gsec x = true then gbytes (eS x m) ++ gbytes (sS x m) else []
theorem gq_pos : 0 < gq := by decide
theorem chal_lt (r y : Nat) (m : List Int) : chal r y m < gq := Nat.mod_lt _ gq_pos
theorem eS_lt (x : Nat) (m : List Int) : eS x m < gq := chal_lt _ _ _
theorem sS_lt (x : Nat) (m : List Int) : sS x m < gq := Nat.mod_lt _ gq_pos
theorem kS_lt (x : Nat) (m : List Int) : kS x m < gq ∧ 1 ≤ kS x m := by
  unfold kS
  have h1 : num8 (hmacS (gbytes x) m) % (gq - 1) < gq - 1 := Nat.mod_lt _ (by decide)
  have h2 : 1 ≤ gq := by decide
  omega
theorem gq_big : gq < 18446744073709551616 := by decide
theorem gp_big : gp < 18446744073709551616 := by decide
/-- What Verify answers. -/
def verE (y : Nat) (m sig : List Int) : Int :=
  if gel y = false then 13
  else if sig.length ≠ 16 then 2
  else if gq ≤ num8 sig ∨ gq ≤ num8 (sig.drop 8) then 5
  else if num8 sig ≠ chal (gmul (gpow 4 (num8 (sig.drop 8))) (gpow y (gq - num8 sig))) y m then 18 else 0
theorem gpow4_mod (a : Nat) : gpow 4 (a % gq) = gpow 4 a := by
  have h : a % gq + gq * (a / gq) = a := Nat.mod_add_div a gq
  have e : gpow 4 (a % gq + gq * (a / gq)) = gpow 4 (a % gq) := by
    rw [← gpow_add, ← gpow_pow, gen_q]
    have h1 : gpow 1 (a / gq) = 1 := by unfold gpow; rw [Nat.one_pow]; decide
    rw [h1, gmul_one _ (gpow_lt _ _)]
  rw [h] at e
  exact e.symm
theorem ver_sign (x : Nat) (h1 : 1 ≤ x) (h2 : x < gq) (m : List Int) : verE (pubV x) m (sigL x m) = 0 := by
  have hs := gsec_yes x ⟨h1, h2⟩
  have hp : pubV x = gpow 4 x := by unfold pubV; rw [if_pos hs]
  have hg : gel (pubV x) = true := by rw [hp]; exact gel_secret x h1 h2
  have hl : sigL x m = gbytes (eS x m) ++ gbytes (sS x m) := by unfold sigL; rw [if_pos hs]
  have he := eS_lt x m
  have hss := sS_lt x m
  have hq := gq_big
  have n1 : num8 (sigL x m) = eS x m := by rw [hl]; exact num8_gbytes _ (by omega) _
  have n2 : num8 ((sigL x m).drop 8) = sS x m := by
    rw [hl, List.drop_append_of_le_length (by rw [gbytes_len]; exact Nat.le_refl _), List.drop_of_length_le (by rw [gbytes_len]; exact Nat.le_refl _), List.nil_append]
    have := num8_gbytes (sS x m) (by omega) []
    rw [List.append_nil] at this
    exact this
  have hlen : (sigL x m).length = 16 := by rw [hl, List.length_append, gbytes_len, gbytes_len]
  unfold verE
  rw [if_neg (by rw [hg]; decide), if_neg (by rw [hlen]; decide), n1, n2, if_neg (by omega)]
  have hr : gmul (gpow 4 (sS x m)) (gpow (pubV x) (gq - eS x m)) = gpow 4 (kS x m) := by
    rw [hp, gpow_pow, gpow_add, ← gpow4_mod (sS x m + x * (gq - eS x m)), ← gpow4_mod (kS x m)]
    congr 1
    unfold sS
    rw [Nat.mod_add_mod]
    have e1 : kS x m + eS x m * x + x * (gq - eS x m) = kS x m + x * gq := by
      rw [Nat.mul_comm (eS x m) x, Nat.add_assoc, ← Nat.mul_add, show eS x m + (gq - eS x m) = gq by omega]
    rw [e1, Nat.add_mul_mod_self_right]
  rw [hr, if_neg (by unfold eS; exact fun h => h rfl)]
end Go.Proofs.YtkniifopfgeopaaDoor

namespace Go.Proofs.YtkniifopfgeopaaDoor
open Go.RowKit
set_option linter.unusedVariables false

theorem or_three (x y : Int) (h0 : 0 ≤ x) (h1 : x < 2305843009213693952) (y0 : 0 ≤ y) (y1 : y < 8) : bits .or .u64 (x * 8) y = x * 8 + y := by
  rw [u64_or (x * 8) y (by omega) (by omega) y0 (by omega), nat_join 3 _ _ (by omega) (by omega)]
  omega

set_option maxHeartbeats 800000 in
set_option maxRecDepth 100000 in
theorem leadq_any (w : World) : Calls Tryd.prog 89 #[.int .u64 2305843009213688669] w fun e w' => e = .returned (.int .i64 3) ∧ w' = w := by
  go_enter Tryd.func89, Tryd.ntmps89
  go_wp2
  go_ret
  exact ⟨by kernel_rfl, rfl⟩

/-- A digit of the quotient, when the loop has found it. -/
def QDigq (U u a : Int) : Prop := 0 ≤ a ∧ a * 18446744073709509352 ≤ U * 4294967296 + u ∧ U * 4294967296 + u < (a + 1) * 18446744073709509352
/-- The loop that finds it. -/
def QRunq (U u a b : Int) : Prop := 0 ≤ a ∧ a * 4294967295 + b = U ∧ 0 ≤ b ∧ b < 4294967296 ∧ U * 4294967296 + u < (a + 1) * 18446744073709509352

set_option maxHeartbeats 1600000 in
theorem div64q_any (hi lo : Int) (h0 : 0 ≤ hi) (h1 : hi < 2305843009213688669) (l0 : 0 ≤ lo) (l1 : lo < 18446744073709551616) (w : World) :
    Calls Tryd.prog 84 #[.int .u64 hi, .int .u64 lo, .int .u64 2305843009213688669] w fun e w' => (∃ q, e = .returned (.tuple #[q, .int .u64 ((hi * 18446744073709551616 + lo) % 2305843009213688669)])) ∧ Below w.heap.size w w' := by
  have HL := hidden (leadq_any w)
  have hgt : ¬ (2305843009213688669 : Int) ≤ hi := by omega
  by_cases hz : hi = 0
  · subst hz
    go_enter Tryd.func84, Tryd.ntmps84
    go_wp2
    go_region
    go_wp2
    go_ret2
    exact ⟨⟨_, by rw [Int.zero_mul, Int.zero_add]; rfl⟩, (Below.refl _ _).drew⟩
  · have hm : bits .and .u64 18446744073709509352 4294967295 = 4294925032 := by rw [low32 _ (by decide) (by decide)]; decide
    have ho := or_three hi (lo / 2305843009213693952) h0 (by omega) (by omega) (by omega)
    have hw : IntKind.u64.wrap (lo * 8) = lo * 8 % 18446744073709551616 := IntKind.wrap_u64 _
    obtain ⟨X, hX⟩ : ∃ X, lo * 8 % 18446744073709551616 = X := ⟨_, rfl⟩
    obtain ⟨U, hU⟩ : ∃ U, hi * 8 + lo / 2305843009213693952 = U := ⟨_, rfl⟩
    have hl := low32 X (by omega) (by omega)
    rw [hX] at hw
    rw [hU] at ho
    obtain ⟨u1, hu1⟩ : ∃ u, X / 4294967296 = u := ⟨_, rfl⟩
    obtain ⟨u0, hu0⟩ : ∃ u, X % 4294967296 = u := ⟨_, rfl⟩
    rw [hu0] at hl
    have hU0 : 0 ≤ U := by omega
    have hU1 : U < 18446744073709509352 := by omega
    have b0 : 0 ≤ u1 ∧ u1 < 4294967296 := by omega
    have b1 : 0 ≤ u0 ∧ u0 < 4294967296 := by omega
    have hall : (hi * 18446744073709551616 + lo) * 8 = (U * 4294967296 + u1) * 4294967296 + u0 := by omega
    have HALL := hidden hall
    clear hX hU hu0 hall
    go_enter Tryd.func84, Tryd.ntmps84
    go_upto_region 17 with (first
      | (go_at_call 89; (with_reducible refine (HL.out).mono ?_); rintro e w2 ⟨rfl, rfl⟩)
      | fail)
    go_wp2
    go_loopw [15, 16] (fun q r wr => ∃ a b : Int, q = .int .u64 a ∧ r = .int .u64 b ∧ Hid (QRunq U u1 a b) ∧ w2 = wr) (fun q _ _ => (intOf q).toNat)
    case atStart => exact ⟨_, _, rfl, rfl, by unfold Hid QRunq; omega, (by first | rfl | trivial)⟩
    case round =>
      obtain ⟨a1, b1, rfl, rfl, hrun1, rfl⟩ := hrel
      unfold Hid QRunq at hrun1
      obtain ⟨a01, hab1, bb01, bb11, hbig1⟩ := hrun1
      have HAB1 := hidden hab1
      have ha11 : a1 ≤ 4294967296 := by omega
      clear hab1
      by_cases hc11 : (4294967296 : Int) ≤ a1
      · obtain ⟨z1, hz1⟩ : ∃ z, a1 - 1 = z := ⟨_, rfl⟩
        have hw11 : IntKind.u64.wrap (a1 - 1) = z1 := by rw [← hz1]; exact wraps_u64 _ (by omega) (by omega)
        have hw21 : IntKind.u64.wrap (b1 + 4294967295) = b1 + 4294967295 := wraps_u64 _ (by omega) (by omega)
        by_cases hc31 : (4294967296 : Int) ≤ b1 + 4294967295
        · have HQ1 : Hid (QDigq U u1 z1) := by have := HAB1.out; unfold Hid QDigq; omega
          have HZ1 := hidden hz1
          clear hz1
          have hr1 : 0 ≤ U * 4294967296 + u1 - z1 * 18446744073709509352 ∧ U * 4294967296 + u1 - z1 * 18446744073709509352 < 18446744073709509352 := by have := HQ1.out; unfold QDigq at this; omega
          obtain ⟨V, hV⟩ : ∃ v, U * 4294967296 + u1 - z1 * 18446744073709509352 = v := ⟨_, rfl⟩
          have hun1 : IntKind.u64.wrap (IntKind.u64.wrap (IntKind.u64.wrap (U * 4294967296) + u1) - IntKind.u64.wrap (z1 * 18446744073709509352)) = V := by
            simp only [IntKind.wrap_u64]
            omega
          rw [hV] at hr1
          obtain ⟨hr1a, hr1b⟩ := hr1
          have HV := hidden hV
          clear hV
          go_wp2
          go_loopw [18, 16] (fun q r wr => ∃ a b : Int, q = .int .u64 a ∧ r = .int .u64 b ∧ Hid (QRunq V u0 a b) ∧ w2 = wr) (fun q _ _ => (intOf q).toNat)
          case atStart => exact ⟨_, _, rfl, rfl, by unfold Hid QRunq; omega, (by first | rfl | trivial)⟩
          case round =>
            obtain ⟨a2, b2, rfl, rfl, hrun2, rfl⟩ := hrel
            unfold Hid QRunq at hrun2
            obtain ⟨a02, hab2, bb02, bb12, hbig2⟩ := hrun2
            have HAB2 := hidden hab2
            have ha12 : a2 ≤ 4294967296 := by omega
            clear hab2
            by_cases hc12 : (4294967296 : Int) ≤ a2
            · obtain ⟨z2, hz2⟩ : ∃ z, a2 - 1 = z := ⟨_, rfl⟩
              have hw12 : IntKind.u64.wrap (a2 - 1) = z2 := by rw [← hz2]; exact wraps_u64 _ (by omega) (by omega)
              have hw22 : IntKind.u64.wrap (b2 + 4294967295) = b2 + 4294967295 := wraps_u64 _ (by omega) (by omega)
              by_cases hc32 : (4294967296 : Int) ≤ b2 + 4294967295
              · have HQ2 : Hid (QDigq V u0 z2) := by have := HAB2.out; unfold Hid QDigq; omega
                have HZ2 := hidden hz2
                clear hz2
                have hr2 : 0 ≤ V * 4294967296 + u0 - z2 * 18446744073709509352 ∧ V * 4294967296 + u0 - z2 * 18446744073709509352 < 18446744073709509352 := by have := HQ2.out; unfold QDigq at this; omega
                obtain ⟨VV, hVV⟩ : ∃ v, V * 4294967296 + u0 - z2 * 18446744073709509352 = v := ⟨_, rfl⟩
                have hun2 : IntKind.u64.wrap (IntKind.u64.wrap (IntKind.u64.wrap (V * 4294967296) + u0) - IntKind.u64.wrap (z2 * 18446744073709509352)) = VV := by
                  simp only [IntKind.wrap_u64]
                  omega
                rw [hVV] at hr2
                obtain ⟨hr2a, hr2b⟩ := hr2
                have HVV := hidden hVV
                clear hVV
                have HEND : Hid (VV / 8 = (hi * 18446744073709551616 + lo) % 2305843009213688669) := by have h1 := HV.out; have h2 := HVV.out; have h3 := HALL.out; unfold Hid; omega
                go_wp2
                go_ret2
                exact ⟨⟨_, by rw [HEND.out]; rfl⟩, Below.refl _ _⟩
              · have HZ2 := hidden hz2
                clear hz2
                go_wp2
                go_roundw
                case rel => exact ⟨_, _, rfl, rfl, by have := HAB2.out; have := HZ2.out; unfold Hid QRunq; omega, (by first | rfl | trivial)⟩
                case measure => have := HZ2.out; simp [intOf]; omega
            · have hm12 : IntKind.u64.wrap (a2 * 4294925032) = a2 * 4294925032 := wraps_u64 _ (by omega) (by omega)
              have hm22 : IntKind.u64.wrap (4294967296 * b2) = 4294967296 * b2 := wraps_u64 _ (by omega) (by omega)
              have hm32 : IntKind.u64.wrap (4294967296 * b2 + u0) = 4294967296 * b2 + u0 := wraps_u64 _ (by omega) (by omega)
              by_cases hc22 : a2 * 4294925032 > 4294967296 * b2 + u0
              · have hc42 : 0 < a2 := by omega
                obtain ⟨z2, hz2⟩ : ∃ z, a2 - 1 = z := ⟨_, rfl⟩
                have hw12 : IntKind.u64.wrap (a2 - 1) = z2 := by rw [← hz2]; exact wraps_u64 _ (by omega) (by omega)
                have hw22 : IntKind.u64.wrap (b2 + 4294967295) = b2 + 4294967295 := wraps_u64 _ (by omega) (by omega)
                by_cases hc32 : (4294967296 : Int) ≤ b2 + 4294967295
                · have HQ2 : Hid (QDigq V u0 z2) := by have := HAB2.out; unfold Hid QDigq; omega
                  have HZ2 := hidden hz2
                  clear hz2
                  have hr2 : 0 ≤ V * 4294967296 + u0 - z2 * 18446744073709509352 ∧ V * 4294967296 + u0 - z2 * 18446744073709509352 < 18446744073709509352 := by have := HQ2.out; unfold QDigq at this; omega
                  obtain ⟨VV, hVV⟩ : ∃ v, V * 4294967296 + u0 - z2 * 18446744073709509352 = v := ⟨_, rfl⟩
                  have hun2 : IntKind.u64.wrap (IntKind.u64.wrap (IntKind.u64.wrap (V * 4294967296) + u0) - IntKind.u64.wrap (z2 * 18446744073709509352)) = VV := by
                    simp only [IntKind.wrap_u64]
                    omega
                  rw [hVV] at hr2
                  obtain ⟨hr2a, hr2b⟩ := hr2
                  have HVV := hidden hVV
                  clear hVV
                  have HEND : Hid (VV / 8 = (hi * 18446744073709551616 + lo) % 2305843009213688669) := by have h1 := HV.out; have h2 := HVV.out; have h3 := HALL.out; unfold Hid; omega
                  go_wp2
                  go_ret2
                  exact ⟨⟨_, by rw [HEND.out]; rfl⟩, Below.refl _ _⟩
                · have HZ2 := hidden hz2
                  clear hz2
                  go_wp2
                  go_roundw
                  case rel => exact ⟨_, _, rfl, rfl, by have := HAB2.out; have := HZ2.out; unfold Hid QRunq; omega, (by first | rfl | trivial)⟩
                  case measure => have := HZ2.out; simp [intOf]; omega
              · have HQ2 : Hid (QDigq V u0 a2) := by have := HAB2.out; unfold Hid QDigq; omega
                have hr2 : 0 ≤ V * 4294967296 + u0 - a2 * 18446744073709509352 ∧ V * 4294967296 + u0 - a2 * 18446744073709509352 < 18446744073709509352 := by have := HQ2.out; unfold QDigq at this; omega
                obtain ⟨VV, hVV⟩ : ∃ v, V * 4294967296 + u0 - a2 * 18446744073709509352 = v := ⟨_, rfl⟩
                have hun2 : IntKind.u64.wrap (IntKind.u64.wrap (IntKind.u64.wrap (V * 4294967296) + u0) - IntKind.u64.wrap (a2 * 18446744073709509352)) = VV := by
                  simp only [IntKind.wrap_u64]
                  omega
                rw [hVV] at hr2
                obtain ⟨hr2a, hr2b⟩ := hr2
                have HVV := hidden hVV
                clear hVV
                have HEND : Hid (VV / 8 = (hi * 18446744073709551616 + lo) % 2305843009213688669) := by have h1 := HV.out; have h2 := HVV.out; have h3 := HALL.out; unfold Hid; omega
                go_wp2
                go_ret2
                exact ⟨⟨_, by rw [HEND.out]; rfl⟩, Below.refl _ _⟩

        · have HZ1 := hidden hz1
          clear hz1
          go_wp2
          go_roundw
          case rel => exact ⟨_, _, rfl, rfl, by have := HAB1.out; have := HZ1.out; unfold Hid QRunq; omega, (by first | rfl | trivial)⟩
          case measure => have := HZ1.out; simp [intOf]; omega
      · have hm11 : IntKind.u64.wrap (a1 * 4294925032) = a1 * 4294925032 := wraps_u64 _ (by omega) (by omega)
        have hm21 : IntKind.u64.wrap (4294967296 * b1) = 4294967296 * b1 := wraps_u64 _ (by omega) (by omega)
        have hm31 : IntKind.u64.wrap (4294967296 * b1 + u1) = 4294967296 * b1 + u1 := wraps_u64 _ (by omega) (by omega)
        by_cases hc21 : a1 * 4294925032 > 4294967296 * b1 + u1
        · have hc41 : 0 < a1 := by omega
          obtain ⟨z1, hz1⟩ : ∃ z, a1 - 1 = z := ⟨_, rfl⟩
          have hw11 : IntKind.u64.wrap (a1 - 1) = z1 := by rw [← hz1]; exact wraps_u64 _ (by omega) (by omega)
          have hw21 : IntKind.u64.wrap (b1 + 4294967295) = b1 + 4294967295 := wraps_u64 _ (by omega) (by omega)
          by_cases hc31 : (4294967296 : Int) ≤ b1 + 4294967295
          · have HQ1 : Hid (QDigq U u1 z1) := by have := HAB1.out; unfold Hid QDigq; omega
            have HZ1 := hidden hz1
            clear hz1
            have hr1 : 0 ≤ U * 4294967296 + u1 - z1 * 18446744073709509352 ∧ U * 4294967296 + u1 - z1 * 18446744073709509352 < 18446744073709509352 := by have := HQ1.out; unfold QDigq at this; omega
            obtain ⟨V, hV⟩ : ∃ v, U * 4294967296 + u1 - z1 * 18446744073709509352 = v := ⟨_, rfl⟩
            have hun1 : IntKind.u64.wrap (IntKind.u64.wrap (IntKind.u64.wrap (U * 4294967296) + u1) - IntKind.u64.wrap (z1 * 18446744073709509352)) = V := by
              simp only [IntKind.wrap_u64]
              omega
            rw [hV] at hr1
            obtain ⟨hr1a, hr1b⟩ := hr1
            have HV := hidden hV
            clear hV
            go_wp2
            go_loopw [18, 16] (fun q r wr => ∃ a b : Int, q = .int .u64 a ∧ r = .int .u64 b ∧ Hid (QRunq V u0 a b) ∧ w2 = wr) (fun q _ _ => (intOf q).toNat)
            case atStart => exact ⟨_, _, rfl, rfl, by unfold Hid QRunq; omega, (by first | rfl | trivial)⟩
            case round =>
              obtain ⟨a2, b2, rfl, rfl, hrun2, rfl⟩ := hrel
              unfold Hid QRunq at hrun2
              obtain ⟨a02, hab2, bb02, bb12, hbig2⟩ := hrun2
              have HAB2 := hidden hab2
              have ha12 : a2 ≤ 4294967296 := by omega
              clear hab2
              by_cases hc12 : (4294967296 : Int) ≤ a2
              · obtain ⟨z2, hz2⟩ : ∃ z, a2 - 1 = z := ⟨_, rfl⟩
                have hw12 : IntKind.u64.wrap (a2 - 1) = z2 := by rw [← hz2]; exact wraps_u64 _ (by omega) (by omega)
                have hw22 : IntKind.u64.wrap (b2 + 4294967295) = b2 + 4294967295 := wraps_u64 _ (by omega) (by omega)
                by_cases hc32 : (4294967296 : Int) ≤ b2 + 4294967295
                · have HQ2 : Hid (QDigq V u0 z2) := by have := HAB2.out; unfold Hid QDigq; omega
                  have HZ2 := hidden hz2
                  clear hz2
                  have hr2 : 0 ≤ V * 4294967296 + u0 - z2 * 18446744073709509352 ∧ V * 4294967296 + u0 - z2 * 18446744073709509352 < 18446744073709509352 := by have := HQ2.out; unfold QDigq at this; omega
                  obtain ⟨VV, hVV⟩ : ∃ v, V * 4294967296 + u0 - z2 * 18446744073709509352 = v := ⟨_, rfl⟩
                  have hun2 : IntKind.u64.wrap (IntKind.u64.wrap (IntKind.u64.wrap (V * 4294967296) + u0) - IntKind.u64.wrap (z2 * 18446744073709509352)) = VV := by
                    simp only [IntKind.wrap_u64]
                    omega
                  rw [hVV] at hr2
                  obtain ⟨hr2a, hr2b⟩ := hr2
                  have HVV := hidden hVV
                  clear hVV
                  have HEND : Hid (VV / 8 = (hi * 18446744073709551616 + lo) % 2305843009213688669) := by have h1 := HV.out; have h2 := HVV.out; have h3 := HALL.out; unfold Hid; omega
                  go_wp2
                  go_ret2
                  exact ⟨⟨_, by rw [HEND.out]; rfl⟩, Below.refl _ _⟩
                · have HZ2 := hidden hz2
                  clear hz2
                  go_wp2
                  go_roundw
                  case rel => exact ⟨_, _, rfl, rfl, by have := HAB2.out; have := HZ2.out; unfold Hid QRunq; omega, (by first | rfl | trivial)⟩
                  case measure => have := HZ2.out; simp [intOf]; omega
              · have hm12 : IntKind.u64.wrap (a2 * 4294925032) = a2 * 4294925032 := wraps_u64 _ (by omega) (by omega)
                have hm22 : IntKind.u64.wrap (4294967296 * b2) = 4294967296 * b2 := wraps_u64 _ (by omega) (by omega)
                have hm32 : IntKind.u64.wrap (4294967296 * b2 + u0) = 4294967296 * b2 + u0 := wraps_u64 _ (by omega) (by omega)
                by_cases hc22 : a2 * 4294925032 > 4294967296 * b2 + u0
                · have hc42 : 0 < a2 := by omega
                  obtain ⟨z2, hz2⟩ : ∃ z, a2 - 1 = z := ⟨_, rfl⟩
                  have hw12 : IntKind.u64.wrap (a2 - 1) = z2 := by rw [← hz2]; exact wraps_u64 _ (by omega) (by omega)
                  have hw22 : IntKind.u64.wrap (b2 + 4294967295) = b2 + 4294967295 := wraps_u64 _ (by omega) (by omega)
                  by_cases hc32 : (4294967296 : Int) ≤ b2 + 4294967295
                  · have HQ2 : Hid (QDigq V u0 z2) := by have := HAB2.out; unfold Hid QDigq; omega
                    have HZ2 := hidden hz2
                    clear hz2
                    have hr2 : 0 ≤ V * 4294967296 + u0 - z2 * 18446744073709509352 ∧ V * 4294967296 + u0 - z2 * 18446744073709509352 < 18446744073709509352 := by have := HQ2.out; unfold QDigq at this; omega
                    obtain ⟨VV, hVV⟩ : ∃ v, V * 4294967296 + u0 - z2 * 18446744073709509352 = v := ⟨_, rfl⟩
                    have hun2 : IntKind.u64.wrap (IntKind.u64.wrap (IntKind.u64.wrap (V * 4294967296) + u0) - IntKind.u64.wrap (z2 * 18446744073709509352)) = VV := by
                      simp only [IntKind.wrap_u64]
                      omega
                    rw [hVV] at hr2
                    obtain ⟨hr2a, hr2b⟩ := hr2
                    have HVV := hidden hVV
                    clear hVV
                    have HEND : Hid (VV / 8 = (hi * 18446744073709551616 + lo) % 2305843009213688669) := by have h1 := HV.out; have h2 := HVV.out; have h3 := HALL.out; unfold Hid; omega
                    go_wp2
                    go_ret2
                    exact ⟨⟨_, by rw [HEND.out]; rfl⟩, Below.refl _ _⟩
                  · have HZ2 := hidden hz2
                    clear hz2
                    go_wp2
                    go_roundw
                    case rel => exact ⟨_, _, rfl, rfl, by have := HAB2.out; have := HZ2.out; unfold Hid QRunq; omega, (by first | rfl | trivial)⟩
                    case measure => have := HZ2.out; simp [intOf]; omega
                · have HQ2 : Hid (QDigq V u0 a2) := by have := HAB2.out; unfold Hid QDigq; omega
                  have hr2 : 0 ≤ V * 4294967296 + u0 - a2 * 18446744073709509352 ∧ V * 4294967296 + u0 - a2 * 18446744073709509352 < 18446744073709509352 := by have := HQ2.out; unfold QDigq at this; omega
                  obtain ⟨VV, hVV⟩ : ∃ v, V * 4294967296 + u0 - a2 * 18446744073709509352 = v := ⟨_, rfl⟩
                  have hun2 : IntKind.u64.wrap (IntKind.u64.wrap (IntKind.u64.wrap (V * 4294967296) + u0) - IntKind.u64.wrap (a2 * 18446744073709509352)) = VV := by
                    simp only [IntKind.wrap_u64]
                    omega
                  rw [hVV] at hr2
                  obtain ⟨hr2a, hr2b⟩ := hr2
                  have HVV := hidden hVV
                  clear hVV
                  have HEND : Hid (VV / 8 = (hi * 18446744073709551616 + lo) % 2305843009213688669) := by have h1 := HV.out; have h2 := HVV.out; have h3 := HALL.out; unfold Hid; omega
                  go_wp2
                  go_ret2
                  exact ⟨⟨_, by rw [HEND.out]; rfl⟩, Below.refl _ _⟩

          · have HZ1 := hidden hz1
            clear hz1
            go_wp2
            go_roundw
            case rel => exact ⟨_, _, rfl, rfl, by have := HAB1.out; have := HZ1.out; unfold Hid QRunq; omega, (by first | rfl | trivial)⟩
            case measure => have := HZ1.out; simp [intOf]; omega
        · have HQ1 : Hid (QDigq U u1 a1) := by have := HAB1.out; unfold Hid QDigq; omega
          have hr1 : 0 ≤ U * 4294967296 + u1 - a1 * 18446744073709509352 ∧ U * 4294967296 + u1 - a1 * 18446744073709509352 < 18446744073709509352 := by have := HQ1.out; unfold QDigq at this; omega
          obtain ⟨V, hV⟩ : ∃ v, U * 4294967296 + u1 - a1 * 18446744073709509352 = v := ⟨_, rfl⟩
          have hun1 : IntKind.u64.wrap (IntKind.u64.wrap (IntKind.u64.wrap (U * 4294967296) + u1) - IntKind.u64.wrap (a1 * 18446744073709509352)) = V := by
            simp only [IntKind.wrap_u64]
            omega
          rw [hV] at hr1
          obtain ⟨hr1a, hr1b⟩ := hr1
          have HV := hidden hV
          clear hV
          go_wp2
          go_loopw [18, 16] (fun q r wr => ∃ a b : Int, q = .int .u64 a ∧ r = .int .u64 b ∧ Hid (QRunq V u0 a b) ∧ w2 = wr) (fun q _ _ => (intOf q).toNat)
          case atStart => exact ⟨_, _, rfl, rfl, by unfold Hid QRunq; omega, (by first | rfl | trivial)⟩
          case round =>
            obtain ⟨a2, b2, rfl, rfl, hrun2, rfl⟩ := hrel
            unfold Hid QRunq at hrun2
            obtain ⟨a02, hab2, bb02, bb12, hbig2⟩ := hrun2
            have HAB2 := hidden hab2
            have ha12 : a2 ≤ 4294967296 := by omega
            clear hab2
            by_cases hc12 : (4294967296 : Int) ≤ a2
            · obtain ⟨z2, hz2⟩ : ∃ z, a2 - 1 = z := ⟨_, rfl⟩
              have hw12 : IntKind.u64.wrap (a2 - 1) = z2 := by rw [← hz2]; exact wraps_u64 _ (by omega) (by omega)
              have hw22 : IntKind.u64.wrap (b2 + 4294967295) = b2 + 4294967295 := wraps_u64 _ (by omega) (by omega)
              by_cases hc32 : (4294967296 : Int) ≤ b2 + 4294967295
              · have HQ2 : Hid (QDigq V u0 z2) := by have := HAB2.out; unfold Hid QDigq; omega
                have HZ2 := hidden hz2
                clear hz2
                have hr2 : 0 ≤ V * 4294967296 + u0 - z2 * 18446744073709509352 ∧ V * 4294967296 + u0 - z2 * 18446744073709509352 < 18446744073709509352 := by have := HQ2.out; unfold QDigq at this; omega
                obtain ⟨VV, hVV⟩ : ∃ v, V * 4294967296 + u0 - z2 * 18446744073709509352 = v := ⟨_, rfl⟩
                have hun2 : IntKind.u64.wrap (IntKind.u64.wrap (IntKind.u64.wrap (V * 4294967296) + u0) - IntKind.u64.wrap (z2 * 18446744073709509352)) = VV := by
                  simp only [IntKind.wrap_u64]
                  omega
                rw [hVV] at hr2
                obtain ⟨hr2a, hr2b⟩ := hr2
                have HVV := hidden hVV
                clear hVV
                have HEND : Hid (VV / 8 = (hi * 18446744073709551616 + lo) % 2305843009213688669) := by have h1 := HV.out; have h2 := HVV.out; have h3 := HALL.out; unfold Hid; omega
                go_wp2
                go_ret2
                exact ⟨⟨_, by rw [HEND.out]; rfl⟩, Below.refl _ _⟩
              · have HZ2 := hidden hz2
                clear hz2
                go_wp2
                go_roundw
                case rel => exact ⟨_, _, rfl, rfl, by have := HAB2.out; have := HZ2.out; unfold Hid QRunq; omega, (by first | rfl | trivial)⟩
                case measure => have := HZ2.out; simp [intOf]; omega
            · have hm12 : IntKind.u64.wrap (a2 * 4294925032) = a2 * 4294925032 := wraps_u64 _ (by omega) (by omega)
              have hm22 : IntKind.u64.wrap (4294967296 * b2) = 4294967296 * b2 := wraps_u64 _ (by omega) (by omega)
              have hm32 : IntKind.u64.wrap (4294967296 * b2 + u0) = 4294967296 * b2 + u0 := wraps_u64 _ (by omega) (by omega)
              by_cases hc22 : a2 * 4294925032 > 4294967296 * b2 + u0
              · have hc42 : 0 < a2 := by omega
                obtain ⟨z2, hz2⟩ : ∃ z, a2 - 1 = z := ⟨_, rfl⟩
                have hw12 : IntKind.u64.wrap (a2 - 1) = z2 := by rw [← hz2]; exact wraps_u64 _ (by omega) (by omega)
                have hw22 : IntKind.u64.wrap (b2 + 4294967295) = b2 + 4294967295 := wraps_u64 _ (by omega) (by omega)
                by_cases hc32 : (4294967296 : Int) ≤ b2 + 4294967295
                · have HQ2 : Hid (QDigq V u0 z2) := by have := HAB2.out; unfold Hid QDigq; omega
                  have HZ2 := hidden hz2
                  clear hz2
                  have hr2 : 0 ≤ V * 4294967296 + u0 - z2 * 18446744073709509352 ∧ V * 4294967296 + u0 - z2 * 18446744073709509352 < 18446744073709509352 := by have := HQ2.out; unfold QDigq at this; omega
                  obtain ⟨VV, hVV⟩ : ∃ v, V * 4294967296 + u0 - z2 * 18446744073709509352 = v := ⟨_, rfl⟩
                  have hun2 : IntKind.u64.wrap (IntKind.u64.wrap (IntKind.u64.wrap (V * 4294967296) + u0) - IntKind.u64.wrap (z2 * 18446744073709509352)) = VV := by
                    simp only [IntKind.wrap_u64]
                    omega
                  rw [hVV] at hr2
                  obtain ⟨hr2a, hr2b⟩ := hr2
                  have HVV := hidden hVV
                  clear hVV
                  have HEND : Hid (VV / 8 = (hi * 18446744073709551616 + lo) % 2305843009213688669) := by have h1 := HV.out; have h2 := HVV.out; have h3 := HALL.out; unfold Hid; omega
                  go_wp2
                  go_ret2
                  exact ⟨⟨_, by rw [HEND.out]; rfl⟩, Below.refl _ _⟩
                · have HZ2 := hidden hz2
                  clear hz2
                  go_wp2
                  go_roundw
                  case rel => exact ⟨_, _, rfl, rfl, by have := HAB2.out; have := HZ2.out; unfold Hid QRunq; omega, (by first | rfl | trivial)⟩
                  case measure => have := HZ2.out; simp [intOf]; omega
              · have HQ2 : Hid (QDigq V u0 a2) := by have := HAB2.out; unfold Hid QDigq; omega
                have hr2 : 0 ≤ V * 4294967296 + u0 - a2 * 18446744073709509352 ∧ V * 4294967296 + u0 - a2 * 18446744073709509352 < 18446744073709509352 := by have := HQ2.out; unfold QDigq at this; omega
                obtain ⟨VV, hVV⟩ : ∃ v, V * 4294967296 + u0 - a2 * 18446744073709509352 = v := ⟨_, rfl⟩
                have hun2 : IntKind.u64.wrap (IntKind.u64.wrap (IntKind.u64.wrap (V * 4294967296) + u0) - IntKind.u64.wrap (a2 * 18446744073709509352)) = VV := by
                  simp only [IntKind.wrap_u64]
                  omega
                rw [hVV] at hr2
                obtain ⟨hr2a, hr2b⟩ := hr2
                have HVV := hidden hVV
                clear hVV
                have HEND : Hid (VV / 8 = (hi * 18446744073709551616 + lo) % 2305843009213688669) := by have h1 := HV.out; have h2 := HVV.out; have h3 := HALL.out; unfold Hid; omega
                go_wp2
                go_ret2
                exact ⟨⟨_, by rw [HEND.out]; rfl⟩, Below.refl _ _⟩

set_option maxHeartbeats 800000 in
theorem rem64q_any (x y : Int) (hx0 : 0 ≤ x) (hx : x < 18446744073709551616) (hy0 : 0 ≤ y) (hy : y < 18446744073709551616) (w : World) :
    Calls Tryd.prog 76 #[.int .u64 x, .int .u64 y, .int .u64 2305843009213688669] w fun e w' => e = .returned (.int .u64 ((x * 18446744073709551616 + y) % 2305843009213688669)) ∧ Below w.heap.size w w' := by
  have HD := hidden (div64q_any (x % 2305843009213688669) y (by omega) (by omega) hy0 hy w)
  have he : Hid ((x % 2305843009213688669 * 18446744073709551616 + y) % 2305843009213688669 = (x * 18446744073709551616 + y) % 2305843009213688669) := by unfold Hid; omega
  go_enter Tryd.func76, Tryd.ntmps76
  go_wp2_with (first
    | (go_at_call 84; (with_reducible refine (HD.out).mono ?_); rintro e w2 ⟨⟨q, rfl⟩, hb⟩; have HB := hidden hb; clear hb)
    | fail)
  go_ret
  exact ⟨by first | rfl | (rw [he.out]; rfl), HB.out⟩

end Go.Proofs.YtkniifopfgeopaaDoor

namespace Go.Proofs.YtkniifopfgeopaaDoor
open Go.RowKit
set_option linter.unusedVariables false

theorem info64b : (Tryd.prog.info? 92).map (·.size) = some 64 := by kernel_rfl
theorem cat2_any (w : World) (p0 p1 : Option Addr) (n0 n1 c0 c1 : Nat) (x0 x1 : List Int) (h0 : Byt w p0 n0 c0 x0) (h1 : Byt w p1 n1 c1 x1) (hs : n0 + n1 ≤ 140737488355328) :
    Calls Tryd.prog 35 #[.slice (some ⟨w.heap.size, 0, none⟩) 2 2] (w.alloc (.cells #[.slice p0 n0 c0, .slice p1 n1 c1] 22)) fun e w' =>
      ∃ v, e = .returned v ∧ Own w' w.heap.size 5 v (x0 ++ x1) ∧ Below w.heap.size w w' := by
  have := concat_any (some ⟨w.heap.size, 0, none⟩) 2 2 _ _ (two_parts w p0 p1 n0 n1 c0 c1 x0 x1 22 h0 h1) (by simp [sizeOf']; omega)
  simp only [bytesOf, List.flatMap_cons, List.flatMap_nil, List.append_nil, World.size_alloc] at this
  refine this.mono ?_
  rintro e w' ⟨v, he, ho, hb⟩
  exact ⟨v, he, ho.mono (by omega), ((Below.refl w.heap.size w).alloc (Nat.le_refl _) _).trans (hb.mono (by omega))⟩

set_option maxHeartbeats 800000 in
set_option maxRecDepth 100000 in
theorem masked_any (g : Nat) (L : List Int) (hL : L.length = 64) (m : Int) (w : World) (h : Wb w g 92 L) :
    Calls Tryd.prog 72 #[.int .u8 m, .pointer (some ⟨g, 0, none⟩)] w fun e w' => ∃ v, e = .returned v ∧ Own w' w.heap.size 5 v (maskL m L) ∧ Below w.heap.size w w' := by
  obtain ⟨i0, hi, hz0, hz1, hz2⟩ := info_parts Tryd.infoByte
  have hi64 : (Tryd.prog.info? 92).map (·.size) = some ((L.map (Value.int .u8)).toArray).size := by
    rw [info64b]
    simp [hL]
  have HI := hidden hi64
  clear hi64
  have HIT : Hid (∀ (j : Nat), j < 64 → ∀ w' : World, (Instr.index 92 (.agg (L.map (Value.int .u8)).toArray) (.int .i64 j)).run Tryd.prog w' = .ok (.int .u8 (L.getD j 0)) w') := fun j hj w' => run_index8 (P := Tryd.prog) Tryd.underlying92 Tryd.underlying5 hi hz1 L hL j hj w'
  have HS : Hid (∀ j, j < 64 → maskL m (L.take (j + 1)) = maskL m (L.take j) ++ [bits .xor .u8 (L.getD j 0) m]) := fun j hj => maskL_take m L j (by omega)
  have HE : Hid (maskL m (L.take 64) = maskL m L) := by show _ = _; rw [List.take_of_length_le (by omega)]
  have HT : Hid (∀ j, j ≤ 64 → (maskL m (L.take j)).length = j) := fun j hj => by rw [maskL_len, List.length_take]; omega
  have H := hidden h
  have HLL := Is.mk hL
  clear h hL
  obtain ⟨cs, hcs⟩ : ∃ cs, (L.map (Value.int .u8)).toArray = cs := ⟨_, rfl⟩
  have HHP : Hid (∀ W, Below w.heap.size w W → W.heap[g]? = some (.cells cs 92 (0, 0))) := fun W hW => by rw [← hcs]; exact (H.out.below hW).heap
  rw [hcs] at HI HIT
  clear hcs
  go_enter Tryd.func72, Tryd.ntmps72
  go_wp2_with (first
    | (at_make; refine wpList_make_byt _ rfl _ _ 22 rfl w.heap.size 5 i0 Tryd.underlying22 hi hz0 hz1 hz2 _ _ _ _ 0 64 rfl rfl ?m1 ?m2 ?m3 ?m4 (Nat.le_refl _) ?_)
    | fail)
  case m1 => rfl
  case m2 => rfl
  case m3 => omega
  case m4 => omega
  intro w1 hown hg
  have HB1 := hidden ((Below.refl w.heap.size w).grown hg (Nat.le_refl _) (by intro k hk; simp at hk))
  have HO1 := hidden hown
  clear hown hg
  have HR1 := hidden (HHP.out w1 HB1.out)
  go_wp2_with (first
    | (refine wpList_load_row rfl 92 _ rfl g rfl 92 _ (0, 0) _ HR1.out Tryd.underlying92 rfl HI.out ?_)
    | fail)
  go_loopw [4, 9] (fun u i wr => ∃ j : Nat, j ≤ 64 ∧ i = .int .i64 j ∧ Own wr w.heap.size 5 u (maskL m (L.take j)) ∧ Below w.heap.size w wr) (fun _ i _ => 64 - (intOf i).toNat)
  case atStart => exact ⟨0, by omega, rfl, HO1.out, HB1.out⟩
  case round =>
    obtain ⟨j, hj, rfl, ho, hb⟩ := hrel
    have HO := hidden ho
    have HB := hidden hb
    clear ho hb HO1 HB1 HR1
    by_cases hlt : j < 64
    · have hix := HIT.out j hlt
      have HST := hidden (HS.out j hlt)
      have HLN := hidden (HT.out j (by omega))
      generalize L.getD j 0 = x at hix HST
      have hxr := xor8_rng x m
      go_wp2_with (at_builtin; refine wpList_append_byt _ rfl _ _ 22 rfl w.heap.size 5 i0 (.int .u8 0) Tryd.underlying22 hi hz0 hz1 hz2 rfl _ _ rfl (HO.out.alloc _) _ _ _ _ _ rfl (one_byte _ _ (bits .xor .u8 x m) ?c0 ?c1) rfl ?c2 ?c3 ?_)
      case c0 => exact hxr
      case c1 => rw [World.cell?_alloc_at _ _ _ _ rfl]; rfl
      case c2 => rw [HLN.out]; omega
      case c3 => have := HB.out.size; simp; omega
      intro u' w2 hown2 hg2
      have HB2 := hidden ((HB.out.alloc HB.out.size _).grown hg2 (by have := HB.out.size; simp; omega) (fun k hk => (HO.out.lt k hk).1))
      rw [← HST.out] at hown2
      have HO2 := hidden hown2
      clear hown2 hg2 HO HB
      go_wp2
      go_roundw
      case rel => exact ⟨j + 1, by omega, by go_num, HO2.out, HB2.out⟩
      case measure => simp [intOf]; omega
    · obtain rfl : j = 64 := by omega
      have hoe := HO.out
      rw [HE.out] at hoe
      have HOE := hidden hoe
      clear hoe HO
      go_wp2
      go_ret
      exact ⟨_, rfl, HOE.out, HB.out⟩

set_option maxHeartbeats 800000 in
set_option maxRecDepth 100000 in
theorem padded_any (p : Option Addr) (n c : Nat) (key : List Int) (w : World) (h : Byt w p n c key) (hb : n ≤ 140737488351232) (hK : KAt w) :
    Calls Tryd.prog 71 #[.slice p n c] w fun e w' => e = .returned (.agg ((padK key).map (Value.int .u8)).toArray) ∧ Below w.heap.size w w' := by
  have hlen := h.len
  obtain ⟨N, hN⟩ : ∃ N, w.heap.size = N := ⟨_, rfl⟩
  have HN := Is.mk hN
  have HX : Hid (∀ W, Below N w W → Byt W p n c key) := fun W hW => h.below (by rw [HN.eq]; exact hW)
  have HK : Hid (∀ W, Below N w W → KAt W) := fun W hW => hK.below hW (by rw [← HN.eq]; exact hK.lt)
  have HS : Hid (∀ W, Below N w W → Calls Tryd.prog 73 #[.slice p n c] W (BytesPut W (shaS key))) := fun W hW => sum_any p n c key W (HX.out W hW) hb (HK.out W hW)
  have HSL : Is (shaS key).length 32 := ⟨shaS_len _⟩
  have HSR : Hid (∀ x ∈ shaS key, 0 ≤ x ∧ x ≤ 255) := shaS_rng _
  have HY1 : Hid (64 < n → keyS key = shaS key) := fun hlt => by unfold keyS; rw [if_pos (by omega)]
  have HY2 : Hid (¬ 64 < n → keyS key = key) := fun hlt => by unfold keyS; rw [if_neg (by omega)]
  have HPK : Hid (∀ k, (keyS key).length = k → keyS key ++ (List.replicate 64 (0 : Int)).drop k = padK key) := fun k hk => by rw [padK, hk, List.drop_replicate]
  have HPL : Is (padK key).length 64 := ⟨padK_len _⟩
  have HB0 := hidden (Below.refl N w)
  clear h hK hlen
  generalize shaS key = S at HS HSL HSR HY1
  generalize keyS key = Y at HY1 HY2 HPK
  generalize padK key = L at HPK HPL ⊢
  go_enter Tryd.func71, Tryd.ntmps71
  go_upto_if 6 with fail
  generalize hw1 : w.alloc (.cells _ 92) = w1
  have hr : Wb w1 w.heap.size 92 (List.replicate 64 0) := by
    rw [← hw1]
    exact Wb.new w _ (List.replicate 64 0) _ rfl
  have hb1 : Below w.heap.size w w1 := by
    rw [← hw1]
    exact (Below.refl _ w).alloc (Nat.le_refl _) _
  clear hw1
  rw [hN] at hr hb1
  have HR := hidden hr
  have HB := hidden hb1
  have hNlt := hr.lt
  clear hr hb1 hN
  go_cut [0] from 4 to 8 (fun a wx => ∃ q k d, a = .slice q k d ∧ k ≤ 64 ∧ Byt wx q k d Y ∧ Wb wx N 92 (List.replicate 64 0) ∧ Below N w wx)
  case first =>
    by_cases hlt : 64 < n
    · have h1 : (64 : Int) < n := by omega
      have HYE := Is.mk (HY1.out hlt)
      have HC := hidden (HS.out w1 HB.out)
      clear HY1 HY2 HPK
      go_wp2_with (first
        | (go_at_call 73; go_loud (with_reducible refine (HC.out).mono ?_); rintro e w2 ⟨v, rfl, hown, hbel⟩; obtain ⟨q, d, rfl, hbyt⟩ := hown.bytN rfl HSL.eq HSR.out; have HB2 := hidden (HB.out.trans (hbel.mono (Nat.le_of_lt hNlt))); have HR2 := hidden (HR.out.below hbel); have H2 := hidden hbyt; clear hown hbel hbyt)
        | fail)
      go_meet
      case rel => exact ⟨q, 32, d, rfl, by omega, by rw [HYE.eq]; exact H2.out, HR2.out, HB2.out⟩
    · have h1 : ¬ (64 : Int) < n := by omega
      have HYE := Is.mk (HY2.out hlt)
      have HC := hidden (HX.out w1 HB.out)
      clear HY1 HY2 HPK
      go_wp2
      go_meet
      case rel => exact ⟨p, n, c, rfl, by omega, by rw [HYE.eq]; exact HC.out, HR.out, HB.out⟩
  case rest =>
    obtain ⟨q, k, d, rfl, hk, hy, hr, hb2⟩ := hcut
    have HPE := hidden (HPK.out k hy.len)
    have hNc := hr.lt
    go_upto_region 4 with fail
    generalize hw2 : wc.alloc (.cells _ 92) = w2
    have ho2 : Wb w2 wc.heap.size 92 (List.replicate 64 0) := by
      rw [← hw2]
      exact Wb.new wc _ (List.replicate 64 0) _ rfl
    have hy2 : Byt w2 q k d Y := by rw [← hw2]; exact hy.alloc _
    have hr2 : Wb w2 N 92 (List.replicate 64 0) := by rw [← hw2]; exact hr.alloc _
    have hbb : Below N w w2 := by
      rw [← hw2]
      exact hb2.alloc (Nat.le_of_lt hNc) _
    clear hw2 hy hr hb2 HR HB HX HS HK
    have HO := hidden ho2
    have HY := hidden hy2
    have HR := hidden hr2
    have HB := hidden hbb
    clear ho2 hy2 hr2 hbb HY1 HY2 HPK
    go_wp2_with (first
      | (refine wpList_copy_row rfl (.tmp 9) (.tmp 10) 22 22 rfl 5 Tryd.underlying22 Tryd.sizeByte wc.heap.size 64 64 rfl (List.replicate 64 0) 92 HO.out.heap (by simp) _ _ _ _ rfl HY.out hk L HPE.out ?_)
      | fail)
    intro w3 HW HG3
    have HR3 : Hid (Wb w3 N 92 (List.replicate 64 0)) := ⟨(HG3.out.block N HR.out.lt (by simp; omega)).trans HR.out.heap⟩
    have HB3 := hidden (HB.out.grown HG3.out (by rw [← HN.eq]; exact HB.out.size) (fun j e => by cases e; exact Nat.le_of_lt hNc))
    have hi64 : (Tryd.prog.info? 92).map (·.size) = some ((L.map (Value.int .u8)).toArray).size := by
      rw [info64b]
      simp [HPL.eq]
    have HI := hidden hi64
    have hz64 : ((List.replicate 64 (0 : Int)).map (Value.int .u8)).toArray.size = ((L.map (Value.int .u8)).toArray).size := by
      simp [HPL.eq]
    have HZ := hidden hz64
    clear hi64 hz64
    have HONE := hidden (one8 L)
    have HR4 := hidden (HR3.out.row L)
    have HB4 := hidden (below_setRow HB3.out (Nat.le_refl _) (L.map (Value.int .u8)).toArray)
    clear HG3
    go_wp2_with (first
      | (refine wpList_load_row rfl 92 _ rfl wc.heap.size rfl 92 _ (0, 0) _ HW.out.heap Tryd.underlying92 rfl HI.out ?_)
      | (refine wpList_store_row rfl 92 _ _ rfl N (L.map (Value.int .u8)).toArray rfl rfl 92 _ HR3.out.heap HI.out HZ.out HONE.out ?_)
      | fail)
    refine bodyPost_ret (results_cell_row rfl _ _ N 92 _ _ _ rfl HR4.out.heap Tryd.underlying92 rfl HI.out) rfl ?_
    exact ⟨rfl, by rw [HN.eq]; exact HB4.out⟩

set_option maxHeartbeats 800000 in
set_option maxRecDepth 100000 in
theorem hmac_any (p q : Option Addr) (n c m d : Nat) (key b : List Int) (w : World) (h : Byt w p n c key) (hn : n ≤ 140737488351232) (k : Byt w q m d b) (hm : m ≤ 140737488351000) (hK : KAt w) :
    Calls Tryd.prog 49 #[.slice p n c, .slice q m d] w fun e w' => ∃ v, e = .returned v ∧ Own w' w.heap.size 5 v (hmacS key b) ∧ Below w.heap.size w w' := by
  have hl := padK_len key
  have HP := hidden (padded_any p n c key w h hn hK)
  obtain ⟨R, hR⟩ : ∃ R, hmacS key b = R := ⟨_, rfl⟩
  rw [hR]
  unfold hmacS maskS at hR
  generalize padK key = L at HP hl hR
  have hml : ∀ x, (maskL x L).length = 64 := fun x => by rw [maskL_len, hl]
  have HA := hidden (hml 54)
  have HC := hidden (hml 92)
  have HAR := hidden (maskL_rng 54 L)
  have HCR := hidden (maskL_rng 92 L)
  have HM54 := hidden (fun g W (hw : Wb W g 92 L) => masked_any g L hl 54 W hw)
  have HM92 := hidden (fun g W (hw : Wb W g 92 L) => masked_any g L hl 92 W hw)
  generalize maskL 54 L = A at HA HAR HM54 hR
  generalize maskL 92 L = C at HC HCR HM92 hR
  have HIB : Hid (∀ W p0 c0, Byt W p0 64 c0 A → Byt W q m d b → Calls Tryd.prog 35 #[.slice (some ⟨W.heap.size, 0, none⟩) 2 2] (W.alloc (.cells #[.slice p0 64 c0, .slice q m d] 22)) fun e w' =>
      ∃ v, e = .returned v ∧ Own w' W.heap.size 5 v (A ++ b) ∧ Below W.heap.size W w') := fun W p0 c0 h0 h1 => cat2_any W p0 q 64 m c0 d A b h0 h1 (by omega)
  have hAl : (A ++ b).length = 64 + m := by rw [List.length_append, HA.out, k.len]
  have hAr : ∀ x ∈ A ++ b, 0 ≤ x ∧ x ≤ 255 := rng_append HAR.out k.rng
  have HK : Hid (∀ W, Below w.heap.size w W → KAt W) := fun W hW => hK.below hW hK.lt
  have HY : Hid (∀ W, Below w.heap.size w W → Byt W q m d b) := fun W hW => k.below hW
  have HS1 : Hid (∀ W q1 d1, Below w.heap.size w W → Byt W q1 (64 + m) d1 (A ++ b) → Calls Tryd.prog 73 #[.slice q1 (64 + m) d1] W (BytesPut W (shaS (A ++ b)))) := fun W q1 d1 hW hB => sum_any q1 (64 + m) d1 _ W hB (by omega) (HK.out W hW)
  generalize A ++ b = X at hAl hAr HS1 HIB hR
  have HXL := Is.mk hAl
  have HXR := hidden hAr
  have HDL : Is (shaS X).length 32 := ⟨shaS_len X⟩
  have HDR : Hid (∀ x ∈ shaS X, 0 ≤ x ∧ x ≤ 255) := shaS_rng X
  generalize shaS X = D at HS1 HDL HDR hR
  have HOB : Hid (∀ W p0 c0 p1 c1, Byt W p0 64 c0 C → Byt W p1 32 c1 D → Calls Tryd.prog 35 #[.slice (some ⟨W.heap.size, 0, none⟩) 2 2] (W.alloc (.cells #[.slice p0 64 c0, .slice p1 32 c1] 22)) fun e w' =>
      ∃ v, e = .returned v ∧ Own w' W.heap.size 5 v (C ++ D) ∧ Below W.heap.size W w') := fun W p0 c0 p1 c1 h0 h1 => cat2_any W p0 p1 64 32 c0 c1 C D h0 h1 (by omega)
  have HEL : Is (C ++ D).length 96 := ⟨by rw [List.length_append, HC.out, HDL.eq]⟩
  have HER : Hid (∀ x ∈ C ++ D, 0 ≤ x ∧ x ≤ 255) := rng_append HCR.out HDR.out
  have HS2 : Hid (∀ W q1 d1, Below w.heap.size w W → Byt W q1 96 d1 (C ++ D) → Calls Tryd.prog 73 #[.slice q1 96 d1] W (BytesPut W R)) := fun W q1 d1 hW hB => by
    have := sum_any q1 96 d1 _ W hB (by omega) (HK.out W hW)
    rw [hR] at this
    exact this
  generalize C ++ D = E at HOB HEL HER HS2 hR
  have hi64 : (Tryd.prog.info? 92).map (·.size) = some ((L.map (Value.int .u8)).toArray).size := by
    rw [info64b]
    simp [hl]
  have hsz : 64 = ((L.map (Value.int .u8)).toArray).size := by simp [hl]
  have HSZ := hidden hsz
  have HI := hidden hi64
  clear hi64 hsz
  have HLL := Is.mk hl
  have HONE := hidden (one8 L)
  clear h k hK hR hml hAl hAr hl
  go_enter Tryd.func49, Tryd.ntmps49
  go_upto_region 2 with (first
    | (go_at_call 71; (with_reducible refine (HP.out).mono ?_); rintro e w1 ⟨rfl, hb1⟩; have HB1 := hidden hb1; clear hb1)
    | (refine wpList_store_row rfl 92 _ _ rfl w1.heap.size (L.map (Value.int .u8)).toArray rfl rfl 92 _ (heap_alloc_new w1 _) HI.out HSZ.out HONE.out ?_)
    | fail)
  obtain ⟨g, hg⟩ : ∃ g, w1.heap.size = g := ⟨_, rfl⟩
  generalize hw2 : (w1.alloc _).setRow _ _ = w2
  have hw : Wb w2 w1.heap.size 92 L := by
    rw [← hw2]
    exact ⟨setRow_heap _ _ _ _ _ _ (heap_alloc_new w1 _)⟩
  have hb2 : Below w.heap.size w w2 := by
    rw [← hw2]
    exact below_setRow (HB1.out.alloc HB1.out.size _) HB1.out.size _
  clear hw2
  rw [hg] at hw ⊢
  clear hg
  have HW := hidden hw
  have HB2 := hidden hb2
  clear hw hb2 HB1 HP HI HSZ HONE HLL
  go_wp2_with (first
    | (go_at_call 72; (with_reducible refine (HM54.out g w2 HW.out).mono ?_); rintro e w3 ⟨v3, rfl, hown3, hbel3⟩; obtain ⟨q3, d3, rfl, hbyt3⟩ := hown3.bytN rfl HA.out HAR.out; have HB3 := hidden (HB2.out.trans (hbel3.mono HB2.out.size)); have H3 := hidden hbyt3; have HW3 := hidden (HW.out.below hbel3); clear hown3 hbel3 hbyt3)
    | (go_at_call 35; (with_reducible refine (HIB.out w3 _ _ H3.out (HY.out _ HB3.out)).mono ?_); rintro e w4 ⟨v4, rfl, hown4, hbel4⟩; obtain ⟨q4, d4, rfl, hbyt4⟩ := hown4.bytN rfl HXL.eq HXR.out; have HB4 := hidden (HB3.out.trans (hbel4.mono HB3.out.size)); have H4 := hidden hbyt4; have HW4 := hidden (HW3.out.below hbel4); clear hown4 hbel4 hbyt4)
    | (go_at_call 73; (with_reducible refine (HS1.out w4 _ _ HB4.out H4.out).mono ?_); rintro e w5 ⟨v5, rfl, hown5, hbel5⟩; obtain ⟨q5, d5, rfl, hbyt5⟩ := hown5.bytN rfl HDL.eq HDR.out; have HB5 := hidden (HB4.out.trans (hbel5.mono HB4.out.size)); have H5 := hidden hbyt5; have HW5 := hidden (HW4.out.below hbel5); clear hown5 hbel5 hbyt5)
    | (go_at_call 72; (with_reducible refine (HM92.out g w5 HW5.out).mono ?_); rintro e w6 ⟨v6, rfl, hown6, hbel6⟩; obtain ⟨q6, d6, rfl, hbyt6⟩ := hown6.bytN rfl HC.out HCR.out; have HB6 := hidden (HB5.out.trans (hbel6.mono HB5.out.size)); have H6 := hidden hbyt6; have H56 := hidden (H5.out.below hbel6); clear hown6 hbel6 hbyt6)
    | (go_at_call 35; (with_reducible refine (HOB.out w6 _ _ _ _ H6.out H56.out).mono ?_); rintro e w7 ⟨v7, rfl, hown7, hbel7⟩; obtain ⟨q7, d7, rfl, hbyt7⟩ := hown7.bytN rfl HEL.eq HER.out; have HB7 := hidden (HB6.out.trans (hbel7.mono HB6.out.size)); have H7 := hidden hbyt7; clear hown7 hbel7 hbyt7)
    | (go_at_call 73; (with_reducible refine (HS2.out w7 _ _ HB7.out H7.out).mono ?_); rintro e w8 ⟨v8, rfl, hown8, hbel8⟩; have HB8 := hidden (HB7.out.trans (hbel8.mono HB7.out.size)); have HO8 := hidden (hown8.mono HB7.out.size); clear hown8 hbel8)
    | fail)
  go_ret
  exact ⟨_, rfl, HO8.out, HB8.out⟩
end Go.Proofs.YtkniifopfgeopaaDoor
