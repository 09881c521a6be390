/-
  curve.product, the numbers: columns, carries, and what the limbs of a product stand for.
-/
import Derived.Test.YtilnbmlbahflkaaMCrvNum
import Derived.Test.YtilnbmlbahflkaaMCrvMul64
namespace Go.Proofs.Ytilnbmlbahflkaa
open Go.RowKit
set_option linter.unusedVariables false

/-- The row of limbs after j rounds. -/
def rowM (B : List Int) : Nat → List Int
  | 0 => List.replicate 9 0
  | j + 1 => if 0 < j then ((rowM B j).set (4 - j) (B.getD j 0)).set (9 - j) (B.getD j 0 * 19) else (rowM B j).set (4 - j) (B.getD j 0)
theorem rowM_len (B : List Int) (j : Nat) : (rowM B j).length = 9 := by
  induction j with
  | zero => rfl
  | succ j ih => unfold rowM; split <;> simp [ih]
theorem rowM_end (a b c d e : Int) : rowM [a, b, c, d, e] 5 = [e, d, c, b, a, e * 19, d * 19, c * 19, b * 19] := by
  simp [rowM, List.replicate]
/-- The sum of the first k products of a column, with what is carried in. -/
def tS (c : Int) (A R : List Int) (i : Nat) : Nat → Int
  | 0 => c
  | k + 1 => tS c A R i k + A.getD k 0 * R.getD (4 - i + k) 0
theorem tS_add (c : Int) (A R : List Int) (i k : Nat) : tS c A R i k = tS 0 A R i k + c := by
  induction k with
  | zero => simp [tS]
  | succ k ih => simp only [tS, ih]; omega
def colS (A R : List Int) (i : Nat) : Int := tS 0 A R i 5
def colsL (A R : List Int) : List Int := [colS A R 0, colS A R 1, colS A R 2, colS A R 3, colS A R 4]
theorem colsL_get (A R : List Int) (i : Nat) (hi : i < 5) : (colsL A R).getD i 0 = colS A R i := by
  have : i = 0 ∨ i = 1 ∨ i = 2 ∨ i = 3 ∨ i = 4 := by omega
  rcases this with rfl | rfl | rfl | rfl | rfl <;> rfl
theorem prod_bound {x y a b : Int} (hx : 0 ≤ x ∧ x < a) (hy : 0 ≤ y ∧ y < b) : 0 ≤ x * y ∧ x * y ≤ a * b := by
  refine ⟨Int.mul_nonneg hx.1 hy.1, Int.mul_le_mul (by omega) (by omega) hy.1 (by omega)⟩
theorem rowM_rng (B : List Int) (h : Lw m2 B) (j : Nat) (hj : j < 9) : 0 ≤ (rowM B 5).getD j 0 ∧ (rowM B 5).getD j 0 < 171136785840078848 := by
  obtain ⟨a, b, c, d, e, rfl, h0, h1, h2, h3, h4⟩ := h.out
  rw [rowM_end]
  unfold m2 at *
  have : j = 0 ∨ j = 1 ∨ j = 2 ∨ j = 3 ∨ j = 4 ∨ j = 5 ∨ j = 6 ∨ j = 7 ∨ j = 8 := by omega
  rcases this with rfl | rfl | rfl | rfl | rfl | rfl | rfl | rfl | rfl <;> simp <;> omega
theorem rowM_rng4 (B : List Int) (h : Lw m2 B) (j : Nat) (hj : j < 5) : 0 ≤ (rowM B 5).getD j 0 ∧ (rowM B 5).getD j 0 < 9007199254740992 := by
  obtain ⟨a, b, c, d, e, rfl, h0, h1, h2, h3, h4⟩ := h.out
  rw [rowM_end]
  unfold m2 at *
  have : j = 0 ∨ j = 1 ∨ j = 2 ∨ j = 3 ∨ j = 4 := by omega
  rcases this with rfl | rfl | rfl | rfl | rfl <;> simp <;> omega
/-- The bounds of the sums of a column. -/
theorem tS_rng (A B : List Int) (hA : Lw m2 A) (hB : Lw m2 B) (c : Int) (hc : 0 ≤ c) (i k : Nat) (hi : i < 5) (hk : k ≤ 5) : 0 ≤ tS c A (rowM B 5) i k ∧ tS c A (rowM B 5) i k ≤ c + 1541463129877526952219991097737216 * (k : Int) := by
  induction k with
  | zero => exact ⟨hc, by simp [tS]⟩
  | succ k ih =>
    have := ih (by omega)
    have hp := prod_bound (hA.get k (by omega)) (rowM_rng B hB (4 - i + k) (by omega))
    unfold tS
    unfold m2 at hp
    omega
theorem tS_rng4 (A B : List Int) (hA : Lw m2 A) (hB : Lw m2 B) (c : Int) (hc : 0 ≤ c) (k : Nat) (hk : k ≤ 5) : tS c A (rowM B 5) 4 k ≤ c + 81129638414606681695789005144064 * (k : Int) := by
  induction k with
  | zero => simp [tS]
  | succ k ih =>
    have := ih (by omega)
    have hp := prod_bound (hA.get k (by omega)) (rowM_rng4 B hB (4 - 4 + k) (by omega))
    unfold tS
    unfold m2 at hp
    omega
/-- What is carried out of the first j columns. -/
def cC (C : List Int) (j : Nat) : Int := num B51 (C.take j) / B51 ^ j
theorem cC_zero (C : List Int) : cC C 0 = 0 := by simp [cC, num]
theorem cC_succ (C : List Int) (j : Nat) (hj : j < C.length) : cC C (j + 1) = (C.getD j 0 + cC C j) / 2251799813685248 := by
  have := carry_out B51 0 B51_pos C j hj
  simp only [Int.add_zero] at this
  unfold cC
  rw [this, Int.add_comm]
  rfl
/-- What lies in the block of the product after j rounds. -/
def oC (C : List Int) (j : Nat) : List Int := dig B51 j (num B51 (C.take j)) ++ (List.replicate 5 0).drop j
theorem oC_zero (C : List Int) : oC C 0 = List.replicate 5 0 := by simp [oC, dig]
theorem oC_len (C : List Int) (j : Nat) (hj : j ≤ 5) : (oC C j).length = 5 := by simp [oC, dig_len]; omega
theorem oC_succ (C : List Int) (j : Nat) (hj : j < C.length) (hj5 : j < 5) : (oC C j).set j ((C.getD j 0 + cC C j) % 2251799813685248) = oC C (j + 1) := by
  unfold oC
  have h := carry_dig B51 0 B51_pos C j hj
  simp only [Int.add_zero] at h
  rw [set_mid _ _ _ _ (dig_len _ _ _) (by simp; omega), h]
  unfold cC
  rw [Int.add_comm]
  rfl
theorem oC_end (C : List Int) (h : C.length = 5) : oC C 5 = dig B51 5 (num B51 C) := by
  unfold oC
  rw [List.take_of_length_le (by omega)]
  simp
theorem cols_rng (A B : List Int) (hA : Lw m2 A) (hB : Lw m2 B) (j : Nat) (hj : j ≤ 5) : 0 ≤ cC (colsL A (rowM B 5)) j ∧ cC (colsL A (rowM B 5)) j < 4611686018427387904 := by
  induction j with
  | zero => rw [cC_zero]; omega
  | succ j ih =>
    have := ih (by omega)
    rw [cC_succ _ _ (by show j < 5; omega), colsL_get _ _ _ (by omega)]
    have h := tS_rng A B hA hB 0 (Int.le_refl _) j 5 (by omega) (by omega)
    unfold colS
    omega
theorem cols_last (A B : List Int) (hA : Lw m2 A) (hB : Lw m2 B) : cC (colsL A (rowM B 5)) 5 < 180143985094821376 + 8192 := by
  have := cols_rng A B hA hB 4 (by omega)
  rw [cC_succ _ _ (by show 4 < 5; omega), colsL_get _ _ _ (by omega)]
  have h := tS_rng4 A B hA hB 0 (Int.le_refl _) 5 (by omega)
  unfold colS
  omega
/-- The number of the columns is the product. -/
theorem cols_num (A B : List Int) (hA : A.length = 5) (hB : B.length = 5) : toK (num B51 (colsL A (rowM B 5))) = fe A * fe B := by
  obtain ⟨a0, a1, a2, a3, a4, rfl⟩ := five A hA
  obtain ⟨b0, b1, b2, b3, b4, rfl⟩ := five B hB
  unfold fe
  rw [← toK_mul, rowM_end]
  refine toK_cong (t := (a1*b4 + a2*b3 + a3*b2 + a4*b1) + 2251799813685248*(a2*b4 + a3*b3 + a4*b2) + 5070602400912917605986812821504*(a3*b4 + a4*b3) + 11417981541647679048466287755595961091061972992*(a4*b4)) ?_
  unfold colsL colS
  rw [num51, num51, num51, pN_int]
  simp only [tS, List.getD_cons_zero, List.getD_cons_succ]
  grind
/-- The last two steps keep the number but for a multiple of the modulus. -/
theorem last_num (C : List Int) (h : C.length = 5) (d0 d1 d2 d3 d4 : Int) (hd : dig B51 5 (num B51 C) = [d0, d1, d2, d3, d4]) :
    fe [(d0 + cC C 5 * 19) % 2251799813685248, d1 + (d0 + cC C 5 * 19) / 2251799813685248, d2, d3, d4] = toK (num B51 C) := by
  unfold fe
  have h1 := num_dig B51 B51_pos 5 (num B51 C)
  have h2 := Int.mul_ediv_add_emod (num B51 C) (B51 ^ 5)
  have h3 : cC C 5 = num B51 C / B51 ^ 5 := by unfold cC; rw [List.take_of_length_le (by omega)]
  rw [hd] at h1
  rw [← h3] at h2
  refine toK_cong (t := cC C 5) ?_
  rw [← h2, ← h1]
  generalize cC C 5 = c at *
  have h5 : B51 ^ 5 = 57896044618658097711785492504343953926634992332820282019728792003956564819968 := by decide
  rw [h5, num51, num51, pN_int]
  omega
theorem last_lw (C : List Int) (d0 d1 d2 d3 d4 c : Int) (hd : dig B51 5 (num B51 C) = [d0, d1, d2, d3, d4]) (h0 : 0 ≤ c) (h1 : c < 180143985094821376 + 8192) :
    Lw m1 [(d0 + c * 19) % 2251799813685248, d1 + (d0 + c * 19) / 2251799813685248, d2, d3, d4] ∧ (0 ≤ d0 ∧ d0 < 2251799813685248) ∧ (0 ≤ d1 ∧ d1 < 2251799813685248) := by
  have h := dig_rng B51 B51_pos 5 (num B51 C)
  rw [hd] at h
  unfold B51 at h
  have k0 := h d0 (by simp)
  have k1 := h d1 (by simp)
  have k2 := h d2 (by simp)
  have k3 := h d3 (by simp)
  have k4 := h d4 (by simp)
  refine ⟨?_, k0, k1⟩
  unfold m1
  exact Lw.of (by omega) (by omega) (by omega) (by omega) (by omega)
theorem and51 (x : Int) (h0 : 0 ≤ x) (h1 : x < 18446744073709551616) : bits .and .u64 x 2251799813685247 = x % 2251799813685248 :=
  bits_mask .u64 64 (by decide) (fun n h0 h1 => by rw [IntKind.wrap_u64]; omega) 51 (by decide) x h0 h1
theorem addProduct_int (T x y : Int) (hT : 0 ≤ T) (hx : 0 ≤ x ∧ x < 18446744073709551616) (hy : 0 ≤ y ∧ y < 18446744073709551616) (hb : T + x * y < 340282366920938463463374607431768211456) (w : World) :
    Calls Try.prog 35 #[.int .u64 (T / 18446744073709551616), .int .u64 (T % 18446744073709551616), .int .u64 x, .int .u64 y] w fun e w' =>
      e = .returned (.tuple #[.int .u64 ((T + x * y) / 18446744073709551616), .int .u64 ((T + x * y) % 18446744073709551616)]) ∧ w' = w := by
  obtain ⟨T, rfl⟩ := Int.eq_ofNat_of_zero_le hT
  obtain ⟨x, rfl⟩ := Int.eq_ofNat_of_zero_le hx.1
  obtain ⟨y, rfl⟩ := Int.eq_ofNat_of_zero_le hy.1
  have hb' : T + x * y < 340282366920938463463374607431768211456 := by
    have e : ((x * y : Nat) : Int) = (x : Int) * (y : Int) := Int.natCast_mul x y
    omega
  exact addProduct_any T x y (by omega) (by omega) hb' w
end Go.Proofs.Ytilnbmlbahflkaa
