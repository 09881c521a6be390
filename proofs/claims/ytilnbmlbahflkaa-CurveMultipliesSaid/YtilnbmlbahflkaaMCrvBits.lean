/-
  Numbers and their bits: how digits grow bit by bit.
-/
import Derived.Test.YtilnbmlbahflkaaMPolyMath
namespace Go.Proofs.Ytilnbmlbahflkaa
open Go.RowKit
set_option linter.unusedVariables false

theorem two_pos (n : Nat) : (0 : Int) < 2 ^ n := Int.pow_pos (by decide)
theorem le_mul_one {a b : Int} (ha : 0 ≤ a) (hb : 1 ≤ b) : a ≤ a * b := by
  have := Int.mul_le_mul_of_nonneg_left hb ha
  rwa [Int.mul_one] at this
theorem dig_get (b : Int) (hb : 0 < b) (n : Nat) (v : Int) (j : Nat) (hj : j < n) : (dig b n v).getD j 0 = v / b ^ j % b := by
  induction n generalizing v j with
  | zero => omega
  | succ n ih =>
    cases j with
    | zero => simp [dig]
    | succ j =>
      rw [dig, List.getD_cons_succ, ih _ _ (by omega), Int.pow_succ, Int.mul_comm (b ^ j), Int.ediv_ediv_of_nonneg (by omega)]
/-- The bit i of a number. -/
def vbit (v : Int) (i : Nat) : Int := v / 2 ^ i % 2
theorem vbit_rng (v : Int) (i : Nat) : vbit v i = 0 ∨ vbit v i = 1 := by unfold vbit; omega
/-- The lowest i + 1 bits. -/
theorem mod_succ (v : Int) (i : Nat) : v % 2 ^ (i + 1) = v % 2 ^ i + vbit v i * 2 ^ i := by
  have hp := two_pos i
  have h1 := Int.mul_ediv_add_emod v (2 ^ i)
  have h2 := Int.emod_nonneg v (show (2 : Int) ^ i ≠ 0 by omega)
  have h3 := Int.emod_lt_of_pos v hp
  have h4 := Int.mul_ediv_add_emod (v / 2 ^ i) 2
  have h5 := vbit_rng v i
  unfold vbit at *
  rw [Int.pow_succ]
  generalize v % 2 ^ i = r at *
  generalize v / 2 ^ i = q at *
  generalize hq : q / 2 = q' at *
  generalize ht : q % 2 = t at *
  generalize (2 : Int) ^ i = p at *
  have e : v = (r + t * p) + p * 2 * q' := by rw [← h1, ← h4]; grind
  rw [e, Int.add_mul_emod_self_left]
  refine Int.emod_eq_of_lt ?_ ?_
  · rcases h5 with rfl | rfl <;> omega
  · rcases h5 with rfl | rfl <;> omega
/-- The bits of a number lie in its digits. -/
theorem num_bit (w : Nat) (l : List Int) (i : Nat) (hw : 0 < w) (hi : i < w * l.length) (h : ∀ x ∈ l, 0 ≤ x ∧ x < 2 ^ w) : vbit (num (2 ^ w) l) i = l.getD (i / w) 0 / 2 ^ (i % w) % 2 := by
  have hq : i / w < l.length := Nat.div_lt_of_lt_mul hi
  have hr : i % w < w := Nat.mod_lt _ hw
  have e1 := dig_num (2 ^ w) (two_pos w) l h
  have e2 := dig_get (2 ^ w) (two_pos w) l.length (num (2 ^ w) l) (i / w) hq
  rw [e1] at e2
  rw [e2]
  unfold vbit
  generalize num (2 ^ w) l = v
  have e3 : (2 : Int) ^ i = (2 ^ w) ^ (i / w) * 2 ^ (i % w) := by
    rw [← Int.pow_mul, ← Int.pow_add, Nat.div_add_mod]
  rw [e3, ← Int.ediv_ediv_of_nonneg (by have := two_pos w; exact Int.le_of_lt (Int.pow_pos this))]
  generalize v / (2 ^ w) ^ (i / w) = q
  have e4 : (2 : Int) ^ w = 2 ^ (i % w) * 2 * 2 ^ (w - i % w - 1) := by
    rw [Int.mul_assoc, show (2 : Int) * 2 ^ (w - i % w - 1) = 2 ^ (w - i % w - 1 + 1) by rw [Int.pow_succ, Int.mul_comm], ← Int.pow_add]
    congr 1
    omega
  rw [e4]
  have hp := two_pos (i % w)
  have hs := two_pos (w - i % w - 1)
  generalize (2 : Int) ^ (i % w) = p at *
  generalize (2 : Int) ^ (w - i % w - 1) = s at *
  have h1 := Int.mul_ediv_add_emod q (p * 2 * s)
  generalize q / (p * 2 * s) = a at *
  generalize q % (p * 2 * s) = r at *
  have e5 : q = r + p * (2 * s * a) := by rw [← h1]; grind
  rw [e5, Int.add_mul_ediv_left _ _ (by omega), Int.mul_assoc 2 s a, Int.add_mul_emod_self_left]
/-- One bit more. -/
theorem dig_bit (w n : Nat) (v : Int) (i : Nat) (hw : 0 < w) (hi : i < w * n) :
    (dig (2 ^ w) n (v % 2 ^ i)).set (i / w) ((dig (2 ^ w) n (v % 2 ^ i)).getD (i / w) 0 + vbit v i * 2 ^ (i % w)) = dig (2 ^ w) n (v % 2 ^ (i + 1)) ∧
    0 ≤ (dig (2 ^ w) n (v % 2 ^ i)).getD (i / w) 0 ∧ (dig (2 ^ w) n (v % 2 ^ i)).getD (i / w) 0 < 2 ^ (i % w) := by
  have hq : i / w < n := Nat.div_lt_of_lt_mul hi
  have hr : i % w < w := Nat.mod_lt _ hw
  have hlen := dig_len (2 ^ w) n (v % 2 ^ i)
  have hrng := dig_rng (2 ^ w) (two_pos w) n (v % 2 ^ i)
  have hv0 := Int.emod_nonneg v (show (2 : Int) ^ i ≠ 0 by have := two_pos i; omega)
  have hv1 := Int.emod_lt_of_pos v (two_pos i)
  have e3 : (2 : Int) ^ i = (2 ^ w) ^ (i / w) * 2 ^ (i % w) := by
    rw [← Int.pow_mul, ← Int.pow_add, Nat.div_add_mod]
  have hg := dig_get (2 ^ w) (two_pos w) n (v % 2 ^ i) (i / w) hq
  have hpq : (0 : Int) < (2 ^ w) ^ (i / w) := Int.pow_pos (two_pos w)
  have hd1 : v % 2 ^ i / (2 ^ w) ^ (i / w) < 2 ^ (i % w) := Int.ediv_lt_of_lt_mul hpq (by rw [Int.mul_comm, ← e3]; exact hv1)
  have hd0 : 0 ≤ v % 2 ^ i / (2 ^ w) ^ (i / w) := Int.ediv_nonneg hv0 (Int.le_of_lt hpq)
  have hpw : (2 : Int) ^ (i % w) * 2 ≤ 2 ^ w := by
    have : (2 : Int) ^ w = 2 ^ (i % w) * 2 * 2 ^ (w - i % w - 1) := by
      rw [Int.mul_assoc, show (2 : Int) * 2 ^ (w - i % w - 1) = 2 ^ (w - i % w - 1 + 1) by rw [Int.pow_succ, Int.mul_comm], ← Int.pow_add]
      congr 1
      omega
    rw [this]
    have h1 := two_pos (w - i % w - 1)
    have h2 := two_pos (i % w)
    exact le_mul_one (by omega) (by omega)
  have hpr := two_pos (i % w)
  have hx : (dig (2 ^ w) n (v % 2 ^ i)).getD (i / w) 0 = v % 2 ^ i / (2 ^ w) ^ (i / w) := by
    rw [hg]
    exact Int.emod_eq_of_lt hd0 (by omega)
  have hnum := num_set (2 ^ w) (dig (2 ^ w) n (v % 2 ^ i)) (i / w) (by rw [hlen]; exact hq) (vbit v i * 2 ^ (i % w))
  have hnd := num_dig (2 ^ w) (two_pos w) n (v % 2 ^ i)
  have hle : (2 : Int) ^ i ≤ (2 ^ w) ^ n := by
    rw [← Int.pow_mul]
    have : (2 : Int) ^ (w * n) = 2 ^ i * 2 ^ (w * n - i) := by rw [← Int.pow_add]; congr 1; omega
    rw [this]
    have h1 := two_pos i
    have h2 := two_pos (w * n - i)
    exact le_mul_one (by omega) (by omega)
  rw [Int.emod_eq_of_lt hv0 (by omega)] at hnd
  rw [hx]
  refine ⟨?_, hd0, hd1⟩
  rw [hx] at hnum
  have hb := vbit_rng v i
  have hres : ∀ x ∈ (dig (2 ^ w) n (v % 2 ^ i)).set (i / w) (v % 2 ^ i / (2 ^ w) ^ (i / w) + vbit v i * 2 ^ (i % w)), 0 ≤ x ∧ x < 2 ^ w := by
    intro x hxm
    rcases List.mem_or_eq_of_mem_set hxm with h | h
    · exact hrng x h
    · subst h
      rcases hb with h | h <;> rw [h] <;> omega
  have key := dig_num (2 ^ w) (two_pos w) _ hres
  rw [hnum, List.length_set, hlen, hnd] at key
  rw [← key]
  congr 1
  rw [mod_succ, e3]
  generalize vbit v i = b
  generalize v % ((2 ^ w) ^ (i / w) * 2 ^ (i % w)) = r
  grind
theorem dig_zero (b : Int) (n : Nat) : dig b n 0 = List.replicate n 0 := by
  induction n with
  | zero => rfl
  | succ n ih => rw [dig, List.replicate_succ]; simp [ih]
end Go.Proofs.Ytilnbmlbahflkaa
