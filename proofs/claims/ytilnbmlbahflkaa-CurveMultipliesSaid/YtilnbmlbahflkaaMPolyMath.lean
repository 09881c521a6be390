/-
  Poly1305: numbers as lists of digits in any base, the tag as a function on lists, and the arithmetic of the limbs.
-/
import Derived.Test.YtilnbmlbahflkaaMBytes
namespace Go.Proofs.Ytilnbmlbahflkaa
open Go.RowKit
set_option linter.unusedVariables false

/-- The number of digits in base b, the lowest one first. -/
def num (b : Int) : List Int → Int
  | [] => 0
  | x :: l => x + b * num b l
/-- The lowest n digits of a number in base b. -/
def dig (b : Int) : Nat → Int → List Int
  | 0, _ => []
  | n + 1, v => v % b :: dig b n (v / b)
theorem dig_len (b : Int) (n : Nat) (v : Int) : (dig b n v).length = n := by
  induction n generalizing v with
  | zero => rfl
  | succ n ih => simp [dig, ih]
theorem pow_pos' {b : Int} (hb : 0 < b) (n : Nat) : 0 < b ^ n := Int.pow_pos hb
theorem num_append (b : Int) (l m : List Int) : num b (l ++ m) = num b l + b ^ l.length * num b m := by
  induction l with
  | nil => simp [num]
  | cons x l ih => simp only [List.cons_append, num, ih, List.length_cons, Int.pow_succ]; grind
theorem num_take (b : Int) (l : List Int) (j : Nat) (hj : j < l.length) : num b (l.take (j + 1)) = num b (l.take j) + b ^ j * l.getD j 0 := by
  rw [List.take_succ_eq_append_getElem hj, num_append]
  have h1 : (l.take j).length = j := by simp; omega
  rw [h1]
  simp [num, List.getD_eq_getElem?_getD, hj]
theorem dig_succ (b : Int) (hb : 0 < b) (n : Nat) (v : Int) : dig b (n + 1) v = dig b n v ++ [v / b ^ n % b] := by
  induction n generalizing v with
  | zero => simp [dig]
  | succ n ih =>
    rw [dig, ih, dig, List.cons_append, Int.pow_succ, Int.ediv_ediv_of_nonneg (by omega), Int.mul_comm b]
theorem dig_add (b : Int) (hb : 0 < b) (n : Nat) (v u : Int) : dig b n (v + b ^ n * u) = dig b n v := by
  induction n generalizing v with
  | zero => rfl
  | succ n ih =>
    have e : v + b ^ (n + 1) * u = v + b * (b ^ n * u) := by rw [Int.pow_succ]; grind
    rw [dig, dig, e, Int.add_mul_emod_self_left, Int.add_mul_ediv_left _ _ (by omega), ih]
theorem num_dig (b : Int) (hb : 0 < b) (n : Nat) (v : Int) : num b (dig b n v) = v % b ^ n := by
  induction n generalizing v with
  | zero => simp [dig, num, Int.emod_one]
  | succ n ih =>
    rw [dig, num, ih]
    have hp := pow_pos' hb n
    have h1 := Int.mul_ediv_add_emod v b
    have h2 := Int.mul_ediv_add_emod (v / b) (b ^ n)
    have h3 : v / b / b ^ n = v / b ^ (n + 1) := by rw [Int.ediv_ediv_of_nonneg (by omega), Int.pow_succ, Int.mul_comm]
    have h4 := Int.mul_ediv_add_emod v (b ^ (n + 1))
    rw [h3] at h2
    rw [Int.pow_succ] at h2 h4 ⊢
    generalize v / (b ^ n * b) = q at *
    clear h3 ih
    generalize v / b = u at *
    generalize v % b = t at *
    generalize v % (b ^ n * b) = r at *
    generalize v / b % b ^ n = s at *
    grind
theorem dig_rng (b : Int) (hb : 0 < b) (n : Nat) (v : Int) : ∀ x ∈ dig b n v, 0 ≤ x ∧ x < b := by
  induction n generalizing v with
  | zero => intro x hx; cases hx
  | succ n ih =>
    intro x hx
    rcases List.mem_cons.1 hx with rfl | hx
    · exact ⟨Int.emod_nonneg _ (by omega), Int.emod_lt_of_pos _ hb⟩
    · exact ih _ x hx
theorem dig_num (b : Int) (hb : 0 < b) (l : List Int) (h : ∀ x ∈ l, 0 ≤ x ∧ x < b) : dig b l.length (num b l) = l := by
  induction l with
  | nil => rfl
  | cons x l ih =>
    have hx := h x (by simp)
    have hd : (x + b * num b l) / b = num b l := by
      rw [Int.add_mul_ediv_left _ _ (by omega), Int.ediv_eq_zero_of_lt hx.1 hx.2, Int.zero_add]
    rw [List.length_cons, dig, num, hd, ih (fun y hy => h y (by simp [hy])), Int.add_mul_emod_self_left, Int.emod_eq_of_lt hx.1 hx.2]
theorem num_nonneg {b : Int} (hb : 0 ≤ b) (l : List Int) (h : ∀ x ∈ l, 0 ≤ x) : 0 ≤ num b l := by
  induction l with
  | nil => exact Int.le_refl _
  | cons x l ih =>
    have := h x (by simp)
    have := Int.mul_nonneg hb (ih (fun y hy => h y (by simp [hy])))
    simp only [num]; omega
theorem num_lt {b : Int} (hb : 0 < b) (l : List Int) (h : ∀ x ∈ l, 0 ≤ x ∧ x < b) : num b l < b ^ l.length := by
  have := num_dig b hb l.length (num b l)
  rw [dig_num b hb l h] at this
  rw [this]
  exact Int.emod_lt_of_pos _ (pow_pos' hb _)
/-- One step of a carry: the digits so far. -/
theorem carry_dig (b c : Int) (hb : 0 < b) (l : List Int) (j : Nat) (hj : j < l.length) :
    dig b (j + 1) (num b (l.take (j + 1)) + c) = dig b j (num b (l.take j) + c) ++ [((num b (l.take j) + c) / b ^ j + l.getD j 0) % b] := by
  have e : num b (l.take j) + b ^ j * l.getD j 0 + c = num b (l.take j) + c + b ^ j * l.getD j 0 := by grind
  rw [dig_succ b hb, num_take b l j hj, e, dig_add b hb, Int.add_mul_ediv_left _ _ (by have := pow_pos' hb j; omega)]
/-- One step of a carry: what is carried out. -/
theorem carry_out (b c : Int) (hb : 0 < b) (l : List Int) (j : Nat) (hj : j < l.length) :
    (num b (l.take (j + 1)) + c) / b ^ (j + 1) = ((num b (l.take j) + c) / b ^ j + l.getD j 0) / b := by
  have e : num b (l.take j) + b ^ j * l.getD j 0 + c = num b (l.take j) + c + b ^ j * l.getD j 0 := by grind
  rw [num_take b l j hj, e, Int.pow_succ, ← Int.ediv_ediv_of_nonneg (by have := pow_pos' hb j; omega), Int.add_mul_ediv_left _ _ (by have := pow_pos' hb j; omega)]
theorem num_set (b : Int) (l : List Int) (j : Nat) (hj : j < l.length) (d : Int) : num b (l.set j (l.getD j 0 + d)) = num b l + b ^ j * d := by
  induction l generalizing j with
  | nil => simp at hj
  | cons x l ih =>
    cases j with
    | zero => simp [num]; omega
    | succ j =>
      have := ih j (by simpa using hj)
      simp only [List.set_cons_succ, num, List.getD_cons_succ, this, Int.pow_succ]
      grind
theorem set_mid (D L : List Int) (j : Nat) (z : Int) (hD : D.length = j) (hj : j < L.length) : (D ++ L.drop j).set j z = (D ++ [z]) ++ L.drop (j + 1) := by
  rw [List.set_append_right _ _ (by omega), hD, Nat.sub_self, List.drop_eq_getElem_cons hj, List.set_cons_zero]
  simp
theorem getD_mid (D L : List Int) (j : Nat) (hD : D.length = j) : (D ++ L.drop j).getD j 0 = L.getD j 0 := by
  rw [List.getD_eq_getElem?_getD, List.getD_eq_getElem?_getD, List.getElem?_append_right (by omega), hD, Nat.sub_self, List.getElem?_drop]
  simp

/-- The modulus. -/
def P130 : Int := 1361129467683753853853498429727072845819
/-- A piece with the bit above it. -/
def markS (p : List Int) : Int := num 256 p + 256 ^ p.length
/-- One step. -/
def stepP (r v : Int) (p : List Int) : Int := ((v + markS p) * r) % P130
/-- The first half of the key, without the bits that do not count. -/
def clampI (i : Nat) (x : Int) : Int := if i % 4 = 3 then x % 16 else if i % 4 = 0 ∧ 0 < i then x - x % 4 else x
def clampL (k : List Int) : Nat → List Int
  | 0 => []
  | n + 1 => clampL k n ++ [clampI n (k.getD n 0)]
/-- The pieces of 16. -/
def pieces : Nat → List Int → List (List Int)
  | 0, _ => []
  | k + 1, b => pieces k b ++ [(b.drop (16 * k)).take 16]
def accS (r : Int) (b : List Int) (k : Nat) : Int := (pieces k b).foldl (stepP r) 0
/-- How many pieces there are. -/
def piecesN (n : Nat) : Nat := (n + 15) / 16
/-- The number r of a key. -/
def rS (key : List Int) : Int := num 256 (clampL key 16)
/-- The tag. -/
def tagS (key b : List Int) : List Int := dig 256 16 (accS (rS key) b (piecesN b.length) + num 256 (key.drop 16))
/-- The example of the chapter. -/
def polyKey : List Int := [0x85, 0xd6, 0xbe, 0x78, 0x57, 0x55, 0x6d, 0x33, 0x7f, 0x44, 0x52, 0xfe, 0x42, 0xd5, 0x06, 0xa8, 0x01, 0x03, 0x80, 0x8a, 0xfb, 0x0d, 0xb2, 0xfd, 0x4a, 0xbf, 0xf6, 0xaf, 0x41, 0x49, 0xf5, 0x1b]
def polyMsg : List Int := [67, 114, 121, 112, 116, 111, 103, 114, 97, 112, 104, 105, 99, 32, 70, 111, 114, 117, 109, 32, 82, 101, 115, 101, 97, 114, 99, 104, 32, 71, 114, 111, 117, 112]
def polyTag : List Int := [0xa8, 0x06, 0x1d, 0xc1, 0x30, 0x51, 0x36, 0xc6, 0xc2, 0x2b, 0x8b, 0xaf, 0x0c, 0x01, 0x27, 0xa9]
end Go.Proofs.Ytilnbmlbahflkaa
