/-
  The certificates that bytes say, whatever the bytes are.
-/
import Derived.Test.YtkniifopfgeopaaDoorHRSchEncG
namespace Go.Proofs.YtkniifopfgeopaaDoor
open Go.RowKit
set_option linter.unusedVariables false

theorem be_shift : ∀ (k : Nat) (v a : Int), be k (v + a * 2 ^ (8 * k)) = be k v := by
  intro k
  induction k with
  | zero => intro v a; rfl
  | succ k ih =>
    intro v a
    have e : v + a * 2 ^ (8 * (k + 1)) = v + (a * 256) * 2 ^ (8 * k) := by
      rw [show 8 * (k + 1) = 8 * k + 8 by omega, Int.pow_add, show (2 : Int) ^ 8 = 256 from rfl, Int.mul_comm (2 ^ (8 * k)) 256, ← Int.mul_assoc]
    have hp : (2 : Int) ^ (8 * k) ≠ 0 := by
      have : (0 : Int) < 2 ^ (8 * k) := Int.pow_pos (by decide)
      omega
    show (v + a * 2 ^ (8 * (k + 1))) / 2 ^ (8 * k) % 256 :: be k (v + a * 2 ^ (8 * (k + 1))) = v / 2 ^ (8 * k) % 256 :: be k v
    rw [e, ih v (a * 256), Int.add_mul_ediv_right _ _ hp]
    congr 1
    omega
theorem val_shift (l : List Int) : ∀ v, l.foldl (fun v x => v * 256 + x) v = v * 2 ^ (8 * l.length) + val l := by
  induction l with
  | nil => intro v; simp [val]
  | cons x t ih =>
    intro v
    unfold val
    rw [List.foldl_cons, List.foldl_cons, ih, ih (0 * 256 + x), List.length_cons, show 8 * (t.length + 1) = 8 + 8 * t.length by omega, Int.pow_add, show (2 : Int) ^ 8 = 256 from rfl, Int.add_mul, ← Int.mul_assoc, Int.zero_mul, Int.zero_add]
    omega
theorem be_back : ∀ (l : List Int), (∀ x ∈ l, 0 ≤ x ∧ x ≤ 255) → be l.length (val l) = l := by
  intro l
  induction l with
  | nil => intro _; rfl
  | cons x t ih =>
    intro h
    have hx := h x (by simp)
    have ht := fun y hy => h y (List.mem_cons_of_mem _ hy)
    have e : val (x :: t) = val t + x * 2 ^ (8 * t.length) := by
      have := val_shift t (0 * 256 + x)
      unfold val at this ⊢
      rw [List.foldl_cons, this, Int.zero_mul, Int.zero_add]
      omega
    have hb := val_bd t ht
    have hp : (0 : Int) < 2 ^ (8 * t.length) := Int.pow_pos (by decide)
    have hb2 : val t < 2 ^ (8 * t.length) := by
      have e2 : (2 : Int) ^ (8 * t.length) = 256 ^ t.length := by rw [Int.pow_mul]; rfl
      rw [e2]; exact hb.2
    show val (x :: t) / 2 ^ (8 * t.length) % 256 :: be t.length (val (x :: t)) = x :: t
    rw [e, be_shift, ih ht, Int.add_mul_ediv_right _ _ (by omega), Int.ediv_eq_zero_of_lt hb.1 hb2]
    congr 1
    omega
/-- Where the name ends. -/
def nmL (X : List Int) : Nat := (X.getD 0 0).toNat
def szL (X : List Int) : Nat := 1 + nmL X + 8 + 4 + 4 + 1 + 16
/-- The certificate that the bytes begin with. -/
def ctL (X : List Int) : Ct := ⟨strOfNums ((X.take (1 + nmL X)).drop 1), (val ((X.drop (1 + nmL X)).take 8)).toNat, val ((X.drop (1 + nmL X + 8)).take 4), val ((X.drop (1 + nmL X + 8 + 4)).take 4), X.getD (1 + nmL X + 8 + 4 + 4) 0 == 1, none, 0, 0, (X.drop (1 + nmL X + 8 + 4 + 4 + 1)).take 16⟩
/-- Whether they do begin with one. -/
def okL (X : List Int) : Bool := decide (szL X ≤ X.length) && (bodyE (ctL X) == 0) && decide (X.getD (1 + nmL X + 8 + 4 + 4) 0 ≤ 1)
/-- All the certificates, if the bytes are certificates. -/
def decL : Nat → List Int → Option (List Ct)
  | 0, _ => some []
  | f + 1, X => if X = [] then some [] else if okL X = true then (decL f (X.drop (szL X))).map (ctL X :: ·) else none
theorem take_one_drop {X : List Int} {n : Nat} (h : n < X.length) : (X.drop n).take 1 = [X.getD n 0] := by
  rw [List.drop_eq_getElem_cons h, List.getD_eq_getElem?_getD, List.getElem?_eq_getElem h]
  rfl
theorem take_add_drop {X : List Int} (a b : Nat) : X.take (a + b) = X.take a ++ (X.drop a).take b := List.take_add
/-- Body's bytes are those that were read just if the mark is one of Body's. -/
theorem body_same (X : List Int) (hX : X ≠ []) (hr : ∀ x ∈ X, 0 ≤ x ∧ x ≤ 255) (hs : szL X ≤ X.length) : bdL (ctL X) = X.take (1 + nmL X + 8 + 4 + 4 + 1) ↔ X.getD (1 + nmL X + 8 + 4 + 4) 0 ≤ 1 := by
  obtain ⟨N, hN⟩ : ∃ N, nmL X = N := ⟨_, rfl⟩
  have hs' : 1 + N + 8 + 4 + 4 + 1 + 16 ≤ X.length := by rw [← hN]; exact hs
  have h00 : 0 < X.length := by omega
  have hc0 := rng_getD hr 0
  have e0 : X.take 1 = [(N : Int)] := by
    have := take_one_drop (X := X) (n := 0) h00
    rw [List.drop_zero] at this
    rw [this, ← hN]
    unfold nmL
    congr 1
    omega
  have hm := rng_getD hr (1 + N + 8 + 4 + 4)
  have l1 : ((X.take (1 + N)).drop 1).length = N := by simp; omega
  have r1 : ∀ x ∈ (X.take (1 + N)).drop 1, 0 ≤ x ∧ x ≤ 255 := rng_drop (rng_take hr _) _
  have l2 : ((X.drop (1 + N)).take 8).length = 8 := by simp; omega
  have r2 : ∀ x ∈ (X.drop (1 + N)).take 8, 0 ≤ x ∧ x ≤ 255 := rng_take (rng_drop hr _) _
  have l3 : ((X.drop (1 + N + 8)).take 4).length = 4 := by simp; omega
  have r3 : ∀ x ∈ (X.drop (1 + N + 8)).take 4, 0 ≤ x ∧ x ≤ 255 := rng_take (rng_drop hr _) _
  have l4 : ((X.drop (1 + N + 8 + 4)).take 4).length = 4 := by simp; omega
  have r4 : ∀ x ∈ (X.drop (1 + N + 8 + 4)).take 4, 0 ≤ x ∧ x ≤ 255 := rng_take (rng_drop hr _) _
  have b2 := be_back _ r2
  have b3 := be_back _ r3
  have b4 := be_back _ r4
  rw [l2] at b2
  rw [l3] at b3
  rw [l4] at b4
  have v2 := (val_bd _ r2).1
  have hbd : bdL (ctL X) = ((((X.take 1 ++ (X.take (1 + N)).drop 1) ++ (X.drop (1 + N)).take 8) ++ (X.drop (1 + N + 8)).take 4) ++ (X.drop (1 + N + 8 + 4)).take 4) ++ [if X.getD (1 + N + 8 + 4 + 4) 0 = 1 then 1 else 0] := by
    unfold bdL ctL
    simp only [hN]
    rw [letters_nums _ r1, strOfNums_size, l1, e0]
    unfold gbytes
    rw [show (((val ((X.drop (1 + N)).take 8)).toNat : Nat) : Int) = val ((X.drop (1 + N)).take 8) by omega, b2, b3, b4]
    simp only [beq_iff_eq]
  have htk : X.take (1 + N + 8 + 4 + 4 + 1) = ((((X.take 1 ++ (X.take (1 + N)).drop 1) ++ (X.drop (1 + N)).take 8) ++ (X.drop (1 + N + 8)).take 4) ++ (X.drop (1 + N + 8 + 4)).take 4) ++ [X.getD (1 + N + 8 + 4 + 4) 0] := by
    rw [take_add_drop (1 + N + 8 + 4 + 4) 1, take_add_drop (1 + N + 8 + 4) 4, take_add_drop (1 + N + 8) 4, take_add_drop (1 + N) 8, take_one_drop (by omega)]
    congr 5
    rw [List.drop_take, Nat.add_sub_cancel_left, ← take_add_drop]
  rw [hN, hbd, htk]
  constructor
  · intro h9
    have h8 := List.append_cancel_left h9
    simp only [List.cons.injEq, and_true] at h8
    split at h8 <;> omega
  · intro h9
    congr 2
    split <;> omega
end Go.Proofs.YtkniifopfgeopaaDoor
