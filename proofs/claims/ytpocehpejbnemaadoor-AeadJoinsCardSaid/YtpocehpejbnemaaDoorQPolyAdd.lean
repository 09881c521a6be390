/-
  Adding digit by digit; bits of the key that do not count (pure).
-/
import Derived.Test.YtpocehpejbnemaaDoorQPolyLaw
namespace Go.Proofs.YtpocehpejbnemaaDoor
open Go.RowKit
set_option linter.unusedVariables false

theorem dig_getD (b : Int) (hb : 0 < b) (n i : Nat) (v : Int) (hi : i < n) : (dig b n v).getD i 0 = v / b ^ i % b := by
  induction n generalizing i v with
  | zero => omega
  | succ n ih =>
    cases i with
    | zero => simp [dig]
    | succ i =>
      rw [dig, List.getD_cons_succ, ih i (v / b) (by omega), Int.ediv_ediv_of_nonneg (by omega), Int.pow_succ, Int.mul_comm b]
/-- What is carried out of the first i digits. -/
def outB (z : List Int) (i : Nat) : Int := num 256 (z.take i) / 256 ^ i
theorem outB_zero (z : List Int) : outB z 0 = 0 := by simp [outB, num]
theorem outB_succ (z : List Int) (i : Nat) (hi : i < z.length) : outB z (i + 1) = (outB z i + z.getD i 0) / 256 := by
  have := carry_out 256 0 (by omega) z i hi
  simp only [Int.add_zero] at this
  exact this
theorem outB_dig (z : List Int) (n i : Nat) (hi : i < z.length) (hn : i < n) : (dig 256 n (num 256 z)).getD i 0 = (outB z i + z.getD i 0) % 256 := by
  rw [dig_getD 256 (by omega) n i _ hn]
  have h1 : num 256 z = num 256 (z.take (i + 1)) + 256 ^ (i + 1) * num 256 (z.drop (i + 1)) := by
    have := num_append 256 (z.take (i + 1)) (z.drop (i + 1))
    rw [List.take_append_drop, List.length_take, show min (i + 1) z.length = i + 1 by omega] at this
    exact this
  have h2 := carry_dig 256 0 (by omega) z i hi
  simp only [Int.add_zero] at h2
  have hp := pow_pos' (b := 256) (by omega) i
  rw [h1, num_take 256 z i hi, Int.pow_succ]
  have e : num 256 (z.take i) + 256 ^ i * z.getD i 0 + 256 ^ i * 256 * num 256 (z.drop (i + 1)) = num 256 (z.take i) + 256 ^ i * (z.getD i 0 + 256 * num 256 (z.drop (i + 1))) := by grind
  rw [e, Int.add_mul_ediv_left _ _ (by omega), ← Int.add_assoc, Int.add_mul_emod_self_left]
  rfl
theorem outB_rng (z : List Int) (h : ∀ i, 0 ≤ z.getD i 0 ∧ z.getD i 0 ≤ 510) (i : Nat) (hi : i ≤ z.length) : 0 ≤ outB z i ∧ outB z i ≤ 1 := by
  induction i with
  | zero => rw [outB_zero]; omega
  | succ i ih =>
    have := ih (by omega)
    have := h i
    rw [outB_succ z i (by omega)]
    omega
theorem addL_get (A B : List Int) (i : Nat) (ha : i < A.length) (hb : i < B.length) : (addL A B).getD i 0 = A.getD i 0 + B.getD i 0 := by
  unfold addL
  rw [List.getD_eq_getElem?_getD, List.getElem?_zipWith]
  simp [List.getD_eq_getElem?_getD, ha, hb]
/-- A digit of the first half that says the same. -/
theorem clampL_set (l : List Int) (i n : Nat) (x : Int) (hi : i < l.length) (h : clampI i x = clampI i (l.getD i 0)) : clampL (l.set i x) n = clampL l n := by
  refine list_ext _ _ n (clampL_len _ _) (clampL_len _ _) (fun j hj => ?_)
  rw [clampL_get _ _ _ hj, clampL_get _ _ _ hj]
  by_cases hji : j = i
  · subst hji
    rw [getD_setP _ _ _ _ hi, if_pos rfl, h]
  · congr 1
    rw [List.getD_eq_getElem?_getD, List.getD_eq_getElem?_getD, List.getElem?_set_ne (fun e => hji e.symm)]
theorem and240 (z : Int) (h : 0 ≤ z ∧ z ≤ 255) : ∃ k : Fin 16, bits .and .u8 z 240 = 16 * (k.val : Int) := by
  have : ∀ n : Fin 256, bits .and .u8 (n.val : Int) 240 = 16 * ((n.val / 16 : Nat) : Int) := by decide +kernel
  have h1 := this ⟨z.toNat, by omega⟩
  simp only [show ((z.toNat : Nat) : Int) = z by omega] at h1
  exact ⟨⟨z.toNat / 16, by omega⟩, h1⟩
theorem and3 (z : Int) (h : 0 ≤ z ∧ z ≤ 255) : ∃ k : Fin 4, bits .and .u8 z 3 = (k.val : Int) := by
  have : ∀ n : Fin 256, bits .and .u8 (n.val : Int) 3 = ((n.val % 4 : Nat) : Int) := by decide +kernel
  have h1 := this ⟨z.toNat, by omega⟩
  simp only [show ((z.toNat : Nat) : Int) = z by omega] at h1
  exact ⟨⟨z.toNat % 4, by omega⟩, h1⟩
theorem xor240 (x z : Int) (hx : 0 ≤ x ∧ x ≤ 255) (hz : 0 ≤ z ∧ z ≤ 255) (i : Nat) (hi : i % 4 = 3) : clampI i (bits .xor .u8 x (bits .and .u8 z 240)) = clampI i x := by
  obtain ⟨k, hk⟩ := and240 z hz
  rw [hk]
  have : ∀ n : Fin 256, ∀ k : Fin 16, bits .xor .u8 (n.val : Int) (16 * (k.val : Int)) % 16 = (n.val : Int) % 16 := by decide +kernel
  have h1 := this ⟨x.toNat, by omega⟩ k
  simp only [show ((x.toNat : Nat) : Int) = x by omega] at h1
  unfold clampI
  rw [if_pos hi, if_pos hi, h1]
theorem xor3 (x z : Int) (hx : 0 ≤ x ∧ x ≤ 255) (hz : 0 ≤ z ∧ z ≤ 255) (i : Nat) (hi : i % 4 = 0 ∧ 0 < i) : clampI i (bits .xor .u8 x (bits .and .u8 z 3)) = clampI i x := by
  obtain ⟨k, hk⟩ := and3 z hz
  rw [hk]
  have : ∀ n : Fin 256, ∀ k : Fin 4, bits .xor .u8 (n.val : Int) (k.val : Int) - bits .xor .u8 (n.val : Int) (k.val : Int) % 4 = (n.val : Int) - (n.val : Int) % 4 := by decide +kernel
  have h1 := this ⟨x.toNat, by omega⟩ k
  simp only [show ((x.toNat : Nat) : Int) = x by omega] at h1
  unfold clampI
  rw [if_neg (by omega), if_pos hi, if_neg (by omega), if_pos hi, h1]
theorem xor_rng8 (a b : Int) : 0 ≤ bits .xor .u8 a b ∧ bits .xor .u8 a b ≤ 255 := by
  unfold bits
  have := IntKind.wrap_u8
  rw [IntKind.wrap_u8]
  omega
/-- The other key: its first half counts as the key's, its second half is 0. -/
structure LikeK (key Z : List Int) : Prop where
  len : Z.length = 32
  rng : ∀ x ∈ Z, 0 ≤ x ∧ x ≤ 255
  cl : clampL Z 16 = clampL key 16
  zr : num 256 (Z.drop 16) = 0
theorem LikeK.set {key Z : List Int} (h : LikeK key Z) (i : Nat) (x : Int) (hi : i < 16) (hx : 0 ≤ x ∧ x ≤ 255) (he : clampI i x = clampI i (Z.getD i 0)) : LikeK key (Z.set i x) := by
  refine ⟨by rw [List.length_set, h.len], fun y hy => ?_, ?_, ?_⟩
  · rcases List.mem_or_eq_of_mem_set hy with hy | rfl
    · exact h.rng y hy
    · exact hx
  · rw [clampL_set _ _ _ _ (by rw [h.len]; omega) he, h.cl]
  · rw [List.drop_set_of_lt (by omega), h.zr]
theorem LikeK.start (key : List Int) (hl : key.length = 32) (hr : ∀ x ∈ key, 0 ≤ x ∧ x ≤ 255) : LikeK key (key.take 16 ++ List.replicate 16 0) := by
  refine ⟨by simp; omega, rng_append (rng_take hr _) (by decide), ?_, ?_⟩
  · refine list_ext _ _ 16 (clampL_len _ _) (clampL_len _ _) (fun j hj => ?_)
    rw [clampL_get _ _ _ hj, clampL_get _ _ _ hj]
    congr 1
    rw [List.getD_eq_getElem?_getD, List.getD_eq_getElem?_getD, List.getElem?_append_left (by simp; omega), List.getElem?_take, if_pos hj]
  · rw [List.drop_append, List.drop_take]
    simp only [Nat.sub_self, List.take_zero, List.nil_append, List.length_take, show min 16 key.length = 16 by omega, List.drop_zero]
    exact num_zeros _ _ (by decide)
end Go.Proofs.YtpocehpejbnemaaDoor
