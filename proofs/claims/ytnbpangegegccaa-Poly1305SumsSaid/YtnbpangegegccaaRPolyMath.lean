/-
  The document's own arithmetic modulo 2^130 - 5 in 17 digits (pure).
-/
import Derived.Test.YtnbpangegegccaaPolyOne
namespace Go.Proofs.Ytnbpangegegccaa
open Go.RowKit
set_option linter.unusedVariables false

theorem p16 : (256 : Int) ^ 16 = 340282366920938463463374607431768211456 := by decide
theorem p17 : (256 : Int) ^ 17 = 87112285931760246646623899502532662132736 := by decide
theorem split16 (H : List Int) (h : H.length = 17) : num 256 H = num 256 (H.take 16) + 256 ^ 16 * H.getD 16 0 := by
  have := num_take 256 H 16 (by omega)
  rw [List.take_of_length_le (by omega)] at this
  exact this
/-- The digits after a round, but for what counts five times. -/
def finR (H : List Int) : List Int := dig 256 16 (num 256 (H.take 16)) ++ [(outB H 16 + H.getD 16 0) % 4]
def roundR (H : List Int) : List Int := (finR H).set 0 ((finR H).getD 0 0 + 5 * ((outB H 16 + H.getD 16 0) / 4))
theorem finR_len (H : List Int) : (finR H).length = 17 := by simp [finR, dig_len]
theorem roundR_len (H : List Int) : (roundR H).length = 17 := by simp [roundR, finR_len]
theorem top16 (H : List Int) (h : H.length = 17) : outB H 16 + H.getD 16 0 = num 256 H / 256 ^ 16 := by
  rw [split16 H h, Int.add_mul_ediv_left _ _ (by decide)]
  rfl
theorem finR_num (H : List Int) (h : H.length = 17) : num 256 (finR H) = num 256 H % 1361129467683753853853498429727072845824 := by
  unfold finR
  rw [num_append, num_dig 256 (by omega), dig_len, top16 H h]
  have h1 : num 256 (H.take 16) % 256 ^ 16 = num 256 H % 256 ^ 16 := by rw [split16 H h, Int.add_mul_emod_self_left]
  rw [h1, p16]
  simp only [num]
  omega
theorem finR_get (H : List Int) (i : Nat) (hi : i < 16) : 0 ≤ (finR H).getD i 0 ∧ (finR H).getD i 0 ≤ 255 := by
  unfold finR
  rw [List.getD_eq_getElem?_getD, List.getElem?_append_left (by rw [dig_len]; exact hi), ← List.getD_eq_getElem?_getD, dig_getD 256 (by omega) _ _ _ hi]
  omega
theorem finR_top (H : List Int) : 0 ≤ (finR H).getD 16 0 ∧ (finR H).getD 16 0 ≤ 3 := by
  have e : (finR H).getD 16 0 = (outB H 16 + H.getD 16 0) % 4 := by
    unfold finR
    rw [List.getD_eq_getElem?_getD, List.getElem?_append_right (by rw [dig_len]; omega), dig_len]
    rfl
  rw [e]
  omega
theorem roundR_num (H : List Int) (h : H.length = 17) : num 256 (roundR H) = num 256 H - num 256 H / 1361129467683753853853498429727072845824 * P130 := by
  unfold roundR
  rw [num_set _ _ _ (by rw [finR_len]; omega), finR_num H h, top16 H h, p16]
  have : num 256 H / 340282366920938463463374607431768211456 / 4 = num 256 H / 1361129467683753853853498429727072845824 := by omega
  rw [this]
  unfold P130
  simp
  omega
/-- What is known of the digits before the round r. -/
structure InvR (r : Nat) (H : List Int) : Prop where
  len : H.length = 17
  all : ∀ i, 0 ≤ H.getD i 0 ∧ H.getD i 0 < 2147483648
  r0 : r = 0 → ∀ i, H.getD i 0 < 1073741824
  r1 : 1 ≤ r → (∀ i, 1 ≤ i → H.getD i 0 ≤ 255) ∧ H.getD 16 0 ≤ 3
  r2 : 2 ≤ r → num 256 H < 1361129467683753853853498429727072845824
  r3 : 3 ≤ r → H.getD 0 0 ≤ 255
theorem num_le (l : List Int) (m : Int) (hm : 0 ≤ m) (h : ∀ i, 0 ≤ l.getD i 0 ∧ l.getD i 0 ≤ m) : 0 ≤ num 256 l ∧ 255 * num 256 l ≤ m * (256 ^ l.length - 1) := by
  induction l with
  | nil => simp [num]
  | cons x l ih =>
    have h0 := h 0
    have ih := ih (fun i => by have := h (i + 1); simpa using this)
    simp at h0
    simp only [num, List.length_cons, Int.pow_succ]
    obtain ⟨i1, i2⟩ := ih
    generalize num 256 l = v at *
    generalize (256 : Int) ^ l.length = p at *
    refine ⟨by omega, ?_⟩
    have : m * (p * 256 - 1) = 256 * (m * (p - 1)) + 255 * m := by grind
    rw [this]
    omega
theorem num17 (H : List Int) (h : H.length = 17) (m : Int) (hm : 0 ≤ m) (ha : ∀ i, 0 ≤ H.getD i 0 ∧ H.getD i 0 ≤ m) : 0 ≤ num 256 H ∧ 255 * num 256 H ≤ m * 87112285931760246646623899502532662132735 := by
  have := num_le H m hm ha
  rw [h, p17] at this
  exact this
theorem InvR.first (r : Nat) (H : List Int) (hr : 1 ≤ r) (h : InvR r H) : num 256 H - H.getD 0 0 < 1361129467683753853853498429727072845824 - 255 ∧ 0 ≤ num 256 H - H.getD 0 0 := by
  have hl := h.len
  match H, hl with
  | x :: l, hl =>
    have h1 := (h.r1 hr).1
    have h2 := (h.r1 hr).2
    have ha := h.all
    have hll : l.length = 16 := by simpa using hl
    have e1 : num 256 l = num 256 (l.take 15) + 256 ^ 15 * l.getD 15 0 := by
      have := num_take 256 l 15 (by omega)
      rw [List.take_of_length_le (by omega)] at this
      exact this
    have hr : ∀ y ∈ l.take 15, 0 ≤ y ∧ y < 256 := fun y hy => by
      obtain ⟨i, hi, rfl⟩ := List.getElem_of_mem hy
      have hi' : i < 15 := by simp at hi; omega
      have k1 := h1 (i + 1) (by omega)
      have k2 := ha (i + 1)
      simp only [List.getD_cons_succ] at k1 k2
      rw [List.getD_eq_getElem?_getD, List.getElem?_eq_getElem (by omega)] at k1 k2
      simp at k1 k2 ⊢
      omega
    have h3 := num_lt (b := 256) (by omega) _ hr
    have h4 := num_nonneg (b := 256) (by omega) _ (fun y hy => (hr y hy).1)
    have h5 := ha 16
    simp only [List.getD_cons_succ] at h2 h5
    have e2 : (256 : Int) ^ 15 = 1329227995784915872903807060280344576 := by decide
    rw [List.length_take, show min 15 l.length = 15 by omega, e2] at h3
    simp only [num, List.getD_cons_zero]
    rw [e1, e2]
    omega
theorem InvR.round (r : Nat) (H : List Int) (hr : r < 3) (h : InvR r H) : InvR (r + 1) (roundR H) := by
  have hl := h.len
  have hn := roundR_num H hl
  have hv : 0 ≤ num 256 H := num_nonneg (by omega) H (fun x hx => by
    obtain ⟨i, hi, rfl⟩ := List.getElem_of_mem hx
    have := (h.all i).1
    rw [List.getD_eq_getElem?_getD, List.getElem?_eq_getElem hi] at this
    simpa using this)
  have e0 : (outB H 16 + H.getD 16 0) / 4 = num 256 H / 1361129467683753853853498429727072845824 := by rw [top16 H hl, p16]; omega
  have g0 : (roundR H).getD 0 0 = (finR H).getD 0 0 + 5 * (num 256 H / 1361129467683753853853498429727072845824) := by
    unfold roundR
    rw [getD_setP _ _ _ _ (by rw [finR_len]; omega), if_pos rfl, e0]
  have gi : ∀ i, 1 ≤ i → i < 17 → (roundR H).getD i 0 = (finR H).getD i 0 := fun i h1 h2 => by
    unfold roundR
    rw [getD_setP _ _ _ _ (by rw [finR_len]; omega), if_neg (by omega)]
  have go : ∀ i, 17 ≤ i → (roundR H).getD i 0 = 0 := fun i hi => by
    rw [List.getD_eq_getElem?_getD, List.getElem?_eq_none (by rw [roundR_len]; omega)]; rfl
  have f0 := finR_get H 0 (by omega)
  have ft := finR_top H
  have hq : 0 ≤ num 256 H / 1361129467683753853853498429727072845824 ∧ (r = 0 → num 256 H / 1361129467683753853853498429727072845824 ≤ 280000000) ∧ (1 ≤ r → num 256 H / 1361129467683753853853498429727072845824 ≤ 1) ∧ (2 ≤ r → num 256 H / 1361129467683753853853498429727072845824 = 0) := by
    refine ⟨by omega, fun h0 => ?_, fun h1 => ?_, fun h2 => ?_⟩
    · have h2 := num17 H hl 1073741823 (by omega) (fun i => ⟨(h.all i).1, by have := h.r0 h0 i; omega⟩)
      omega
    · have h2 := h.first r H h1
      have h3 := h.all 0
      omega
    · have := h.r2 h2
      omega
  obtain ⟨q0, q1, q2, q3⟩ := hq
  refine ⟨roundR_len H, fun i => ?_, fun hh => by omega, fun _ => ⟨fun i hi => ?_, ?_⟩, fun hh => ?_, fun hh => ?_⟩
  · by_cases hi0 : i = 0
    · subst hi0
      rw [g0]
      have : r = 0 ∨ 1 ≤ r := by omega
      rcases this with h0 | h1
      · have := q1 h0; omega
      · have := q2 h1; omega
    · by_cases hi : i < 16
      · rw [gi i (by omega) (by omega)]
        have := finR_get H i hi
        omega
      · by_cases hi' : i = 16
        · subst hi'; rw [gi 16 (by omega) (by omega)]; omega
        · rw [go i (by omega)]; omega
  · by_cases hi' : i < 16
    · rw [gi i hi (by omega)]
      exact (finR_get H i hi').2
    · by_cases hi'' : i = 16
      · subst hi''; rw [gi 16 (by omega) (by omega)]; omega
      · rw [go i (by omega)]; omega
  · rw [gi 16 (by omega) (by omega)]; exact ft.2
  · rw [hn]
    have k1 := h.first r H (by omega)
    have k2 := h.all 0
    have k3 := q2 (by omega)
    unfold P130
    have : num 256 H / 1361129467683753853853498429727072845824 = 0 ∨ num 256 H / 1361129467683753853853498429727072845824 = 1 := by omega
    rcases this with k4 | k4
    · rw [k4]; omega
    · rw [k4]; omega
  · rw [g0, q3 (by omega)]
    omega
/-- Digits that have been carried. -/
structure Nrm (H : List Int) : Prop where
  len : H.length = 17
  dig : ∀ i, 0 ≤ H.getD i 0 ∧ H.getD i 0 ≤ 255
  lt : num 256 H < 1361129467683753853853498429727072845824
theorem InvR.nrm {H : List Int} (h : InvR 3 H) : Nrm H :=
  ⟨h.len, fun i => ⟨(h.all i).1, by
    rcases Nat.eq_zero_or_pos i with rfl | hi
    · exact h.r3 (by omega)
    · exact (h.r1 (by omega)).1 i hi⟩, h.r2 (by omega)⟩
end Go.Proofs.Ytnbpangegegccaa
