/-
  The document's numbers of sixteen digits: carries, sums, differences and products of them modulo the field's modulus.
-/
import Derived.Test.YtilnbmlbahflkaaMCrvNum
namespace Go.Proofs.Ytilnbmlbahflkaa
open Go.RowKit
set_option linter.unusedVariables false

def B16 : Int := 65536
theorem B16_pos : 0 < B16 := by decide
/-- The element that sixteen digits stand for. -/
def fd (L : List Int) : K := toK (num B16 L)
/-- Sixteen digits below m. -/
structure Ld (m : Int) (L : List Int) : Prop where
  len : L.length = 16
  rng : ∀ x ∈ L, 0 ≤ x ∧ x < m
theorem Ld.mono {m m' : Int} {L : List Int} (h : Ld m L) (hm : m ≤ m') : Ld m' L := ⟨h.len, fun x hx => by have := h.rng x hx; omega⟩
theorem Ld.get {m : Int} {L : List Int} (h : Ld m L) (j : Nat) (hj : j < 16) : 0 ≤ L.getD j 0 ∧ L.getD j 0 < m := h.rng _ (by
  have := h.len
  rw [List.getD_eq_getElem?_getD]
  simp [show j < L.length by omega])
theorem ld_of (m : Int) (L : List Int) (hl : L.length = 16) (h : ∀ j, j < 16 → 0 ≤ L.getD j 0 ∧ L.getD j 0 < m) : Ld m L := ⟨hl, fun x hx => by
  obtain ⟨j, hj, rfl⟩ := List.getElem_of_mem hx
  have := h j (by omega)
  rw [List.getD_eq_getElem?_getD, List.getElem?_eq_getElem hj] at this
  exact this⟩
theorem pow16 : B16 ^ 16 = 115792089237316195423570985008687907853269984665640564039457584007913129639936 := by decide
theorem pow15 : B16 ^ 15 = 1766847064778384329583297500742918515827483896875618958121606201292619776 := by decide
/-- What a number of sixteen such digits is less than. -/
theorem num_bound (m : Int) (hm : 0 ≤ m) (L : List Int) (h : ∀ x ∈ L, 0 ≤ x ∧ x < m) : 0 ≤ num B16 L ∧ 65535 * num B16 L ≤ (m - 1) * (B16 ^ L.length - 1) ∨ L = [] := by
  induction L with
  | nil => exact Or.inr rfl
  | cons x l ih =>
    left
    have hx := h x (by simp)
    have hl := ih (fun y hy => h y (by simp [hy]))
    have hn : 0 ≤ num B16 l ∧ 65535 * num B16 l ≤ (m - 1) * (B16 ^ l.length - 1) := by
      rcases hl with hl | rfl
      · exact hl
      · simp [num]
    rw [List.length_cons, Int.pow_succ]
    simp only [num]
    have hp : 0 < B16 ^ l.length := pow_pos' B16_pos _
    have e : (m - 1) * (B16 ^ l.length * B16 - 1) = B16 * ((m - 1) * (B16 ^ l.length - 1)) + (m - 1) * (B16 - 1) := by grind
    rw [e]
    unfold B16 at *
    refine ⟨by omega, by omega⟩
theorem num_bound16 (m : Int) (hm : 0 ≤ m) (L : List Int) (h : Ld m L) : 0 ≤ num B16 L ∧ 65535 * num B16 L ≤ (m - 1) * 115792089237316195423570985008687907853269984665640564039457584007913129639935 := by
  rcases num_bound m hm L h.rng with h1 | h1
  · rw [h.len, pow16] at h1
    exact h1
  · have := h.len; rw [h1] at this; simp at this
/-- One round of carries. -/
def rndC (L : List Int) : List Int := (dig B16 16 (num B16 L)).set 0 ((dig B16 16 (num B16 L)).getD 0 0 + num B16 L / B16 ^ 16 * 38)
theorem rndC_len (L : List Int) : (rndC L).length = 16 := by simp [rndC, dig_len]
theorem two_p : (115792089237316195423570985008687907853269984665640564039457584007913129639936 : Int) = 2 * (pN : Int) + 38 := by rw [pN_int]; decide
theorem rndC_num (L : List Int) : num B16 (rndC L) = num B16 L - 2 * (num B16 L / B16 ^ 16) * (pN : Int) := by
  have h1 := num_set B16 (dig B16 16 (num B16 L)) 0 (by rw [dig_len]; omega) (num B16 L / B16 ^ 16 * 38)
  have h2 := num_dig B16 B16_pos 16 (num B16 L)
  have h3 := Int.mul_ediv_add_emod (num B16 L) (B16 ^ 16)
  unfold rndC
  rw [h1, h2, Int.pow_zero]
  rw [pow16, two_p] at *
  generalize num B16 L / (2 * (pN : Int) + 38) = q at *
  generalize num B16 L % (2 * (pN : Int) + 38) = r at *
  grind
theorem rndC_fd (L : List Int) : fd (rndC L) = fd L := by
  unfold fd
  refine toK_cong (t := 2 * (num B16 L / B16 ^ 16)) ?_
  rw [rndC_num]
  omega
/-- The digits behind a round. -/
theorem rndC_rng (L : List Int) (q : Int) (hv : 0 ≤ num B16 L) (hq : num B16 L < (q + 1) * 115792089237316195423570985008687907853269984665640564039457584007913129639936) :
    0 ≤ num B16 L / B16 ^ 16 ∧ num B16 L / B16 ^ 16 ≤ q ∧ (∀ j, j < 16 → 0 ≤ (rndC L).getD j 0 ∧ (j ≠ 0 → (rndC L).getD j 0 < 65536)) ∧ (rndC L).getD 0 0 = num B16 L % 65536 + num B16 L / B16 ^ 16 * 38 := by
  have h0 : 0 ≤ num B16 L / B16 ^ 16 := Int.ediv_nonneg hv (by rw [pow16]; decide)
  have h1 : num B16 L / B16 ^ 16 ≤ q := by
    have := Int.ediv_lt_of_lt_mul (show (0 : Int) < B16 ^ 16 by rw [pow16]; decide) (show num B16 L < (q + 1) * B16 ^ 16 by rw [pow16]; exact hq)
    omega
  have hl := dig_len B16 16 (num B16 L)
  have hr := dig_rng B16 B16_pos 16 (num B16 L)
  have hg : ∀ j, j < 16 → 0 ≤ (dig B16 16 (num B16 L)).getD j 0 ∧ (dig B16 16 (num B16 L)).getD j 0 < 65536 := fun j hj => hr _ (by rw [List.getD_eq_getElem?_getD]; simp [show j < (dig B16 16 (num B16 L)).length by omega])
  have hd0 : (dig B16 16 (num B16 L)).getD 0 0 = num B16 L % 65536 := rfl
  refine ⟨h0, h1, fun j hj => ?_, ?_⟩
  · unfold rndC
    by_cases hj0 : j = 0
    · subst hj0
      have := hg 0 (by omega)
      refine ⟨?_, fun h => absurd rfl h⟩
      rw [List.getD_eq_getElem?_getD, List.getElem?_set_self (by omega)]
      simp only [Option.getD_some]
      omega
    · have := hg j hj
      have e : ((dig B16 16 (num B16 L)).set 0 ((dig B16 16 (num B16 L)).getD 0 0 + num B16 L / B16 ^ 16 * 38)).getD j 0 = (dig B16 16 (num B16 L)).getD j 0 := by
        rw [List.getD_eq_getElem?_getD, List.getElem?_set_ne (Ne.symm hj0), List.getD_eq_getElem?_getD]
      rw [e]
      exact ⟨this.1, fun _ => this.2⟩
  · unfold rndC
    rw [List.getD_eq_getElem?_getD, List.getElem?_set_self (by omega)]
    rfl
/-- Three rounds. -/
def carL (L : List Int) : List Int := rndC (rndC (rndC L))
theorem carL_fd (L : List Int) : fd (carL L) = fd L := by unfold carL; rw [rndC_fd, rndC_fd, rndC_fd]
theorem rnd1 (L : List Int) (h : Ld 4611686018427387904 L) : Ld 9007199254740992 (rndC L) := by
  obtain ⟨h0, h1⟩ := num_bound16 _ (by omega) L h
  obtain ⟨q0, q1, hr, hz⟩ := rndC_rng L 70400000000000 h0 (by omega)
  refine ld_of _ _ (rndC_len L) fun j hj => ⟨(hr j hj).1, ?_⟩
  by_cases hj0 : j = 0
  · subst hj0; rw [hz]; omega
  · have := (hr j hj).2 hj0; omega
/-- A number of which only the first digit may be great. -/
theorem num_first (L : List Int) (hl : L.length = 16) (m : Int) (h : ∀ j, j < 16 → 0 ≤ L.getD j 0 ∧ (j ≠ 0 → L.getD j 0 < 65536)) (h0 : L.getD 0 0 < 65536 + m) (hm : 0 ≤ m) : 0 ≤ num B16 L ∧ num B16 L < 115792089237316195423570985008687907853269984665640564039457584007913129639936 + m := by
  have hs := num_set B16 L 0 (by omega) (- m)
  have hx := (h 0 (by omega)).1
  by_cases hb : L.getD 0 0 < m
  · -- the first digit is replaced by 0
    have hs2 := num_set B16 L 0 (by omega) (- L.getD 0 0)
    have hrng : ∀ x ∈ L.set 0 (L.getD 0 0 + - L.getD 0 0), 0 ≤ x ∧ x < B16 := by
      intro x hxm
      obtain ⟨j, hj, rfl⟩ := List.getElem_of_mem hxm
      rw [List.length_set] at hj
      have := h j (by omega)
      rw [List.getD_eq_getElem?_getD, List.getElem?_eq_getElem hj] at this
      rw [List.getElem_set]
      unfold B16
      split
      · omega
      · exact ⟨this.1, this.2 (fun e => by omega)⟩
    have := num_lt B16_pos _ hrng
    have h3 := num_nonneg (Int.le_of_lt B16_pos) _ (fun x hx => (hrng x hx).1)
    rw [List.length_set, hl, pow16, hs2] at this
    rw [hs2] at h3
    simp only [Int.pow_zero, Int.one_mul] at this h3
    omega
  · have hrng : ∀ x ∈ L.set 0 (L.getD 0 0 + - m), 0 ≤ x ∧ x < B16 := by
      intro x hxm
      obtain ⟨j, hj, rfl⟩ := List.getElem_of_mem hxm
      rw [List.length_set] at hj
      have := h j (by omega)
      rw [List.getD_eq_getElem?_getD, List.getElem?_eq_getElem hj] at this
      rw [List.getElem_set]
      unfold B16
      split
      · omega
      · exact ⟨this.1, this.2 (fun e => by omega)⟩
    have := num_lt B16_pos _ hrng
    have h3 := num_nonneg (Int.le_of_lt B16_pos) _ (fun x hx => (hrng x hx).1)
    rw [List.length_set, hl, pow16, hs] at this
    rw [hs] at h3
    simp only [Int.pow_zero, Int.one_mul] at this h3
    omega
theorem carL_ok (L : List Int) (h : Ld 4611686018427387904 L) : Ld 65536 (carL L) := by
  obtain ⟨h0, h1⟩ := num_bound16 _ (by omega) L h
  obtain ⟨q0, q1, hr1, hz1⟩ := rndC_rng L 70400000000000 h0 (by omega)
  obtain ⟨a0, a1⟩ := num_first (rndC L) (rndC_len L) 2675200000000000 hr1 (by rw [hz1]; omega) (by omega)
  obtain ⟨p0, p1, hr2, hz2⟩ := rndC_rng (rndC L) 1 a0 (by omega)
  obtain ⟨b0, b1⟩ := num_first (rndC (rndC L)) (rndC_len _) 38 hr2 (by rw [hz2]; omega) (by omega)
  obtain ⟨s0, s1, hr3, hz3⟩ := rndC_rng (rndC (rndC L)) 1 b0 (by omega)
  refine ld_of _ _ (rndC_len _) fun j hj => ⟨(hr3 j hj).1, ?_⟩
  by_cases hj0 : j = 0
  · subst hj0
    unfold carL
    rw [hz3]
    have hd := Int.mul_ediv_add_emod (num B16 (rndC (rndC L))) (B16 ^ 16)
    rw [pow16] at *
    omega
  · exact (hr3 j hj).2 hj0
theorem add_ld {A B : List Int} (hA : Ld 65536 A) (hB : Ld 65536 B) : Ld 4611686018427387904 (addL A B) := by
  refine ld_of _ _ (by rw [addL_len, hA.len, hB.len]; rfl) fun j hj => ?_
  have h1 := hA.get j hj
  have h2 := hB.get j hj
  have e : (addL A B).getD j 0 = A.getD j 0 + B.getD j 0 := by
    have l1 := hA.len
    have l2 := hB.len
    unfold addL
    simp [List.getD_eq_getElem?_getD, List.getElem?_zipWith, show j < A.length by omega, show j < B.length by omega]
  rw [e]
  omega
theorem add_fd {A B : List Int} (hA : A.length = 16) (hB : B.length = 16) : fd (addL A B) = fd A + fd B := by
  unfold fd
  rw [addL_num _ _ _ (by omega), toK_add]
/-- Four times the modulus. -/
def subM (i : Nat) : Int := if i = 0 then 262068 else if i < 15 then 262140 else 131068
def subMs : List Int := (List.range 16).map subM
def negL (A B : List Int) : List Int := addL A (addL subMs (B.map (fun y => - y)))
theorem num_neg (b : Int) (L : List Int) : num b (L.map (fun y => - y)) = - num b L := by
  induction L with
  | nil => rfl
  | cons x l ih => simp only [List.map_cons, num, ih]; grind
theorem subMs_num : num B16 subMs = 4 * (pN : Int) := by rw [pN_int]; decide +kernel
theorem negL_get (A B : List Int) (hA : A.length = 16) (hB : B.length = 16) (j : Nat) (hj : j < 16) : (negL A B).getD j 0 = A.getD j 0 + subM j - B.getD j 0 := by
  unfold negL addL subMs
  simp [List.getD_eq_getElem?_getD, List.getElem?_zipWith, show j < A.length by omega, show j < B.length by omega, hj]
  omega
theorem negL_len (A B : List Int) (hA : A.length = 16) (hB : B.length = 16) : (negL A B).length = 16 := by
  unfold negL
  rw [addL_len, addL_len, List.length_map, hA, hB]
  rfl
theorem neg_ld {A B : List Int} (hA : Ld 65536 A) (hB : Ld 65536 B) : Ld 4611686018427387904 (negL A B) := by
  refine ld_of _ _ (negL_len A B hA.len hB.len) fun j hj => ?_
  rw [negL_get A B hA.len hB.len j hj]
  have h1 := hA.get j hj
  have h2 := hB.get j hj
  unfold subM
  split <;> (try split) <;> omega
theorem neg_fd {A B : List Int} (hA : A.length = 16) (hB : B.length = 16) : fd (negL A B) = fd A - fd B := by
  unfold fd negL
  rw [← toK_sub, addL_num _ _ _ (by rw [addL_len, List.length_map, hA, hB]; rfl), addL_num _ _ _ (by rw [List.length_map, hB]; rfl), num_neg, subMs_num]
  exact (toK_cong (t := 4) (by omega)).symm
/-- Times a small number. -/
theorem num_scale (b x : Int) (L : List Int) : num b (L.map (fun y => y * x)) = num b L * x := by
  induction L with
  | nil => simp [num]
  | cons y l ih => simp only [List.map_cons, num, ih]; grind
theorem scale_ld {A : List Int} (hA : Ld 65536 A) : Ld 4611686018427387904 (A.map (fun y => y * 121665)) := by
  refine ⟨by rw [List.length_map]; exact hA.len, fun x hx => ?_⟩
  obtain ⟨y, hy, rfl⟩ := List.mem_map.1 hx
  have := hA.rng y hy
  omega
theorem scale_fd (A : List Int) : fd (A.map (fun y => y * 121665)) = 121665 * fd A := by
  unfold fd
  rw [num_scale, toK_mul, toK_litF, Fin.mul_comm]
end Go.Proofs.Ytilnbmlbahflkaa
