/-
  What the ladder computes: points of which every multiple is 0, and that both sides compute the same.
-/
import Derived.Test.YtbpmanbpmlkmnaaCrvSpec
import Derived.Test.YtbpmanbpmlkmnaaCrvLad
namespace Go.Proofs.Ytbpmanbpmlkmnaa
open Go.RowKit
set_option linter.unusedVariables false

theorem e_ring (a b : K) : (a+b)*(a+b) - (a-b)*(a-b) = 4 * (a*b) := by grind
theorem pm_ring (a b c d : K) : ((c-d)*(a+b) + (c+d)*(a-b)) * ((c-d)*(a+b) + (c+d)*(a-b)) - ((c-d)*(a+b) - (c+d)*(a-b)) * ((c-d)*(a+b) - (c+d)*(a-b)) = 4 * ((c*c - d*d) * (a*a - b*b)) := by grind
theorem sq_ring (a b : K) : ((a+b)*(a+b)) * ((a-b)*(a-b)) = (a*a - b*b) * (a*a - b*b) := by grind
theorem z2_zero (a b : K) (h : a * b = 0) : stZ2 a b = 0 := by unfold stZ2; rw [e_ring, h, Fin.mul_zero, Fin.zero_mul]
/-- The point 0. -/
structure In0 (s : Lad) : Prop where
  ab : s.a * s.b = 0
  cd : s.c * s.d = 0
theorem In0.swp {s : Lad} (h : In0 s) (t : Int) : In0 (lswp t s) := by
  unfold lswp
  by_cases ht : t = 1
  · subst ht; exact ⟨h.cd, h.ab⟩
  · simp only [if_neg ht]; exact ⟨h.ab, h.cd⟩
theorem In0.stp {s : Lad} (h : In0 s) : In0 (lstp 0 s) := by
  constructor
  · show stX2 s.a s.b * stZ2 s.a s.b = 0
    rw [z2_zero _ _ h.ab, Fin.mul_zero]
  · show stX3 s.a s.b s.c s.d * stZ3 0 s.a s.b s.c s.d = 0
    unfold stZ3
    rw [Fin.zero_mul, Fin.mul_zero]
theorem In0.lad (k : List Int) (n : Nat) : In0 (lad 0 k n) := by
  induction n with
  | zero => exact ⟨Fin.mul_zero _, Fin.zero_mul _⟩
  | succ n ih => rw [lad_succ]; exact ((ih.swp _).stp).swp _
theorem lswp_0 (s : Lad) : lswp 0 s = s := by
  unfold lswp
  simp only [if_neg (show ¬ (0 : Int) = 1 by decide)]
theorem endK_of (u : K) (k : List Int) (h0 : bitK k 0 = 0) (h : (lad u k 254).a * (lad u k 254).b = 0) : endK u k = 0 := by
  unfold endK
  have e : (lad u k 255).b = 0 := by
    rw [lad_succ u k 254, show 254 - 254 = 0 from rfl, h0, lswp_0, lswp_0]
    exact z2_zero _ _ h
  rw [e, kinv_zero, Fin.mul_zero]
theorem endK_zero (k : List Int) (h0 : bitK k 0 = 0) : endK 0 k = 0 := endK_of 0 k h0 (In0.lad k 254).ab
/-- The points 1 and p - 1. -/
def In1 (s : Lad) : Prop := (s.a * s.b = 0 ∧ s.c * s.c = s.d * s.d) ∨ (s.c * s.d = 0 ∧ s.a * s.a = s.b * s.b)
theorem In1.swp {s : Lad} (h : In1 s) (t : Int) : In1 (lswp t s) := by
  unfold lswp
  by_cases ht : t = 1
  · subst ht; exact h.symm
  · simp only [if_neg ht]; exact h
theorem one_stp {s : Lad} {u : K} (hu : u * u = 1) (h : In1 s) : (lstp u s).a * (lstp u s).b = 0 ∧ (lstp u s).c * (lstp u s).c = (lstp u s).d * (lstp u s).d := by
  have hz : (s.c*s.c - s.d*s.d) * (s.a*s.a - s.b*s.b) = 0 := by
    rcases h with ⟨_, h⟩ | ⟨_, h⟩
    · rw [h, Fin.sub_self, Fin.zero_mul]
    · rw [h, Fin.sub_self, Fin.mul_zero]
  have hpm := pm_ring s.a s.b s.c s.d
  rw [hz, Fin.mul_zero] at hpm
  have hpm2 := K.sub_zero' hpm
  constructor
  · show stX2 s.a s.b * stZ2 s.a s.b = 0
    rcases h with ⟨h, _⟩ | ⟨_, h⟩
    · rw [z2_zero _ _ h, Fin.mul_zero]
    · unfold stX2
      rw [sq_ring, h, Fin.sub_self, Fin.zero_mul, Fin.zero_mul]
  · show stX3 s.a s.b s.c s.d * stX3 s.a s.b s.c s.d = stZ3 u s.a s.b s.c s.d * stZ3 u s.a s.b s.c s.d
    unfold stX3 stZ3
    rw [hpm2]
    generalize ((s.c-s.d)*(s.a+s.b) - (s.c+s.d)*(s.a-s.b)) * ((s.c-s.d)*(s.a+s.b) - (s.c+s.d)*(s.a-s.b)) = m
    have e : u * m * (u * m) = (u * u) * (m * m) := by clear hpm hpm2 hz hu h; grind
    rw [e, hu, Fin.one_mul]
theorem In1.lad {u : K} (hu : u * u = 1) (k : List Int) (n : Nat) : In1 (lad u k n) := by
  induction n with
  | zero => exact Or.inl ⟨Fin.mul_zero _, by show u * u = 1 * 1; rw [hu]; decide +kernel⟩
  | succ n ih => rw [lad_succ]; exact In1.swp (Or.inl (one_stp hu (ih.swp _))) _
theorem endK_one {u : K} (hu : u * u = 1) (k : List Int) (h0 : bitK k 0 = 0) (h1 : bitK k 1 = 0) : endK u k = 0 := by
  refine endK_of u k h0 ?_
  rw [lad_succ u k 253, show 254 - 253 = 1 from rfl, h1, lswp_0, lswp_0]
  exact (one_stp hu (In1.lad hu k 253)).1

/-- The number that the first bits of a scalar make. -/
def pre (k : List Int) : Nat → Nat
  | 0 => 0
  | r + 1 => 2 * pre k r + (bitK k (254 - r)).toNat
/-- What stands for a pair in the ladder. -/
def uOf (P : Pt) : K := (1 + P.y) * kinv (1 - P.y)
theorem rep_cross {X Z : K} {P : Pt} (h : Rep X Z P) : X * (1 - P.y) = (1 + P.y) * Z := by
  have := h.eq
  generalize P.y = y at *
  have e : X * (1 - y) = X - Z + Z - y * (X + Z) + y * Z := by clear this h; grind
  rw [e, this]
  clear this h e
  grind
theorem two_z (X Z : K) (h : X - Z = 1 * (X + Z)) : 2 * Z = 0 := by
  have e : 2 * Z = 1 * (X + Z) - (X - Z) := by clear h; grind
  rw [e, h, Fin.sub_self]
theorem rep_end {X Z : K} {P : Pt} (h : Rep X Z P) : X * kinv Z = uOf P := by
  unfold uOf
  by_cases hy : P.y = 1
  · have hz : Z = 0 := by
      have := h.eq
      rw [hy] at this
      exact (K.mul_zero' (two_z X Z this)).resolve_left two_ne
    rw [hz, hy, Fin.sub_self, kinv_zero, Fin.mul_zero, Fin.mul_zero]
  · have h1 : 1 - P.y ≠ 0 := fun e => hy (K.sub_zero' e).symm
    have hz : Z ≠ 0 := by
      intro hz
      have hx := rep_cross h
      rw [hz, Fin.mul_zero] at hx
      have hx0 := (K.mul_zero' hx).resolve_right h1
      exact h.ne (by rw [hx0, hz, Fin.add_zero])
    exact quot_eq hz h1 (rep_cross h)
theorem dif_left (n : Nat) (P : Pt) : padd (pmul (n + 1) P) (pneg (pmul n P)) = P := by
  show padd (padd (pmul n P) P) (pneg (pmul n P)) = P
  rw [padd_comm (pmul n P) P, padd_assoc, padd_neg, padd_zero]
theorem start_ring (u y : K) (hu : u * (1 - y) = 1 + y) : u + 1 ≠ 0 ∧ u - 1 = y * (u + 1) := by
  constructor
  · intro h
    have e : 1 + y + (1 - y) = (u + 1) * (1 - y) := by rw [← hu]; clear hu h; grind
    rw [h, Fin.zero_mul] at e
    have e2 : 1 + y + (1 - y) = 2 := by clear e hu h; grind
    rw [e2] at e
    exact two_ne e
  · refine K.sub_zero' ?_
    have e : u - 1 - y * (u + 1) = u * (1 - y) - (1 + y) := by clear hu; grind
    rw [e, hu, Fin.sub_self]
theorem ladder_ok (u : K) (k : List Int) (P : Pt) (h1 : P.y ≠ 1) (h2 : P.y ≠ 0 - 1) (hu : u * (1 - P.y) = 1 + P.y) (r : Nat) :
    Rep (lad u k r).a (lad u k r).b (pmul (pre k r) P) ∧ Rep (lad u k r).c (lad u k r).d (pmul (pre k r + 1) P) := by
  induction r with
  | zero =>
    constructor
    · refine ⟨?_, ?_⟩
      · show (1 : K) + 0 ≠ 0; decide +kernel
      · show (1 : K) - 0 = 1 * (1 + 0); decide +kernel
    · have hp : pmul (pre k 0 + 1) P = P := by show padd pzero P = P; exact zero_padd P
      rw [hp]
      show Rep u 1 P
      exact ⟨(start_ring u P.y hu).1, (start_ring u P.y hu).2⟩
  | succ r ih =>
    obtain ⟨ha, hc⟩ := ih
    rw [lad_succ]
    have hd := dif_left (pre k r) P
    rcases bitK_rng k (254 - r) with hb | hb
    · have hp : pre k (r + 1) = pre k r + pre k r := by show 2 * pre k r + (bitK k (254 - r)).toNat = _; rw [hb, show (0 : Int).toNat = 0 from rfl]; omega
      rw [hb, lswp_0, lswp_0, hp]
      constructor
      · rw [pmul_add]
        exact ha.dbl
      · have e : pmul (pre k r + pre k r + 1) P = padd (pmul (pre k r) P) (pmul (pre k r + 1) P) := by rw [Nat.add_assoc, pmul_add]
        rw [e]
        exact Rep.sum ha hc (Or.inl hd) h1 h2 hu
    · have hp : pre k (r + 1) = pre k r + 1 + pre k r := by show 2 * pre k r + (bitK k (254 - r)).toNat = _; rw [hb, show (1 : Int).toNat = 1 from rfl]; omega
      have hsw : ∀ s : Lad, lswp 1 s = ⟨s.c, s.d, s.a, s.b⟩ := fun s => rfl
      rw [hb, hp, hsw, hsw]
      constructor
      · rw [pmul_add]
        exact Rep.sum hc ha (Or.inr hd) h1 h2 hu
      · have e : pmul (pre k r + 1 + pre k r + 1) P = padd (pmul (pre k r + 1) P) (pmul (pre k r + 1) P) := by rw [Nat.add_assoc, pmul_add]
        rw [e]
        exact hc.dbl
theorem uOf_zero : uOf pzero = 0 := by
  unfold uOf
  show (1 + 1) * kinv (1 - 1) = 0
  rw [Fin.sub_self, kinv_zero, Fin.mul_zero]
theorem y_one (P : Pt) (h : P.y = 1) : P = pzero := by
  have e := P.on
  unfold On at e
  rw [h] at e
  have hx : P.x = 0 := by
    have hd : 1 + dK ≠ 0 := by decide +kernel
    have e3 : (1 : K) * 1 = 1 := by decide +kernel
    rw [e3] at e
    have e2 : (1 + dK) * (P.x * P.x) = 0 := by
      rw [minus_ring dK (P.x * P.x), ← K.mul_one' (dK * (P.x * P.x)), e]
      decide +kernel
    rcases K.mul_zero' e2 with h | h
    · exact absurd h hd
    · exact (K.mul_zero' h).elim id id
  exact Pt.ext' hx h
/-- The ladder multiplies. -/
theorem endK_mul (P : Pt) (k : List Int) (h0 : bitK k 0 = 0) : endK (uOf P) k = uOf (pmul (pre k 255) P) := by
  by_cases h1 : P.y = 1
  · rw [y_one P h1, pmul_zero', uOf_zero, endK_zero k h0]
  · by_cases h2 : P.y = 0 - 1
    · have hu : uOf P = 0 := by
        unfold uOf
        rw [h2, show (1 : K) + (0 - 1) = 0 by decide +kernel, Fin.zero_mul]
      have hp : pre k 255 = 2 * pre k 254 := by
        show 2 * pre k 254 + (bitK k (254 - 254)).toNat = _
        rw [show 254 - 254 = 0 from rfl, h0]
        rfl
      rw [hu, hp, pmul_even _ P h2, uOf_zero, endK_zero k h0]
    · have hn : 1 - P.y ≠ 0 := fun e => h1 (K.sub_zero' e).symm
      have hu : uOf P * (1 - P.y) = 1 + P.y := quot_mul hn
      have h := (ladder_ok (uOf P) k P h1 h2 hu 255).1
      exact rep_end h
/-- The pair of the point 9. -/
def gPt : Pt := ⟨15112221349535400772501151409588531511454012693041857206046113283949847762202, 46316835694926478169428394003475163141307993866256225615783033603165251855960, by unfold On; decide +kernel⟩
theorem uOf_g : uOf gPt = 9 := by
  have hn : 1 - gPt.y ≠ 0 := by decide +kernel
  exact quot_of hn (by decide +kernel)
theorem bit_clamp (s : List Int) (hl : s.length = 32) (i : Nat) (hi : i < 3) : bitK (clampK s) i = 0 := by
  unfold bitK clampK
  have h0 : i / 8 = 0 := by omega
  have hm : i % 8 = i := by omega
  rw [h0, hm]
  have e : ((s.set 0 (s.getD 0 0 - s.getD 0 0 % 8)).set 31 (s.getD 31 0 % 64 + 64)).getD 0 0 = s.getD 0 0 - s.getD 0 0 % 8 := by
    simp [List.getD_eq_getElem?_getD, show 0 < s.length by omega]
  rw [e]
  generalize s.getD 0 0 = x
  have : i = 0 ∨ i = 1 ∨ i = 2 := by omega
  rcases this with rfl | rfl | rfl <;> omega
/-- Both sides compute the same. -/
theorem agree_ok (a b g : List Int) (ha : a.length = 32) (hb : b.length = 32) (hg : uK g = 9) : mulB a (mulB b g) = mulB b (mulB a g) := by
  have h1 := bit_clamp a ha 0 (by decide)
  have h2 := bit_clamp b hb 0 (by decide)
  have h : endK (uK (mulB b g)) (clampK a) = endK (uK (mulB a g)) (clampK b) := by
    rw [uK_mulB, uK_mulB, hg, ← uOf_g, endK_mul _ _ h1, endK_mul _ _ h2, endK_mul _ _ h1, endK_mul _ _ h2, pmul_comm]
  show dig 256 32 ((endK (uK (mulB b g)) (clampK a)).val : Int) = dig 256 32 ((endK (uK (mulB a g)) (clampK b)).val : Int)
  rw [h]
end Go.Proofs.Ytbpmanbpmlkmnaa
