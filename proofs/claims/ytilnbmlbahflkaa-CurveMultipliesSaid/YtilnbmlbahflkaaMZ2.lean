/-
  The ladder: what it computes, told by the group of the curve.
  What the ladder computes: points of which every multiple is 0, and that both sides compute the same.
  The example of the chapter: a product that is not 0.
  A list of choices: some bytes, as a row of the call's own.
-/
import Derived.Test.YtilnbmlbahflkaaMCrvGroup
import Derived.Test.YtilnbmlbahflkaaMCrvSpec
import Derived.Test.YtilnbmlbahflkaaMZ1
namespace Go.Proofs.Ytilnbmlbahflkaa
set_option linter.unusedVariables false

/-- Multiples. -/
def pmul : Nat → Pt → Pt
  | 0, _ => pzero
  | n + 1, P => padd (pmul n P) P
theorem dif_sq (x : K) : (1 - x) * (1 + x) = 1 - x * x := by grind
theorem from_zero (d x : K) (h : 0*0 - x - 1 - d*x*(0*0) = 0) : x = 0 - 1 := by
  have e : 1 + x = 0 - (0*0 - x - 1 - d*x*(0*0)) := by clear h; grind
  rw [h] at e
  exact K.neg_one' (by rw [e]; decide +kernel) (by decide +kernel)
/-- X and Z stand for a pair. -/
structure Rep (X Z : K) (P : Pt) : Prop where
  ne : X + Z ≠ 0
  eq : X - Z = P.y * (X + Z)
theorem dif_ring (d x1 y1 x2 y2 : K) (e1 : y1*y1 - x1*x1 - 1 - d*(x1*x1)*(y1*y1) = 0) (e2 : y2*y2 - x2*x2 - 1 - d*(x2*x2)*(y2*y2) = 0) (t : K) (ht : t = d*x1*x2*y1*y2) :
    (y1*y2 + x1*x2) * ((y1*y1 + y2*y2) * (1 + t) - 2 * (y1*y2 - x1*x2) * (y1*y2)) = (1 - t) * (2 * (y1*y2) * (1 + t) - (y1*y2 - x1*x2) * (y1*y1 + y2*y2)) := by
  have h : (y1*y2 + x1*x2) * ((y1*y1 + y2*y2) * (1 + t) - 2 * (y1*y2 - x1*x2) * (y1*y2)) - (1 - t) * (2 * (y1*y2) * (1 + t) - (y1*y2 - x1*x2) * (y1*y1 + y2*y2)) = (0 - 2 * (x2*x2) * (y1*y2) * (d*(y2*y2) + 1)) * (y1*y1 - x1*x1 - 1 - d*(x1*x1)*(y1*y1)) + (0 - 2 * (y1*y2) * (y1*y1 - 1)) * (y2*y2 - x2*x2 - 1 - d*(x2*x2)*(y2*y2)) := by
    rw [ht]; clear e1 e2 ht; grind
  rw [e1, e2, K.zero2] at h
  exact K.sub_zero' h
theorem sum_ring (A C y1 y2 u yD : K) (hu : u * (1 - yD) = 1 + yD) :
    ((1 - yD) * (((y2*C)*A + C*(y1*A)) * ((y2*C)*A + C*(y1*A)) + u * (((y2*C)*A - C*(y1*A)) * ((y2*C)*A - C*(y1*A)))) = 2 * ((A*C)*(A*C)) * ((y1*y1 + y2*y2) - 2 * yD * (y1*y2))) ∧
    ((1 - yD) * (((y2*C)*A + C*(y1*A)) * ((y2*C)*A + C*(y1*A)) - u * (((y2*C)*A - C*(y1*A)) * ((y2*C)*A - C*(y1*A)))) = 2 * ((A*C)*(A*C)) * (2 * (y1*y2) - yD * (y1*y1 + y2*y2))) := by
  constructor
  · have e : (1 - yD) * (((y2*C)*A + C*(y1*A)) * ((y2*C)*A + C*(y1*A)) + u * (((y2*C)*A - C*(y1*A)) * ((y2*C)*A - C*(y1*A)))) = (1 - yD) * (((y2*C)*A + C*(y1*A)) * ((y2*C)*A + C*(y1*A))) + (u * (1 - yD)) * (((y2*C)*A - C*(y1*A)) * ((y2*C)*A - C*(y1*A))) := by clear hu; grind
    rw [e, hu]; clear e hu; grind
  · have e : (1 - yD) * (((y2*C)*A + C*(y1*A)) * ((y2*C)*A + C*(y1*A)) - u * (((y2*C)*A - C*(y1*A)) * ((y2*C)*A - C*(y1*A)))) = (1 - yD) * (((y2*C)*A + C*(y1*A)) * ((y2*C)*A + C*(y1*A))) - (u * (1 - yD)) * (((y2*C)*A - C*(y1*A)) * ((y2*C)*A - C*(y1*A))) := by clear hu; grind
    rw [e, hu]; clear e hu; grind
/-- The sum of two pairs whose difference is known. -/
theorem Rep.sum {X Z X' Z' u : K} {P Q D : Pt} (h : Rep X Z P) (h' : Rep X' Z' Q) (hD : padd Q (pneg P) = D ∨ padd P (pneg Q) = D) (h1 : D.y ≠ 1) (h2 : D.y ≠ 0 - 1) (hu : u * (1 - D.y) = 1 + D.y) :
    Rep (((X'-Z')*(X+Z) + (X'+Z')*(X-Z)) * ((X'-Z')*(X+Z) + (X'+Z')*(X-Z))) (u * (((X'-Z')*(X+Z) - (X'+Z')*(X-Z)) * ((X'-Z')*(X+Z) - (X'+Z')*(X-Z)))) (padd P Q) := by
  obtain ⟨hn, he⟩ := h
  obtain ⟨hn', he'⟩ := h'
  rw [he, he']
  generalize X + Z = A at *
  generalize X' + Z' = C at *
  clear he he'
  have hyD : D.y * (1 + tt P.x P.y Q.x Q.y) = P.y*Q.y - P.x*Q.x := by
    have key : ∀ P Q : Pt, (padd Q (pneg P)).y * (1 + tt P.x P.y Q.x Q.y) = P.y*Q.y - P.x*Q.x := by
      intro P Q
      have h := padd_y Q (pneg P)
      have h3 : tt Q.x Q.y (pneg P).x (pneg P).y = 0 - tt P.x P.y Q.x Q.y := by
        show dK*Q.x*(0 - P.x)*Q.y*P.y = 0 - dK*P.x*Q.x*P.y*Q.y
        clear h; grind
      have h4 : 1 - (0 - tt P.x P.y Q.x Q.y) = 1 + tt P.x P.y Q.x Q.y := by clear h h3; grind
      have h5 : Q.y * (pneg P).y + Q.x * (pneg P).x = P.y*Q.y - P.x*Q.x := by
        show Q.y * P.y + Q.x * (0 - P.x) = P.y*Q.y - P.x*Q.x
        clear h h3 h4; grind
      rw [h3, h4, h5] at h
      exact h
    rcases hD with rfl | rfl
    · exact key P Q
    · have h := key Q P
      have h3 : tt P.x P.y Q.x Q.y = tt Q.x Q.y P.x P.y := by unfold tt; clear h; grind
      have h4 : P.y*Q.y - P.x*Q.x = Q.y*P.y - Q.x*P.x := by clear h h3; grind
      rw [h3, h4]
      exact h
  have hyS := padd_y P Q
  have np := tp_ne P Q
  have nm := tm_ne P Q
  have hr := dif_ring dK P.x P.y Q.x Q.y P.on Q.on _ rfl
  have ht : tt P.x P.y Q.x Q.y = dK*P.x*Q.x*P.y*Q.y := rfl
  rw [← ht] at hr
  have hon1 := P.on
  have hon2 := Q.on
  unfold On at hon1 hon2
  obtain ⟨s1, s2⟩ := sum_ring A C P.y Q.y u D.y hu
  have nD : 1 - D.y ≠ 0 := fun h => h1 (K.sub_zero' h).symm
  generalize padd P Q = S at *
  generalize tt P.x P.y Q.x Q.y = t at *
  clear hD
  -- the equation that the two sums keep
  have hkey : S.y * ((P.y*P.y + Q.y*Q.y) - 2 * D.y * (P.y*Q.y)) = 2 * (P.y*Q.y) - D.y * (P.y*P.y + Q.y*Q.y) := by
    refine K.cancel (K.mul_ne nm np) ?_
    have e1 : (1 - t) * (1 + t) * (S.y * ((P.y*P.y + Q.y*Q.y) - 2 * D.y * (P.y*Q.y))) = (S.y * (1 - t)) * ((P.y*P.y + Q.y*Q.y) * (1 + t) - 2 * (D.y * (1 + t)) * (P.y*Q.y)) := by
      clear hyD hyS hr s1 s2 hu hon1 hon2 ht; grind
    have e2 : (1 - t) * (1 + t) * (2 * (P.y*Q.y) - D.y * (P.y*P.y + Q.y*Q.y)) = (1 - t) * (2 * (P.y*Q.y) * (1 + t) - (D.y * (1 + t)) * (P.y*P.y + Q.y*Q.y)) := by
      clear hyD hyS hr s1 s2 hu hon1 hon2 ht e1; grind
    rw [e1, e2, hyD, hyS]
    exact hr
  -- it is not 0
  have hnz : (P.y*P.y + Q.y*Q.y) - 2 * D.y * (P.y*Q.y) ≠ 0 := by
    intro h0
    rw [h0, Fin.mul_zero] at hkey
    have a1 : P.y*P.y + Q.y*Q.y = D.y * (2 * (P.y*Q.y)) := by
      have : P.y*P.y + Q.y*Q.y = ((P.y*P.y + Q.y*Q.y) - 2 * D.y * (P.y*Q.y)) + D.y * (2 * (P.y*Q.y)) := by
        clear hkey hyD hyS hr s1 s2 hu hon1 hon2 ht h0; grind
      rw [this, h0, Fin.zero_add]
    have a2 : 2 * (P.y*Q.y) = D.y * (P.y*P.y + Q.y*Q.y) := K.sub_zero' hkey.symm
    have nDD : (1 - D.y) * (1 + D.y) ≠ 0 := K.mul_ne nD (fun h => h2 (K.neg_one' h (by decide +kernel)))
    have a3 : (1 - D.y) * (1 + D.y) * (P.y*P.y + Q.y*Q.y) = 0 := by
      have : (1 - D.y) * (1 + D.y) * (P.y*P.y + Q.y*Q.y) = (P.y*P.y + Q.y*Q.y) - D.y * (D.y * (P.y*P.y + Q.y*Q.y)) := by
        clear hkey hyD hyS hr s1 s2 hu hon1 hon2 ht h0 a1 a2; grind
      rw [this, ← a2, ← a1]
      clear hkey hyD hyS hr s1 s2 hu hon1 hon2 ht h0 a1 a2 this
      grind
    have a4 := (K.mul_zero' a3).resolve_left nDD
    rw [a4, Fin.mul_zero] at a2
    have a5 := (K.mul_zero' a2).resolve_left two_ne
    have hy1 : P.y = 0 ∧ Q.y = 0 := by
      rcases K.mul_zero' a5 with h | h
      · rw [h, Fin.zero_mul, Fin.zero_add] at a4
        exact ⟨h, (K.mul_zero' a4).elim id id⟩
      · rw [h, Fin.zero_mul, Fin.add_zero] at a4
        exact ⟨(K.mul_zero' a4).elim id id, h⟩
    obtain ⟨z1, z2⟩ := hy1
    rw [z1] at hon1 ht hyD
    rw [z2] at hon2 ht hyD
    have b1 : P.x*P.x = 0 - 1 := from_zero _ _ hon1
    have b2 : Q.x*Q.x = 0 - 1 := from_zero _ _ hon2
    have b3 : t = 0 := by rw [ht]; clear hon1 hon2 ht hyD hkey a1 a2 a3 a4 a5 hyS hr s1 s2 hu h0 z1 z2 b1 b2; grind
    rw [b3] at hyD
    have b4 : D.y = 0 - P.x*Q.x := by clear hon1 hon2 ht hkey a1 a2 a3 a4 a5 hyS hr s1 s2 hu h0 z1 z2 b1 b2; grind
    have b5 : D.y * D.y = (P.x*P.x) * (Q.x*Q.x) := by rw [b4]; clear hon1 hon2 ht hkey a1 a2 a3 a4 a5 hyS hr s1 s2 hu h0 z1 z2 b1 b2 b4 hyD; grind
    rw [b1, b2] at b5
    have b6 : ((0 : K) - 1) * (0 - 1) = 1 := by decide +kernel
    rw [b6] at b5
    have b7 : (1 - D.y) * (1 + D.y) = 1 - D.y * D.y := dif_sq _
    rw [b7, b5] at nDD
    exact nDD (by decide +kernel)
  have nAC : 2 * ((A*C)*(A*C)) ≠ 0 := K.mul_ne two_ne (K.mul_ne (K.mul_ne hn hn') (K.mul_ne hn hn'))
  generalize ((Q.y*C)*A + C*(P.y*A)) * ((Q.y*C)*A + C*(P.y*A)) = M at *
  generalize u * (((Q.y*C)*A - C*(P.y*A)) * ((Q.y*C)*A - C*(P.y*A))) = N at *
  constructor
  · intro h
    rw [h, Fin.mul_zero] at s1
    exact K.mul_ne nAC hnz s1.symm
  · refine K.cancel nD ?_
    have e : (1 - D.y) * (S.y * (M + N)) = S.y * ((1 - D.y) * (M + N)) := by clear s1 s2 hu hkey hr hyD hyS ht hon1 hon2; grind
    rw [s2, e, s1, ← hkey]
    clear s1 s2 hu hkey hr hyD hyS ht hon1 hon2 e
    grind
end Go.Proofs.Ytilnbmlbahflkaa

namespace Go.Proofs.Ytilnbmlbahflkaa
open Go.RowKit
set_option linter.unusedVariables false

theorem e_ring (a b : K) : (a+b)*(a+b) - (a-b)*(a-b) = 4 * (a*b) := by grind
theorem pm_ring (a b c d : K) : ((c-d)*(a+b) + (c+d)*(a-b)) * ((c-d)*(a+b) + (c+d)*(a-b)) - ((c-d)*(a+b) - (c+d)*(a-b)) * ((c-d)*(a+b) - (c+d)*(a-b)) = 4 * ((c*c - d*d) * (a*a - b*b)) := by grind
theorem sq_ring (a b : K) : ((a+b)*(a+b)) * ((a-b)*(a-b)) = (a*a - b*b) * (a*a - b*b) := by grind
theorem z2_zero (a b : K) (h : a * b = 0) : stZ2 a b = 0 := by unfold stZ2; rw [e_ring, h, Fin.mul_zero, Fin.zero_mul]
/-- The point 0. -/
structure In0 (s : Lad) : Prop where
  ab : s.a * s.b = 0
  cd : s.c * s.d = 0
theorem In0.swp {s : Lad} (h : In0 s) (t : Int) : In0 (lswp t s) := by
  unfold lswp
  by_cases ht : t = 1
  · subst ht; exact ⟨h.cd, h.ab⟩
  · simp only [if_neg ht]; exact ⟨h.ab, h.cd⟩
theorem In0.stp {s : Lad} (h : In0 s) : In0 (lstp 0 s) := by
  constructor
  · show stX2 s.a s.b * stZ2 s.a s.b = 0
    rw [z2_zero _ _ h.ab, Fin.mul_zero]
  · show stX3 s.a s.b s.c s.d * stZ3 0 s.a s.b s.c s.d = 0
    unfold stZ3
    rw [Fin.zero_mul, Fin.mul_zero]
theorem In0.lad (k : List Int) (n : Nat) : In0 (lad 0 k n) := by
  induction n with
  | zero => exact ⟨Fin.mul_zero _, Fin.zero_mul _⟩
  | succ n ih => rw [lad_succ]; exact ((ih.swp _).stp).swp _
theorem lswp_0 (s : Lad) : lswp 0 s = s := by
  unfold lswp
  simp only [if_neg (show ¬ (0 : Int) = 1 by decide)]
theorem endK_of (u : K) (k : List Int) (h0 : bitK k 0 = 0) (h : (lad u k 254).a * (lad u k 254).b = 0) : endK u k = 0 := by
  unfold endK
  have e : (lad u k 255).b = 0 := by
    rw [lad_succ u k 254, show 254 - 254 = 0 from rfl, h0, lswp_0, lswp_0]
    exact z2_zero _ _ h
  rw [e, kinv_zero, Fin.mul_zero]
theorem endK_zero (k : List Int) (h0 : bitK k 0 = 0) : endK 0 k = 0 := endK_of 0 k h0 (In0.lad k 254).ab
/-- The points 1 and p - 1. -/
def In1 (s : Lad) : Prop := (s.a * s.b = 0 ∧ s.c * s.c = s.d * s.d) ∨ (s.c * s.d = 0 ∧ s.a * s.a = s.b * s.b)
theorem In1.swp {s : Lad} (h : In1 s) (t : Int) : In1 (lswp t s) := by
  unfold lswp
  by_cases ht : t = 1
  · subst ht; exact h.symm
  · simp only [if_neg ht]; exact h
theorem one_stp {s : Lad} {u : K} (hu : u * u = 1) (h : In1 s) : (lstp u s).a * (lstp u s).b = 0 ∧ (lstp u s).c * (lstp u s).c = (lstp u s).d * (lstp u s).d := by
  have hz : (s.c*s.c - s.d*s.d) * (s.a*s.a - s.b*s.b) = 0 := by
    rcases h with ⟨_, h⟩ | ⟨_, h⟩
    · rw [h, Fin.sub_self, Fin.zero_mul]
    · rw [h, Fin.sub_self, Fin.mul_zero]
  have hpm := pm_ring s.a s.b s.c s.d
  rw [hz, Fin.mul_zero] at hpm
  have hpm2 := K.sub_zero' hpm
  constructor
  · show stX2 s.a s.b * stZ2 s.a s.b = 0
    rcases h with ⟨h, _⟩ | ⟨_, h⟩
    · rw [z2_zero _ _ h, Fin.mul_zero]
    · unfold stX2
      rw [sq_ring, h, Fin.sub_self, Fin.zero_mul, Fin.zero_mul]
  · show stX3 s.a s.b s.c s.d * stX3 s.a s.b s.c s.d = stZ3 u s.a s.b s.c s.d * stZ3 u s.a s.b s.c s.d
    unfold stX3 stZ3
    rw [hpm2]
    generalize ((s.c-s.d)*(s.a+s.b) - (s.c+s.d)*(s.a-s.b)) * ((s.c-s.d)*(s.a+s.b) - (s.c+s.d)*(s.a-s.b)) = m
    have e : u * m * (u * m) = (u * u) * (m * m) := by clear hpm hpm2 hz hu h; grind
    rw [e, hu, Fin.one_mul]
theorem In1.lad {u : K} (hu : u * u = 1) (k : List Int) (n : Nat) : In1 (lad u k n) := by
  induction n with
  | zero => exact Or.inl ⟨Fin.mul_zero _, by show u * u = 1 * 1; rw [hu]; decide +kernel⟩
  | succ n ih => rw [lad_succ]; exact In1.swp (Or.inl (one_stp hu (ih.swp _))) _
/-- The number that the first bits of a scalar make. -/
def pre (k : List Int) : Nat → Nat
  | 0 => 0
  | r + 1 => 2 * pre k r + (bitK k (254 - r)).toNat
/-- What stands for a pair in the ladder. -/
def uOf (P : Pt) : K := (1 + P.y) * kinv (1 - P.y)
/-- The pair of the point 9. -/
def gPt : Pt := ⟨15112221349535400772501151409588531511454012693041857206046113283949847762202, 46316835694926478169428394003475163141307993866256225615783033603165251855960, by unfold On; decide +kernel⟩
theorem bit_clamp (s : List Int) (hl : s.length = 32) (i : Nat) (hi : i < 3) : bitK (clampK s) i = 0 := by
  unfold bitK clampK
  have h0 : i / 8 = 0 := by omega
  have hm : i % 8 = i := by omega
  rw [h0, hm]
  have e : ((s.set 0 (s.getD 0 0 - s.getD 0 0 % 8)).set 31 (s.getD 31 0 % 64 + 64)).getD 0 0 = s.getD 0 0 - s.getD 0 0 % 8 := by
    simp [List.getD_eq_getElem?_getD, show 0 < s.length by omega]
  rw [e]
  generalize s.getD 0 0 = x
  have : i = 0 ∨ i = 1 ∨ i = 2 := by omega
  rcases this with rfl | rfl | rfl <;> omega
end Go.Proofs.Ytilnbmlbahflkaa

namespace Go.Proofs.Ytilnbmlbahflkaa
open Go.RowKit
set_option linter.unusedVariables false

def base9 : List Int := [9, 0, 0, 0, 0, 0, 0, 0, 0, 0, 0, 0, 0, 0, 0, 0, 0, 0, 0, 0, 0, 0, 0, 0, 0, 0, 0, 0, 0, 0, 0, 0]
def scal77 : List Int := [0, 0, 0, 0, 0, 77, 0, 0, 0, 0, 0, 0, 0, 0, 0, 0, 0, 0, 0, 0, 0, 0, 0, 0, 0, 0, 0, 0, 0, 0, 0, 0]
theorem uK_base9 : uK base9 = 9 := by decide +kernel
theorem uK_zeros : uK (List.replicate 32 0) = 0 := by decide +kernel
theorem outK_zero : dig 256 32 (((0 : K).val : Nat) : Int) = List.replicate 32 0 := by decide +kernel
theorem mulB_zero (s t : List Int) (h : endK (uK t) (clampK s) = 0) : mulB s t = List.replicate 32 0 := by
  unfold mulB
  rw [h]
  exact outK_zero
theorem mulB_ne (s t : List Int) (h : endK (uK t) (clampK s) ≠ 0) : mulB s t ≠ List.replicate 32 0 := by
  intro e
  have h1 := mulB_num s t
  rw [e, show num 256 (List.replicate 32 0) = 0 by decide] at h1
  exact h (K.ext' (by rw [K.zero_val]; omega))
theorem ex_ladder : (lad 9 (clampK scal77) 255).a ≠ 0 ∧ (lad 9 (clampK scal77) 255).b ≠ 0 := by decide +kernel
theorem kinv_ne {a : K} (ha : a ≠ 0) : kinv a ≠ 0 := by
  intro h
  have := kinv_mul ha
  rw [h, Fin.zero_mul] at this
  exact one_ne this.symm
theorem pub_ne : mulB scal77 base9 ≠ List.replicate 32 0 := by
  refine mulB_ne _ _ ?_
  rw [uK_base9]
  exact K.mul_ne ex_ladder.1 (kinv_ne ex_ladder.2)
theorem small_zero (s : List Int) (hs : s.length = 32) : mulB s (List.replicate 32 0) = List.replicate 32 0 :=
  mulB_zero _ _ (by rw [uK_zeros]; exact endK_zero _ (bit_clamp s hs 0 (by decide)))
end Go.Proofs.Ytilnbmlbahflkaa

namespace Go.Proofs.Ytilnbmlbahflkaa
open Go.RowKit
set_option linter.unusedVariables false

set_option maxHeartbeats 800000 in
theorem mbytes_ownC (W w : World) (k : Nat) (h : Cod W w k) (n : Nat) (hn : n ≤ 100000) :
    Calls Try.prog 6 #[.pointer (some ⟨k, 0, none⟩), .int .i64 n] w fun e w' => ∃ v ys, e = .returned v ∧ ys.length = n ∧ (∀ x ∈ ys, 0 ≤ x ∧ x ≤ 255) ∧ Own w' w.heap.size 5 v ys ∧ Cod W w' k ∧ w.grownBy w' (some k) := by
  obtain ⟨i0, hi, hz0, hz1, hz2⟩ := info_parts Try.infoByte
  have hk := h.lt
  have H := hidden h
  clear h
  go_enter Try.func6, Try.ntmps6
  go_wp2
  go_loopw [5, 6] (fun u i wr => ∃ j : Nat, j ≤ n ∧ i = .int .i64 j ∧ ∃ ys : List Int, ys.length = j ∧ (∀ x ∈ ys, 0 ≤ x ∧ x ≤ 255) ∧ Own wr w.heap.size 5 u ys ∧ Cod W wr k ∧ w.grownBy wr (some k)) (fun _ i _ => n - (intOf i).toNat)
  case atStart => exact ⟨0, by omega, rfl, [], rfl, by simp, Own.nil _ _ _, H.out, grown_refl _ _⟩
  case round =>
    obtain ⟨j, hj, rfl, ys, hl, hr, ho, hc, hg⟩ := hrel
    have HO := hidden ho
    have HR := hidden hr
    have HC := hidden hc
    have HG := hidden hg
    clear ho hr hc hg H
    by_cases hlt : j < n
    · go_wp2_with (go_at_call 13; refine (next_any W _ k HC.out _ ?_).mono ?_; omega)
      rintro e w2 ⟨r, rfl, r0, r1, hc, hg⟩
      have HO2 := hidden (HO.out.kept_row hg hk)
      have HC2 := hidden hc
      have HG2 := hidden (grown_trans HG.out hg)
      clear hc hg HO HC HG
      go_wp2_with (at_builtin; go_loud (refine wpList_append_byt _ rfl _ _ 22 rfl w.heap.size 5 i0 (.int .u8 0) Try.underlying22 hi hz0 hz1 hz2 rfl _ _ rfl (HO2.out.alloc _) _ _ _ _ _ rfl (one_byte _ _ ((r + j * 7) % 256) ?c0 ?c1) rfl ?c2 ?c3 ?_))
      case c0 => omega
      case c1 => rw [World.cell?_alloc_at _ _ _ _ rfl]; rfl
      case c2 => omega
      case c3 => have := HG2.out.size; simp; omega
      intro u w4 hown hg
      have HC4 := hidden ((HC2.out.alloc _).grown hg (fun e => by have := (HO2.out.lt k e.symm).1; omega) (fun j hj => by have := (HO2.out.lt j hj).1; have := HC2.out.bel.size; have := HC2.out.base; omega))
      have HG4 := hidden (grown_own (grown_alloc_new HG2.out _) hg (fun j hj => (HO2.out.lt j hj).1))
      have HO4 := hidden hown
      clear hown hg HO2 HC2 HG2
      go_wp2
      go_roundw
      case rel => exact ⟨j + 1, by omega, by go_num, _, by simp [hl], rng_append HR.out (by intro z hz; simp at hz; omega), HO4.out, HC4.out, HG4.out⟩
      case measure => simp [intOf]; omega
    · obtain rfl : j = n := by omega
      go_wp2
      go_ret
      exact ⟨_, ys, rfl, hl, HR.out, HO.out, HC.out, HG.out⟩

end Go.Proofs.Ytilnbmlbahflkaa
