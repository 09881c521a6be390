/-
  The group of the curve, told by the pairs (x, y) with y y - x x = 1 + d x x y y: sums of any two of them, and that sums are associative.
-/
import Derived.Test.YtilnbmlbahflkaaMCrvField
namespace Go.Proofs.Ytilnbmlbahflkaa
set_option linter.unusedVariables false

theorem K.sub_zero' {a b : K} (h : a - b = 0) : a = b := by grind
theorem K.neg_one' {t u : K} (h : 1 + t = 0) (hu : 1 + u = 0) : t = u := by grind
theorem K.zero2 (a b : K) : a*0 + b*0 = 0 := by rw [Fin.mul_zero, Fin.mul_zero, Fin.add_zero]
theorem on_id (d x1 y1 x2 y2 : K) : (y1*y2 + x1*x2)*(y1*y2 + x1*x2)*((1 + d*x1*x2*y1*y2)*(1 + d*x1*x2*y1*y2)) - (x1*y2 + x2*y1)*(x1*y2 + x2*y1)*((1 - d*x1*x2*y1*y2)*(1 - d*x1*x2*y1*y2)) - (1 + d*x1*x2*y1*y2)*(1 + d*x1*x2*y1*y2)*((1 - d*x1*x2*y1*y2)*(1 - d*x1*x2*y1*y2)) - d*((x1*y2 + x2*y1)*(x1*y2 + x2*y1))*((y1*y2 + x1*x2)*(y1*y2 + x1*x2)) = (d*d*d*x1*x1*x2*x2*x2*x2*y1*y1*y2*y2*y2*y2 - d*d*x1*x1*x2*x2*x2*x2*y2*y2*y2*y2 + d*d*x2*x2*x2*x2*y1*y1*y2*y2*y2*y2 - d*d*x2*x2*x2*x2*y2*y2*y2*y2 - d*x1*x1*x2*x2*x2*x2*y2*y2 + d*x1*x1*x2*x2*y2*y2*y2*y2 + d*x2*x2*x2*x2*y1*y1*y2*y2 - 2*d*x2*x2*x2*x2*y2*y2*y2*y2 - d*x2*x2*y1*y1*y2*y2*y2*y2 - 2*d*x2*x2*y2*y2 - 2*x2*x2*x2*x2*y2*y2 + x2*x2*x2*x2 + 2*x2*x2*y2*y2*y2*y2 - 4*x2*x2*y2*y2 + y2*y2*y2*y2)*(y1*y1 - x1*x1 - 1 - d*(x1*x1)*(y1*y1)) + (d*x1*x1*x1*x1*x2*x2*y2*y2 + 2*d*x1*x1*x2*x2*y2*y2 + d*x2*x2*y1*y1*y1*y1*y2*y2 - 2*d*x2*x2*y1*y1*y2*y2 + d*x2*x2*y2*y2 + 2*x1*x1*x2*x2*y2*y2 - x1*x1*x2*x2 + x1*x1*y2*y2 - 2*x2*x2*y1*y1*y2*y2 + x2*x2*y1*y1 + 2*x2*x2*y2*y2 - x2*x2 - y1*y1*y2*y2 + y2*y2 + 1)*(y2*y2 - x2*x2 - 1 - d*(x2*x2)*(y2*y2)) := by grind

/-- A pair of the group. -/
def On (x y : K) : Prop := y*y - x*x - 1 - dK*(x*x)*(y*y) = 0
structure Pt where
  x : K
  y : K
  on : On x y
theorem Pt.ext' {P Q : Pt} (hx : P.x = Q.x) (hy : P.y = Q.y) : P = Q := by
  cases P; cases Q; cases hx; cases hy; rfl
/-- What is added to 1. -/
def tt (x1 y1 x2 y2 : K) : K := dK*x1*x2*y1*y2
theorem compl {x1 y1 x2 y2 : K} (h1 : On x1 y1) (h2 : On x2 y2) (e : K) (he : e*e = 1) (ht : tt x1 y1 x2 y2 = e) : False := by
  unfold On at h1 h2
  unfold tt at ht
  have hi := iK_eq
  generalize iK = i at hi
  have hA : dK * ((x1*y1*(i*x2 + y2)) * (x1*y1*(i*x2 + y2))) = (i*x1 + e*y1) * (i*x1 + e*y1) := by grind
  have hB : dK * ((x1*y1*(i*x2 - y2)) * (x1*y1*(i*x2 - y2))) = (i*x1 - e*y1) * (i*x1 - e*y1) := by grind
  have kA := d_nonsq _ _ hA
  have kB := d_nonsq _ _ hB
  have h2e : 2 * e = 0 := by grind
  rcases K.mul_zero' h2e with h | h
  · exact two_ne h
  · rw [h] at he
    rw [Fin.zero_mul] at he
    exact one_ne he.symm
theorem tp_ne (P Q : Pt) : 1 + tt P.x P.y Q.x Q.y ≠ 0 := fun h => compl P.on Q.on (0 - 1) (by decide +kernel) (K.neg_one' h (by decide +kernel))
theorem tm_ne (P Q : Pt) : 1 - tt P.x P.y Q.x Q.y ≠ 0 := fun h => compl P.on Q.on 1 (by decide +kernel) (K.sub_zero' h).symm
/-- The sum of two pairs. -/
def padd (P Q : Pt) : Pt where
  x := (P.x*Q.y + Q.x*P.y) * kinv (1 + tt P.x P.y Q.x Q.y)
  y := (P.y*Q.y + P.x*Q.x) * kinv (1 - tt P.x P.y Q.x Q.y)
  on := by
    have p1 := quot_mul (a := P.x*Q.y + Q.x*P.y) (tp_ne P Q)
    have p2 := quot_mul (a := P.y*Q.y + P.x*Q.x) (tm_ne P Q)
    have n1 := tp_ne P Q
    have n2 := tm_ne P Q
    have h := on_id dK P.x P.y Q.x Q.y
    have e1 := P.on
    have e2 := Q.on
    unfold On at e1 e2 ⊢
    rw [e1, e2, K.zero2] at h
    have ht : tt P.x P.y Q.x Q.y = dK*P.x*Q.x*P.y*Q.y := rfl
    rw [← ht] at h
    generalize (P.x*Q.y + Q.x*P.y) * kinv (1 + tt P.x P.y Q.x Q.y) = X at *
    generalize (P.y*Q.y + P.x*Q.x) * kinv (1 - tt P.x P.y Q.x Q.y) = Y at *
    generalize tt P.x P.y Q.x Q.y = t at *
    rw [← p1, ← p2] at h
    refine K.cancel (K.mul_ne (K.mul_ne n1 n1) (K.mul_ne n2 n2)) ?_
    rw [Fin.mul_zero, ← h]
    clear h e1 e2 p1 p2 ht n1 n2
    grind
theorem padd_y (P Q : Pt) : (padd P Q).y * (1 - tt P.x P.y Q.x Q.y) = P.y*Q.y + P.x*Q.x := quot_mul (tm_ne P Q)
/-- The pair 0. -/
def pzero : Pt := ⟨0, 1, by unfold On; decide +kernel⟩
def pneg (P : Pt) : Pt := ⟨0 - P.x, P.y, by have := P.on; unfold On at *; grind⟩
end Go.Proofs.Ytilnbmlbahflkaa
