/-
  The group of the curve, told by the pairs (x, y) with y y - x x = 1 + d x x y y: sums of any two of them, and that sums are associative.
-/
import Derived.Test.YtbpmanbpmlkmnaaCrvField
namespace Go.Proofs.Ytbpmanbpmlkmnaa
set_option linter.unusedVariables false

theorem K.sub_zero' {a b : K} (h : a - b = 0) : a = b := by grind
theorem K.neg_one' {t u : K} (h : 1 + t = 0) (hu : 1 + u = 0) : t = u := by grind
theorem K.add_comm' (a b : K) : a + b = b + a := by grind
theorem K.zero3 (a b c : K) : a*0 + b*0 + c*0 = 0 := by rw [Fin.mul_zero, Fin.mul_zero, Fin.mul_zero, Fin.add_zero, Fin.add_zero]
theorem K.zero2 (a b : K) : a*0 + b*0 = 0 := by rw [Fin.mul_zero, Fin.mul_zero, Fin.add_zero]
theorem assoc_id_x (d x1 y1 x2 y2 x3 y3 : K) : ((x1*y2 + x2*y1)*(1 - d*x1*x2*y1*y2)*y3 + x3*((y1*y2 + x1*x2)*(1 + d*x1*x2*y1*y2)))*((1 + d*x2*x3*y2*y3)*(1 - d*x2*x3*y2*y3) + d*((x2*y3 + x3*y2)*(y2*y3 + x2*x3))*(x1*y1)) - ((x2*y3 + x3*y2)*(1 - d*x2*x3*y2*y3)*y1 + x1*((y2*y3 + x2*x3)*(1 + d*x2*x3*y2*y3)))*((1 + d*x1*x2*y1*y2)*(1 - d*x1*x2*y1*y2) + d*((x1*y2 + x2*y1)*(y1*y2 + x1*x2))*(x3*y3)) = (0 - d*d*x1*x2*x2*x2*x2*x3*x3*y2*y2*y2*y3 - d*d*x1*x2*x2*x2*x3*y2*y2*y2*y2*y3*y3 + d*d*x2*x2*x2*x2*x3*y1*y2*y2*y2*y3*y3 + d*d*x2*x2*x2*x3*x3*y1*y2*y2*y2*y2*y3 - d*x1*x2*x2*x2*x2*x3*x3*y2*y3 - d*x1*x2*x2*x2*x3*x3*x3*y2*y2 - d*x1*x2*x2*x2*x3*y2*y2 + d*x1*x2*x2*y2*y2*y2*y3*y3*y3 - d*x1*x2*x2*y2*y2*y2*y3 + d*x1*x2*x3*y2*y2*y2*y2*y3*y3 + d*x2*x2*x2*x2*x3*y1*y2*y3*y3 + d*x2*x2*x2*y1*y2*y2*y3*y3*y3 - d*x2*x2*x2*y1*y2*y2*y3 - d*x2*x2*x3*x3*x3*y1*y2*y2*y2 - d*x2*x2*x3*y1*y2*y2*y2 - d*x2*x3*x3*y1*y2*y2*y2*y2*y3)*(y1*y1 - x1*x1 - 1 - d*(x1*x1)*(y1*y1)) + (d*d*x1*x1*x2*x2*x3*x3*x3*y1*y2*y3*y3 - d*d*x1*x1*x2*x3*x3*y1*y2*y2*y3*y3*y3 - d*d*x1*x2*x2*x3*x3*y1*y1*y2*y3*y3*y3 + d*d*x1*x2*x3*x3*x3*y1*y1*y2*y2*y3*y3 + d*x1*x1*x1*x2*x2*x3*x3*y2*y3 + d*x1*x1*x1*x2*x3*x3*x3*y3*y3 + d*x1*x1*x1*x2*x3*y2*y2*y3*y3 + d*x1*x1*x1*x3*x3*y2*y3*y3*y3 - d*x1*x1*x2*x2*x3*y1*y2*y3*y3 - d*x1*x1*x2*x3*x3*y1*y2*y2*y3 + d*x1*x1*x2*x3*x3*y1*y3*y3*y3 + d*x1*x1*x3*x3*x3*y1*y2*y3*y3 - d*x1*x2*x2*x3*x3*y1*y1*y2*y3 + d*x1*x2*x2*x3*x3*y2*y3 - d*x1*x2*x3*x3*x3*y1*y1*y3*y3 + d*x1*x2*x3*x3*x3*y3*y3 - d*x1*x2*x3*y1*y1*y2*y2*y3*y3 + d*x1*x2*x3*y2*y2*y3*y3 - d*x1*x3*x3*y1*y1*y2*y3*y3*y3 + d*x1*x3*x3*y2*y3*y3*y3 + d*x2*x2*x3*y1*y1*y1*y2*y3*y3 - d*x2*x2*x3*y1*y2*y3*y3 + d*x2*x3*x3*y1*y1*y1*y2*y2*y3 - d*x2*x3*x3*y1*y1*y1*y3*y3*y3 - d*x2*x3*x3*y1*y2*y2*y3 + d*x2*x3*x3*y1*y3*y3*y3 - d*x3*x3*x3*y1*y1*y1*y2*y3*y3 + d*x3*x3*x3*y1*y2*y3*y3 + x1*x1*x1*x2*x3*x3*x3 - x1*x1*x1*x2*x3*y3*y3 + x1*x1*x1*x2*x3 + x1*x1*x1*x3*x3*y2*y3 - x1*x1*x1*y2*y3*y3*y3 + x1*x1*x1*y2*y3 + x1*x1*x2*x3*x3*y1*y3 - x1*x1*x2*y1*y3*y3*y3 + x1*x1*x2*y1*y3 + x1*x1*x3*x3*x3*y1*y2 - x1*x1*x3*y1*y2*y3*y3 + x1*x1*x3*y1*y2 - x1*x2*x3*x3*x3*y1*y1 + x1*x2*x3*x3*x3 + x1*x2*x3*y1*y1*y3*y3 - x1*x2*x3*y1*y1 - x1*x2*x3*y3*y3 + x1*x2*x3 - x1*x3*x3*y1*y1*y2*y3 + x1*x3*x3*y2*y3 + x1*y1*y1*y2*y3*y3*y3 - x1*y1*y1*y2*y3 - x1*y2*y3*y3*y3 + x1*y2*y3 - x2*x3*x3*y1*y1*y1*y3 + x2*x3*x3*y1*y3 + x2*y1*y1*y1*y3*y3*y3 - x2*y1*y1*y1*y3 - x2*y1*y3*y3*y3 + x2*y1*y3 - x3*x3*x3*y1*y1*y1*y2 + x3*x3*x3*y1*y2 + x3*y1*y1*y1*y2*y3*y3 - x3*y1*y1*y1*y2 - x3*y1*y2*y3*y3 + x3*y1*y2)*(y2*y2 - x2*x2 - 1 - d*(x2*x2)*(y2*y2)) + (0 - d*x1*x1*x2*x2*x3*y1*y2 + d*x1*x1*x2*y1*y2*y2*y3 + d*x1*x2*x2*y1*y1*y2*y3 - d*x1*x2*x3*y1*y1*y2*y2 - x1*x1*x1*x2*x2*x2*x3 - x1*x1*x1*x2*x2*y2*y3 + x1*x1*x1*x2*x3*y2*y2 - x1*x1*x1*x2*x3 + x1*x1*x1*y2*y2*y2*y3 - x1*x1*x1*y2*y3 - x1*x1*x2*x2*x2*y1*y3 - x1*x1*x2*x2*x3*y1*y2 + x1*x1*x2*y1*y2*y2*y3 - x1*x1*x2*y1*y3 + x1*x1*x3*y1*y2*y2*y2 - x1*x1*x3*y1*y2 + x1*x2*x2*x2*x3*y1*y1 - x1*x2*x2*x2*x3 + x1*x2*x2*y1*y1*y2*y3 - x1*x2*x2*y2*y3 - x1*x2*x3*y1*y1*y2*y2 + x1*x2*x3*y1*y1 + x1*x2*x3*y2*y2 - x1*x2*x3 - x1*y1*y1*y2*y2*y2*y3 + x1*y1*y1*y2*y3 + x1*y2*y2*y2*y3 - x1*y2*y3 + x2*x2*x2*y1*y1*y1*y3 - x2*x2*x2*y1*y3 + x2*x2*x3*y1*y1*y1*y2 - x2*x2*x3*y1*y2 - x2*y1*y1*y1*y2*y2*y3 + x2*y1*y1*y1*y3 + x2*y1*y2*y2*y3 - x2*y1*y3 - x3*y1*y1*y1*y2*y2*y2 + x3*y1*y1*y1*y2 + x3*y1*y2*y2*y2 - x3*y1*y2)*(y3*y3 - x3*x3 - 1 - d*(x3*x3)*(y3*y3)) := by grind

theorem assoc_x (d x1 y1 x2 y2 x3 y3 : K) (h1 : (y1*y1 - x1*x1 - 1 - d*(x1*x1)*(y1*y1)) = 0) (h2 : (y2*y2 - x2*x2 - 1 - d*(x2*x2)*(y2*y2)) = 0) (h3 : (y3*y3 - x3*x3 - 1 - d*(x3*x3)*(y3*y3)) = 0) : ((x1*y2 + x2*y1)*(1 - d*x1*x2*y1*y2)*y3 + x3*((y1*y2 + x1*x2)*(1 + d*x1*x2*y1*y2)))*((1 + d*x2*x3*y2*y3)*(1 - d*x2*x3*y2*y3) + d*((x2*y3 + x3*y2)*(y2*y3 + x2*x3))*(x1*y1)) = ((x2*y3 + x3*y2)*(1 - d*x2*x3*y2*y3)*y1 + x1*((y2*y3 + x2*x3)*(1 + d*x2*x3*y2*y3)))*((1 + d*x1*x2*y1*y2)*(1 - d*x1*x2*y1*y2) + d*((x1*y2 + x2*y1)*(y1*y2 + x1*x2))*(x3*y3)) := by
  have h := assoc_id_x d x1 y1 x2 y2 x3 y3
  rw [h1, h2, h3] at h
  exact K.sub_zero' (by rw [h]; exact K.zero3 _ _ _)

theorem assoc_id_y (d x1 y1 x2 y2 x3 y3 : K) : ((y1*y2 + x1*x2)*(1 + d*x1*x2*y1*y2)*y3 + (x1*y2 + x2*y1)*(1 - d*x1*x2*y1*y2)*x3)*((1 + d*x2*x3*y2*y3)*(1 - d*x2*x3*y2*y3) - d*((x2*y3 + x3*y2)*(y2*y3 + x2*x3))*(x1*y1)) - ((y2*y3 + x2*x3)*(1 + d*x2*x3*y2*y3)*y1 + (x2*y3 + x3*y2)*(1 - d*x2*x3*y2*y3)*x1)*((1 + d*x1*x2*y1*y2)*(1 - d*x1*x2*y1*y2) - d*((x1*y2 + x2*y1)*(y1*y2 + x1*x2))*(x3*y3)) = (d*d*x1*x2*x2*x2*x2*x3*y2*y2*y2*y3*y3 + d*d*x1*x2*x2*x2*x3*x3*y2*y2*y2*y2*y3 - d*d*x2*x2*x2*x2*x3*x3*y1*y2*y2*y2*y3 - d*d*x2*x2*x2*x3*y1*y2*y2*y2*y2*y3*y3 + d*x1*x2*x2*x2*x2*x3*y2*y3*y3 + d*x1*x2*x2*x2*y2*y2*y3*y3*y3 - d*x1*x2*x2*x2*y2*y2*y3 - d*x1*x2*x2*x3*x3*x3*y2*y2*y2 - d*x1*x2*x2*x3*y2*y2*y2 - d*x1*x2*x3*x3*y2*y2*y2*y2*y3 - d*x2*x2*x2*x2*x3*x3*y1*y2*y3 - d*x2*x2*x2*x3*x3*x3*y1*y2*y2 - d*x2*x2*x2*x3*y1*y2*y2 + d*x2*x2*y1*y2*y2*y2*y3*y3*y3 - d*x2*x2*y1*y2*y2*y2*y3 + d*x2*x3*y1*y2*y2*y2*y2*y3*y3)*(y1*y1 - x1*x1 - 1 - d*(x1*x1)*(y1*y1)) + (d*d*x1*x1*x2*x2*x3*x3*y1*y2*y3*y3*y3 - d*d*x1*x1*x2*x3*x3*x3*y1*y2*y2*y3*y3 - d*d*x1*x2*x2*x3*x3*x3*y1*y1*y2*y3*y3 + d*d*x1*x2*x3*x3*y1*y1*y2*y2*y3*y3*y3 - d*x1*x1*x1*x2*x2*x3*y2*y3*y3 - d*x1*x1*x1*x2*x3*x3*y2*y2*y3 + d*x1*x1*x1*x2*x3*x3*y3*y3*y3 + d*x1*x1*x1*x3*x3*x3*y2*y3*y3 + d*x1*x1*x2*x2*x3*x3*y1*y2*y3 + d*x1*x1*x2*x3*x3*x3*y1*y3*y3 + d*x1*x1*x2*x3*y1*y2*y2*y3*y3 + d*x1*x1*x3*x3*y1*y2*y3*y3*y3 + d*x1*x2*x2*x3*y1*y1*y2*y3*y3 - d*x1*x2*x2*x3*y2*y3*y3 + d*x1*x2*x3*x3*y1*y1*y2*y2*y3 - d*x1*x2*x3*x3*y1*y1*y3*y3*y3 - d*x1*x2*x3*x3*y2*y2*y3 + d*x1*x2*x3*x3*y3*y3*y3 - d*x1*x3*x3*x3*y1*y1*y2*y3*y3 + d*x1*x3*x3*x3*y2*y3*y3 - d*x2*x2*x3*x3*y1*y1*y1*y2*y3 + d*x2*x2*x3*x3*y1*y2*y3 - d*x2*x3*x3*x3*y1*y1*y1*y3*y3 + d*x2*x3*x3*x3*y1*y3*y3 - d*x2*x3*y1*y1*y1*y2*y2*y3*y3 + d*x2*x3*y1*y2*y2*y3*y3 - d*x3*x3*y1*y1*y1*y2*y3*y3*y3 + d*x3*x3*y1*y2*y3*y3*y3 + x1*x1*x1*x2*x3*x3*y3 - x1*x1*x1*x2*y3*y3*y3 + x1*x1*x1*x2*y3 + x1*x1*x1*x3*x3*x3*y2 - x1*x1*x1*x3*y2*y3*y3 + x1*x1*x1*x3*y2 + x1*x1*x2*x3*x3*x3*y1 - x1*x1*x2*x3*y1*y3*y3 + x1*x1*x2*x3*y1 + x1*x1*x3*x3*y1*y2*y3 - x1*x1*y1*y2*y3*y3*y3 + x1*x1*y1*y2*y3 - x1*x2*x3*x3*y1*y1*y3 + x1*x2*x3*x3*y3 + x1*x2*y1*y1*y3*y3*y3 - x1*x2*y1*y1*y3 - x1*x2*y3*y3*y3 + x1*x2*y3 - x1*x3*x3*x3*y1*y1*y2 + x1*x3*x3*x3*y2 + x1*x3*y1*y1*y2*y3*y3 - x1*x3*y1*y1*y2 - x1*x3*y2*y3*y3 + x1*x3*y2 - x2*x3*x3*x3*y1*y1*y1 + x2*x3*x3*x3*y1 + x2*x3*y1*y1*y1*y3*y3 - x2*x3*y1*y1*y1 - x2*x3*y1*y3*y3 + x2*x3*y1 - x3*x3*y1*y1*y1*y2*y3 + x3*x3*y1*y2*y3 + y1*y1*y1*y2*y3*y3*y3 - y1*y1*y1*y2*y3 - y1*y2*y3*y3*y3 + y1*y2*y3)*(y2*y2 - x2*x2 - 1 - d*(x2*x2)*(y2*y2)) + (0 - d*x1*x1*x2*x2*y1*y2*y3 + d*x1*x1*x2*x3*y1*y2*y2 + d*x1*x2*x2*x3*y1*y1*y2 - d*x1*x2*y1*y1*y2*y2*y3 - x1*x1*x1*x2*x2*x2*y3 - x1*x1*x1*x2*x2*x3*y2 + x1*x1*x1*x2*y2*y2*y3 - x1*x1*x1*x2*y3 + x1*x1*x1*x3*y2*y2*y2 - x1*x1*x1*x3*y2 - x1*x1*x2*x2*x2*x3*y1 - x1*x1*x2*x2*y1*y2*y3 + x1*x1*x2*x3*y1*y2*y2 - x1*x1*x2*x3*y1 + x1*x1*y1*y2*y2*y2*y3 - x1*x1*y1*y2*y3 + x1*x2*x2*x2*y1*y1*y3 - x1*x2*x2*x2*y3 + x1*x2*x2*x3*y1*y1*y2 - x1*x2*x2*x3*y2 - x1*x2*y1*y1*y2*y2*y3 + x1*x2*y1*y1*y3 + x1*x2*y2*y2*y3 - x1*x2*y3 - x1*x3*y1*y1*y2*y2*y2 + x1*x3*y1*y1*y2 + x1*x3*y2*y2*y2 - x1*x3*y2 + x2*x2*x2*x3*y1*y1*y1 - x2*x2*x2*x3*y1 + x2*x2*y1*y1*y1*y2*y3 - x2*x2*y1*y2*y3 - x2*x3*y1*y1*y1*y2*y2 + x2*x3*y1*y1*y1 + x2*x3*y1*y2*y2 - x2*x3*y1 - y1*y1*y1*y2*y2*y2*y3 + y1*y1*y1*y2*y3 + y1*y2*y2*y2*y3 - y1*y2*y3)*(y3*y3 - x3*x3 - 1 - d*(x3*x3)*(y3*y3)) := by grind

theorem assoc_y (d x1 y1 x2 y2 x3 y3 : K) (h1 : (y1*y1 - x1*x1 - 1 - d*(x1*x1)*(y1*y1)) = 0) (h2 : (y2*y2 - x2*x2 - 1 - d*(x2*x2)*(y2*y2)) = 0) (h3 : (y3*y3 - x3*x3 - 1 - d*(x3*x3)*(y3*y3)) = 0) : ((y1*y2 + x1*x2)*(1 + d*x1*x2*y1*y2)*y3 + (x1*y2 + x2*y1)*(1 - d*x1*x2*y1*y2)*x3)*((1 + d*x2*x3*y2*y3)*(1 - d*x2*x3*y2*y3) - d*((x2*y3 + x3*y2)*(y2*y3 + x2*x3))*(x1*y1)) = ((y2*y3 + x2*x3)*(1 + d*x2*x3*y2*y3)*y1 + (x2*y3 + x3*y2)*(1 - d*x2*x3*y2*y3)*x1)*((1 + d*x1*x2*y1*y2)*(1 - d*x1*x2*y1*y2) - d*((x1*y2 + x2*y1)*(y1*y2 + x1*x2))*(x3*y3)) := by
  have h := assoc_id_y d x1 y1 x2 y2 x3 y3
  rw [h1, h2, h3] at h
  exact K.sub_zero' (by rw [h]; exact K.zero3 _ _ _)

theorem on_id (d x1 y1 x2 y2 : K) : (y1*y2 + x1*x2)*(y1*y2 + x1*x2)*((1 + d*x1*x2*y1*y2)*(1 + d*x1*x2*y1*y2)) - (x1*y2 + x2*y1)*(x1*y2 + x2*y1)*((1 - d*x1*x2*y1*y2)*(1 - d*x1*x2*y1*y2)) - (1 + d*x1*x2*y1*y2)*(1 + d*x1*x2*y1*y2)*((1 - d*x1*x2*y1*y2)*(1 - d*x1*x2*y1*y2)) - d*((x1*y2 + x2*y1)*(x1*y2 + x2*y1))*((y1*y2 + x1*x2)*(y1*y2 + x1*x2)) = (d*d*d*x1*x1*x2*x2*x2*x2*y1*y1*y2*y2*y2*y2 - d*d*x1*x1*x2*x2*x2*x2*y2*y2*y2*y2 + d*d*x2*x2*x2*x2*y1*y1*y2*y2*y2*y2 - d*d*x2*x2*x2*x2*y2*y2*y2*y2 - d*x1*x1*x2*x2*x2*x2*y2*y2 + d*x1*x1*x2*x2*y2*y2*y2*y2 + d*x2*x2*x2*x2*y1*y1*y2*y2 - 2*d*x2*x2*x2*x2*y2*y2*y2*y2 - d*x2*x2*y1*y1*y2*y2*y2*y2 - 2*d*x2*x2*y2*y2 - 2*x2*x2*x2*x2*y2*y2 + x2*x2*x2*x2 + 2*x2*x2*y2*y2*y2*y2 - 4*x2*x2*y2*y2 + y2*y2*y2*y2)*(y1*y1 - x1*x1 - 1 - d*(x1*x1)*(y1*y1)) + (d*x1*x1*x1*x1*x2*x2*y2*y2 + 2*d*x1*x1*x2*x2*y2*y2 + d*x2*x2*y1*y1*y1*y1*y2*y2 - 2*d*x2*x2*y1*y1*y2*y2 + d*x2*x2*y2*y2 + 2*x1*x1*x2*x2*y2*y2 - x1*x1*x2*x2 + x1*x1*y2*y2 - 2*x2*x2*y1*y1*y2*y2 + x2*x2*y1*y1 + 2*x2*x2*y2*y2 - x2*x2 - y1*y1*y2*y2 + y2*y2 + 1)*(y2*y2 - x2*x2 - 1 - d*(x2*x2)*(y2*y2)) := by grind

theorem ac_end (U V N M E F : K) (i : U*N*(V*F) = V*M*(U*E)) : U*(V*F)*N = U*E*V*M := by
  have a : U*(V*F)*N = U*N*(V*F) := by clear i; grind
  have b : V*M*(U*E) = U*E*V*M := by clear i; grind
  rw [a, i, b]
theorem out_l (A B X : K) (P : K) : A * B * X = A * (B * X) := by grind
theorem cut_l (U V E F X : K) : U*E*(V*F)*X = U*(V*F)*(X*E) := by grind
theorem cut_r (U V E F Y : K) : U*E*(V*F)*Y = U*E*V*(Y*F) := by grind
theorem num_x (t x y a b : K) : x*(1 + t)*(1 - t)*b + a*(y*(1 - t)*(1 + t)) = (1 + t)*(1 - t)*(x*b + a*y) := by grind
theorem num_y (t x y a b : K) : y*(1 - t)*(1 + t)*b + x*(1 + t)*(1 - t)*a = (1 + t)*(1 - t)*(y*b + x*a) := by grind
theorem den_p (t x y a b d : K) : (1 + t)*(1 - t) + d*(x*(1 + t)*(y*(1 - t)))*(a*b) = (1 + t)*(1 - t)*(1 + d*x*a*y*b) := by grind
theorem den_m (t x y a b d : K) : (1 + t)*(1 - t) - d*(x*(1 + t)*(y*(1 - t)))*(a*b) = (1 + t)*(1 - t)*(1 - d*x*a*y*b) := by grind
theorem swap_4 (d x1 x23 y1 y23 : K) : d*x1*x23*y1*y23 = d*x23*x1*y23*y1 := by grind
theorem assoc_end (t s X Y x12 y12 x23 y23 x1 y1 x3 y3 d : K)
    (c : X * (1 + d*x12*x3*y12*y3) = x12*y3 + x3*y12) (e : Y * (1 + d*x1*x23*y1*y23) = x1*y23 + x23*y1)
    (i : (x12 * (1 + t) * (1 - t) * y3 + x3 * (y12 * (1 - t) * (1 + t))) * ((1 + s) * (1 - s) + d * (x23 * (1 + s) * (y23 * (1 - s))) * (x1 * y1)) = (x23 * (1 + s) * (1 - s) * y1 + x1 * (y23 * (1 - s) * (1 + s))) * ((1 + t) * (1 - t) + d * (x12 * (1 + t) * (y12 * (1 - t))) * (x3 * y3))) :
    ((1 + t) * (1 - t) * (1 + d*x12*x3*y12*y3)) * ((1 + s) * (1 - s) * (1 + d*x1*x23*y1*y23)) * X = ((1 + t) * (1 - t) * (1 + d*x12*x3*y12*y3)) * ((1 + s) * (1 - s) * (1 + d*x1*x23*y1*y23)) * Y := by
  rw [num_x, num_x, den_p, den_p] at i
  rw [cut_l ((1 + t) * (1 - t)) ((1 + s) * (1 - s)) (1 + d*x12*x3*y12*y3) (1 + d*x1*x23*y1*y23) X, cut_r ((1 + t) * (1 - t)) ((1 + s) * (1 - s)) (1 + d*x12*x3*y12*y3) (1 + d*x1*x23*y1*y23) Y, c, e]
  rw [swap_4 d x1, K.add_comm' (x1*y23)]
  exact ac_end _ _ _ _ _ _ i
theorem assoc_end' (t s X Y x12 y12 x23 y23 x1 y1 x3 y3 d : K)
    (c : X * (1 - d*x12*x3*y12*y3) = y12*y3 + x12*x3) (e : Y * (1 - d*x1*x23*y1*y23) = y1*y23 + x1*x23)
    (i : (y12 * (1 - t) * (1 + t) * y3 + x12 * (1 + t) * (1 - t) * x3) * ((1 + s) * (1 - s) - d * (x23 * (1 + s) * (y23 * (1 - s))) * (x1 * y1)) = (y23 * (1 - s) * (1 + s) * y1 + x23 * (1 + s) * (1 - s) * x1) * ((1 + t) * (1 - t) - d * (x12 * (1 + t) * (y12 * (1 - t))) * (x3 * y3))) :
    ((1 + t) * (1 - t) * (1 - d*x12*x3*y12*y3)) * ((1 + s) * (1 - s) * (1 - d*x1*x23*y1*y23)) * X = ((1 + t) * (1 - t) * (1 - d*x12*x3*y12*y3)) * ((1 + s) * (1 - s) * (1 - d*x1*x23*y1*y23)) * Y := by
  rw [num_y, num_y, den_m, den_m] at i
  rw [cut_l ((1 + t) * (1 - t)) ((1 + s) * (1 - s)) (1 - d*x12*x3*y12*y3) (1 - d*x1*x23*y1*y23) X, cut_r ((1 + t) * (1 - t)) ((1 + s) * (1 - s)) (1 - d*x12*x3*y12*y3) (1 - d*x1*x23*y1*y23) Y, c, e]
  rw [swap_4 d x1, Fin.mul_comm y1 y23, Fin.mul_comm x1 x23]
  exact ac_end _ _ _ _ _ _ i

/-- A pair of the group. -/
def On (x y : K) : Prop := y*y - x*x - 1 - dK*(x*x)*(y*y) = 0
structure Pt where
  x : K
  y : K
  on : On x y
theorem Pt.ext' {P Q : Pt} (hx : P.x = Q.x) (hy : P.y = Q.y) : P = Q := by
  cases P; cases Q; cases hx; cases hy; rfl
/-- What is added to 1. -/
def tt (x1 y1 x2 y2 : K) : K := dK*x1*x2*y1*y2
theorem compl {x1 y1 x2 y2 : K} (h1 : On x1 y1) (h2 : On x2 y2) (e : K) (he : e*e = 1) (ht : tt x1 y1 x2 y2 = e) : False := by
  unfold On at h1 h2
  unfold tt at ht
  have hi := iK_eq
  generalize iK = i at hi
  have hA : dK * ((x1*y1*(i*x2 + y2)) * (x1*y1*(i*x2 + y2))) = (i*x1 + e*y1) * (i*x1 + e*y1) := by grind
  have hB : dK * ((x1*y1*(i*x2 - y2)) * (x1*y1*(i*x2 - y2))) = (i*x1 - e*y1) * (i*x1 - e*y1) := by grind
  have kA := d_nonsq _ _ hA
  have kB := d_nonsq _ _ hB
  have h2e : 2 * e = 0 := by grind
  rcases K.mul_zero' h2e with h | h
  · exact two_ne h
  · rw [h] at he
    rw [Fin.zero_mul] at he
    exact one_ne he.symm
theorem tp_ne (P Q : Pt) : 1 + tt P.x P.y Q.x Q.y ≠ 0 := fun h => compl P.on Q.on (0 - 1) (by decide +kernel) (K.neg_one' h (by decide +kernel))
theorem tm_ne (P Q : Pt) : 1 - tt P.x P.y Q.x Q.y ≠ 0 := fun h => compl P.on Q.on 1 (by decide +kernel) (K.sub_zero' h).symm
/-- The sum of two pairs. -/
def padd (P Q : Pt) : Pt where
  x := (P.x*Q.y + Q.x*P.y) * kinv (1 + tt P.x P.y Q.x Q.y)
  y := (P.y*Q.y + P.x*Q.x) * kinv (1 - tt P.x P.y Q.x Q.y)
  on := by
    have p1 := quot_mul (a := P.x*Q.y + Q.x*P.y) (tp_ne P Q)
    have p2 := quot_mul (a := P.y*Q.y + P.x*Q.x) (tm_ne P Q)
    have n1 := tp_ne P Q
    have n2 := tm_ne P Q
    have h := on_id dK P.x P.y Q.x Q.y
    have e1 := P.on
    have e2 := Q.on
    unfold On at e1 e2 ⊢
    rw [e1, e2, K.zero2] at h
    have ht : tt P.x P.y Q.x Q.y = dK*P.x*Q.x*P.y*Q.y := rfl
    rw [← ht] at h
    generalize (P.x*Q.y + Q.x*P.y) * kinv (1 + tt P.x P.y Q.x Q.y) = X at *
    generalize (P.y*Q.y + P.x*Q.x) * kinv (1 - tt P.x P.y Q.x Q.y) = Y at *
    generalize tt P.x P.y Q.x Q.y = t at *
    rw [← p1, ← p2] at h
    refine K.cancel (K.mul_ne (K.mul_ne n1 n1) (K.mul_ne n2 n2)) ?_
    rw [Fin.mul_zero, ← h]
    clear h e1 e2 p1 p2 ht n1 n2
    grind
theorem padd_x (P Q : Pt) : (padd P Q).x * (1 + tt P.x P.y Q.x Q.y) = P.x*Q.y + Q.x*P.y := quot_mul (tp_ne P Q)
theorem padd_y (P Q : Pt) : (padd P Q).y * (1 - tt P.x P.y Q.x Q.y) = P.y*Q.y + P.x*Q.x := quot_mul (tm_ne P Q)
theorem padd_comm (P Q : Pt) : padd P Q = padd Q P := by
  have ht : tt P.x P.y Q.x Q.y = tt Q.x Q.y P.x P.y := by unfold tt; grind
  have hx : P.x*Q.y + Q.x*P.y = Q.x*P.y + P.x*Q.y := by grind
  have hy : P.y*Q.y + P.x*Q.x = Q.y*P.y + Q.x*P.x := by grind
  refine Pt.ext' ?_ ?_
  · show (P.x*Q.y + Q.x*P.y) * kinv (1 + tt P.x P.y Q.x Q.y) = (Q.x*P.y + P.x*Q.y) * kinv (1 + tt Q.x Q.y P.x P.y)
    rw [ht, hx]
  · show (P.y*Q.y + P.x*Q.x) * kinv (1 - tt P.x P.y Q.x Q.y) = (Q.y*P.y + Q.x*P.x) * kinv (1 - tt Q.x Q.y P.x P.y)
    rw [ht, hy]
/-- The pair 0. -/
def pzero : Pt := ⟨0, 1, by unfold On; decide +kernel⟩
theorem padd_zero (P : Pt) : padd P pzero = P := by
  have h1 := padd_x P pzero
  have h2 := padd_y P pzero
  have ht : tt P.x P.y pzero.x pzero.y = 0 := by
    show dK*P.x*0*P.y*1 = 0
    grind
  rw [ht] at h1 h2
  have hx : pzero.x = 0 := rfl
  have hy : pzero.y = 1 := rfl
  rw [hx, hy] at h1 h2
  exact Pt.ext' (by grind) (by grind)
theorem zero_padd (P : Pt) : padd pzero P = P := by rw [padd_comm, padd_zero]
def pneg (P : Pt) : Pt := ⟨0 - P.x, P.y, by have := P.on; unfold On at *; grind⟩
theorem neg_ring (x y : K) : x*y + (0 - x)*y = 0 := by grind
theorem neg_ring' (x y d t : K) (e : y*y - x*x - 1 - d*(x*x)*(y*y) = 0) (h : t = d*x*(0 - x)*y*y) : y*y + x*(0 - x) = 1 - t := by grind
theorem padd_neg (P : Pt) : padd P (pneg P) = pzero := by
  have h1 : (padd P (pneg P)).x * (1 + tt P.x P.y (pneg P).x (pneg P).y) = 0 := by
    rw [padd_x]
    exact neg_ring P.x P.y
  have h2 : (padd P (pneg P)).y * (1 - tt P.x P.y (pneg P).x (pneg P).y) = 1 - tt P.x P.y (pneg P).x (pneg P).y := by
    rw [padd_y]
    exact neg_ring' P.x P.y dK _ P.on rfl
  refine Pt.ext' ((K.mul_zero' h1).resolve_right (tp_ne P (pneg P))) (K.cancel (tm_ne P (pneg P)) ?_)
  rw [Fin.mul_comm, h2]
  exact (K.mul_one' _).symm
theorem padd_assoc (P Q R : Pt) : padd (padd P Q) R = padd P (padd Q R) := by
  have a1 := padd_x P Q
  have a2 := padd_y P Q
  have b1 := padd_x Q R
  have b2 := padd_y Q R
  have c1 := padd_x (padd P Q) R
  have c2 := padd_y (padd P Q) R
  have d1 := padd_x P (padd Q R)
  have d2 := padd_y P (padd Q R)
  have na1 := tp_ne P Q
  have na2 := tm_ne P Q
  have nb1 := tp_ne Q R
  have nb2 := tm_ne Q R
  have nc1 := tp_ne (padd P Q) R
  have nc2 := tm_ne (padd P Q) R
  have nd1 := tp_ne P (padd Q R)
  have nd2 := tm_ne P (padd Q R)
  have ix := assoc_x dK P.x P.y Q.x Q.y R.x R.y P.on Q.on R.on
  have iy := assoc_y dK P.x P.y Q.x Q.y R.x R.y P.on Q.on R.on
  have t1 : tt P.x P.y Q.x Q.y = dK*P.x*Q.x*P.y*Q.y := rfl
  have t2 : tt Q.x Q.y R.x R.y = dK*Q.x*R.x*Q.y*R.y := rfl
  have t3 : tt (padd P Q).x (padd P Q).y R.x R.y = dK*(padd P Q).x*R.x*(padd P Q).y*R.y := rfl
  have t4 : tt P.x P.y (padd Q R).x (padd Q R).y = dK*P.x*(padd Q R).x*P.y*(padd Q R).y := rfl
  rw [← t1, ← t2] at ix iy
  rw [t3] at c1 c2 nc1 nc2
  rw [t4] at d1 d2 nd1 nd2
  rw [← a1, ← a2, ← b1, ← b2] at ix iy
  clear t1 t2 t3 t4 a1 a2 b1 b2
  generalize tt P.x P.y Q.x Q.y = t at *
  generalize tt Q.x Q.y R.x R.y = s at *
  refine Pt.ext' ?_ ?_
  · generalize (padd (padd P Q) R).x = X at *
    generalize (padd P (padd Q R)).x = Y at *
    generalize (padd P Q).x = x12 at *
    generalize (padd P Q).y = y12 at *
    generalize (padd Q R).x = x23 at *
    generalize (padd Q R).y = y23 at *
    have m1 := K.mul_ne (K.mul_ne na1 na2) nc1
    have m2 := K.mul_ne (K.mul_ne nb1 nb2) nd1
    refine K.cancel (K.mul_ne m1 m2) ?_
    exact assoc_end _ _ _ _ _ _ _ _ _ _ _ _ _ c1 d1 ix
  · generalize (padd (padd P Q) R).y = X at *
    generalize (padd P (padd Q R)).y = Y at *
    generalize (padd P Q).x = x12 at *
    generalize (padd P Q).y = y12 at *
    generalize (padd Q R).x = x23 at *
    generalize (padd Q R).y = y23 at *
    have m1 := K.mul_ne (K.mul_ne na1 na2) nc2
    have m2 := K.mul_ne (K.mul_ne nb1 nb2) nd2
    refine K.cancel (K.mul_ne m1 m2) ?_
    exact assoc_end' _ _ _ _ _ _ _ _ _ _ _ _ _ c2 d2 iy
end Go.Proofs.Ytbpmanbpmlkmnaa
