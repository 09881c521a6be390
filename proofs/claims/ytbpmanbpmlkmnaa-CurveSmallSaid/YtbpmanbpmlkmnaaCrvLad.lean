/-
  The ladder: what it computes, told by the group of the curve.
-/
import Derived.Test.YtbpmanbpmlkmnaaCrvGroup
namespace Go.Proofs.Ytbpmanbpmlkmnaa
set_option linter.unusedVariables false

/-- Multiples. -/
def pmul : Nat → Pt → Pt
  | 0, _ => pzero
  | n + 1, P => padd (pmul n P) P
theorem pmul_add (m n : Nat) (P : Pt) : pmul (m + n) P = padd (pmul m P) (pmul n P) := by
  induction n with
  | zero => exact (padd_zero _).symm
  | succ n ih => show padd (pmul (m + n) P) P = padd (pmul m P) (padd (pmul n P) P); rw [ih, padd_assoc]
theorem pmul_mul (m n : Nat) (P : Pt) : pmul (m * n) P = pmul m (pmul n P) := by
  induction m with
  | zero => rw [Nat.zero_mul]; rfl
  | succ m ih => rw [Nat.succ_mul, pmul_add, ih]; rfl
theorem pmul_zero' (n : Nat) : pmul n pzero = pzero := by
  induction n with
  | zero => rfl
  | succ n ih => show padd (pmul n pzero) pzero = _; rw [ih, padd_zero]
theorem pmul_comm (m n : Nat) (P : Pt) : pmul m (pmul n P) = pmul n (pmul m P) := by
  rw [← pmul_mul, ← pmul_mul, Nat.mul_comm]
theorem dif_sq (x : K) : (1 - x) * (1 + x) = 1 - x * x := by grind
theorem minus_ring (d x : K) : (1 + d) * x = 0 - (1 - x - 1 - d * x) := by grind
theorem from_zero (d x : K) (h : 0*0 - x - 1 - d*x*(0*0) = 0) : x = 0 - 1 := by
  have e : 1 + x = 0 - (0*0 - x - 1 - d*x*(0*0)) := by clear h; grind
  rw [h] at e
  exact K.neg_one' (by rw [e]; decide +kernel) (by decide +kernel)
/-- The pair with y = -1 is its own counterpart. -/
theorem two_minus (P : Pt) (h : P.y = 0 - 1) : padd P P = pzero := by
  have hx : P.x = 0 := by
    have e := P.on
    unfold On at e
    rw [h] at e
    have hd : 1 + dK ≠ 0 := by decide +kernel
    have e2 : (1 + dK) * (P.x * P.x) = 0 := by
      have h1 : ((0 : K) - 1) * (0 - 1) = 1 := by decide +kernel
      rw [h1] at e
      have : (1 + dK) * (P.x * P.x) = 0 - (1 - P.x * P.x - 1 - dK * (P.x * P.x) * 1) := by rw [K.mul_one']; exact minus_ring dK (P.x * P.x)
      rw [this, e]
      decide +kernel
    rcases K.mul_zero' e2 with h | h
    · exact absurd h hd
    · exact (K.mul_zero' h).elim id id
  have hP : pneg P = P := Pt.ext' (by show 0 - P.x = P.x; rw [hx]; decide +kernel) rfl
  have := padd_neg P
  rw [hP] at this
  exact this
theorem pmul_even (n : Nat) (P : Pt) (h : P.y = 0 - 1) : pmul (2 * n) P = pzero := by
  rw [Nat.mul_comm, pmul_mul]
  have : pmul 2 P = pzero := by show padd (padd pzero P) P = pzero; rw [zero_padd, two_minus P h]
  rw [this, pmul_zero']

/-- X and Z stand for a pair. -/
structure Rep (X Z : K) (P : Pt) : Prop where
  ne : X + Z ≠ 0
  eq : X - Z = P.y * (X + Z)
theorem w_ne (P : Pt) : 121666 - 121665 * (P.y * P.y) ≠ 0 := by
  intro h
  have hd : dK * (P.y * P.y) = iK * iK := by
    refine K.cancel n121666_ne ?_
    have h1 := dK_eq
    have h2 := iK_eq
    generalize dK = d at *
    generalize iK = i at *
    generalize P.y * P.y = z at *
    have e1 : 121666 * (d * z) = (121666 * d + 121665) * z + (121666 - 121665 * z) - 121666 := by clear h h1 h2; grind
    have e2 : 121666 * (i * i) = 121666 * (i * i + 1) - 121666 := by clear h h1 h2; grind
    rw [e1, e2, h1, h2, h, Fin.zero_mul, Fin.mul_zero]
    rfl
  have := d_nonsq _ _ hd
  rw [this, Fin.mul_zero, Fin.mul_zero] at h
  revert h
  decide +kernel
theorem dbl_sum (A y w t : K) (hw : w = 121666 - 121665 * (y*y)) (h : w * (1 - t) = w + 121665 * ((y*y) - 1) * (y*y)) :
    A*A*((y*A)*(y*A)) + (A*A - (y*A)*(y*A)) * (A*A + 121665 * (A*A - (y*A)*(y*A))) = (A*A)*(A*A)*(w * (1 - t)) := by
  rw [h, hw]; clear h hw; grind
theorem dbl_dif (A y w x : K) (hw : w = 121666 - 121665 * (y*y)) (h : w * (x*x) = 121666 * ((y*y) - 1)) :
    A*A*((y*A)*(y*A)) - (A*A - (y*A)*(y*A)) * (A*A + 121665 * (A*A - (y*A)*(y*A))) = (A*A)*(A*A)*(w * (y*y + x*x)) := by
  have e : w * (y*y + x*x) = w * (y*y) + w * (x*x) := by clear h hw; grind
  rw [e, h, hw]; clear h hw e; grind
/-- A pair doubled. -/
theorem Rep.dbl {X Z : K} {P : Pt} (h : Rep X Z P) : Rep ((X+Z)*(X+Z)*((X-Z)*(X-Z))) (((X+Z)*(X+Z) - (X-Z)*(X-Z)) * ((X+Z)*(X+Z) + 121665 * ((X+Z)*(X+Z) - (X-Z)*(X-Z)))) (padd P P) := by
  obtain ⟨hn, he⟩ := h
  rw [he]
  generalize X + Z = A at *
  clear he
  have hw := w_ne P
  have hon := P.on
  have hd := dK_eq
  have ht : tt P.x P.y P.x P.y = dK*P.x*P.x*P.y*P.y := rfl
  have hy := padd_y P P
  have htn := tm_ne P P
  unfold On at hon
  generalize hS : padd P P = S at *
  generalize hT : tt P.x P.y P.x P.y = t at *
  have hx2 : (121666 - 121665 * (P.y*P.y)) * (P.x*P.x) = 121666 * ((P.y*P.y) - 1) := by
    have e : (121666 - 121665 * (P.y*P.y)) * (P.x*P.x) - 121666 * ((P.y*P.y) - 1) = 0 - 121666 * (P.y*P.y - P.x*P.x - 1 - dK*(P.x*P.x)*(P.y*P.y)) - (121666 * dK + 121665) * ((P.x*P.x) * (P.y*P.y)) := by
      clear hon hd hw hn ht hT hy htn hS; grind
    rw [hon, hd, Fin.mul_zero, Fin.zero_mul] at e
    exact K.sub_zero' (by rw [e]; decide +kernel)
  have ht2 : (121666 - 121665 * (P.y*P.y)) * (1 - t) = (121666 - 121665 * (P.y*P.y)) + 121665 * ((P.y*P.y) - 1) * (P.y*P.y) := by
    have e : (121666 - 121665 * (P.y*P.y)) * (1 - t) = (121666 - 121665 * (P.y*P.y)) - (121666 - 121665 * (P.y*P.y)) * (P.x*P.x) * (dK * (P.y*P.y)) := by
      rw [ht]; clear hon hd hw hn ht hT hy htn hS hx2; grind
    have e3 : 121666 * ((P.y*P.y) - 1) * (dK * (P.y*P.y)) = (121666 * dK + 121665) * (((P.y*P.y) - 1) * (P.y*P.y)) - 121665 * ((P.y*P.y) - 1) * (P.y*P.y) := by
      clear hon hd hw hn ht hT hy htn hS hx2 e; grind
    rw [e, hx2, e3, hd, Fin.zero_mul]
    clear e e3 hon hd hw hn ht hT hy htn hS hx2
    grind
  have hsum := dbl_sum A P.y _ t rfl ht2
  have hdif := dbl_dif A P.y _ P.x rfl hx2
  constructor
  · rw [hsum]
    exact K.mul_ne (K.mul_ne (K.mul_ne hn hn) (K.mul_ne hn hn)) (K.mul_ne hw htn)
  · rw [hsum, hdif, ← hy]
    generalize 121666 - 121665 * (P.y*P.y) = w
    clear hsum hdif ht2 hx2 hon hd hn hw htn hy hT ht hS
    grind

theorem dif_ring (d x1 y1 x2 y2 : K) (e1 : y1*y1 - x1*x1 - 1 - d*(x1*x1)*(y1*y1) = 0) (e2 : y2*y2 - x2*x2 - 1 - d*(x2*x2)*(y2*y2) = 0) (t : K) (ht : t = d*x1*x2*y1*y2) :
    (y1*y2 + x1*x2) * ((y1*y1 + y2*y2) * (1 + t) - 2 * (y1*y2 - x1*x2) * (y1*y2)) = (1 - t) * (2 * (y1*y2) * (1 + t) - (y1*y2 - x1*x2) * (y1*y1 + y2*y2)) := by
  have h : (y1*y2 + x1*x2) * ((y1*y1 + y2*y2) * (1 + t) - 2 * (y1*y2 - x1*x2) * (y1*y2)) - (1 - t) * (2 * (y1*y2) * (1 + t) - (y1*y2 - x1*x2) * (y1*y1 + y2*y2)) = (0 - 2 * (x2*x2) * (y1*y2) * (d*(y2*y2) + 1)) * (y1*y1 - x1*x1 - 1 - d*(x1*x1)*(y1*y1)) + (0 - 2 * (y1*y2) * (y1*y1 - 1)) * (y2*y2 - x2*x2 - 1 - d*(x2*x2)*(y2*y2)) := by
    rw [ht]; clear e1 e2 ht; grind
  rw [e1, e2, K.zero2] at h
  exact K.sub_zero' h
theorem sum_ring (A C y1 y2 u yD : K) (hu : u * (1 - yD) = 1 + yD) :
    ((1 - yD) * (((y2*C)*A + C*(y1*A)) * ((y2*C)*A + C*(y1*A)) + u * (((y2*C)*A - C*(y1*A)) * ((y2*C)*A - C*(y1*A)))) = 2 * ((A*C)*(A*C)) * ((y1*y1 + y2*y2) - 2 * yD * (y1*y2))) ∧
    ((1 - yD) * (((y2*C)*A + C*(y1*A)) * ((y2*C)*A + C*(y1*A)) - u * (((y2*C)*A - C*(y1*A)) * ((y2*C)*A - C*(y1*A)))) = 2 * ((A*C)*(A*C)) * (2 * (y1*y2) - yD * (y1*y1 + y2*y2))) := by
  constructor
  · have e : (1 - yD) * (((y2*C)*A + C*(y1*A)) * ((y2*C)*A + C*(y1*A)) + u * (((y2*C)*A - C*(y1*A)) * ((y2*C)*A - C*(y1*A)))) = (1 - yD) * (((y2*C)*A + C*(y1*A)) * ((y2*C)*A + C*(y1*A))) + (u * (1 - yD)) * (((y2*C)*A - C*(y1*A)) * ((y2*C)*A - C*(y1*A))) := by clear hu; grind
    rw [e, hu]; clear e hu; grind
  · have e : (1 - yD) * (((y2*C)*A + C*(y1*A)) * ((y2*C)*A + C*(y1*A)) - u * (((y2*C)*A - C*(y1*A)) * ((y2*C)*A - C*(y1*A)))) = (1 - yD) * (((y2*C)*A + C*(y1*A)) * ((y2*C)*A + C*(y1*A))) - (u * (1 - yD)) * (((y2*C)*A - C*(y1*A)) * ((y2*C)*A - C*(y1*A))) := by clear hu; grind
    rw [e, hu]; clear e hu; grind
/-- The sum of two pairs whose difference is known. -/
theorem Rep.sum {X Z X' Z' u : K} {P Q D : Pt} (h : Rep X Z P) (h' : Rep X' Z' Q) (hD : padd Q (pneg P) = D ∨ padd P (pneg Q) = D) (h1 : D.y ≠ 1) (h2 : D.y ≠ 0 - 1) (hu : u * (1 - D.y) = 1 + D.y) :
    Rep (((X'-Z')*(X+Z) + (X'+Z')*(X-Z)) * ((X'-Z')*(X+Z) + (X'+Z')*(X-Z))) (u * (((X'-Z')*(X+Z) - (X'+Z')*(X-Z)) * ((X'-Z')*(X+Z) - (X'+Z')*(X-Z)))) (padd P Q) := by
  obtain ⟨hn, he⟩ := h
  obtain ⟨hn', he'⟩ := h'
  rw [he, he']
  generalize X + Z = A at *
  generalize X' + Z' = C at *
  clear he he'
  have hyD : D.y * (1 + tt P.x P.y Q.x Q.y) = P.y*Q.y - P.x*Q.x := by
    have key : ∀ P Q : Pt, (padd Q (pneg P)).y * (1 + tt P.x P.y Q.x Q.y) = P.y*Q.y - P.x*Q.x := by
      intro P Q
      have h := padd_y Q (pneg P)
      have h3 : tt Q.x Q.y (pneg P).x (pneg P).y = 0 - tt P.x P.y Q.x Q.y := by
        show dK*Q.x*(0 - P.x)*Q.y*P.y = 0 - dK*P.x*Q.x*P.y*Q.y
        clear h; grind
      have h4 : 1 - (0 - tt P.x P.y Q.x Q.y) = 1 + tt P.x P.y Q.x Q.y := by clear h h3; grind
      have h5 : Q.y * (pneg P).y + Q.x * (pneg P).x = P.y*Q.y - P.x*Q.x := by
        show Q.y * P.y + Q.x * (0 - P.x) = P.y*Q.y - P.x*Q.x
        clear h h3 h4; grind
      rw [h3, h4, h5] at h
      exact h
    rcases hD with rfl | rfl
    · exact key P Q
    · have h := key Q P
      have h3 : tt P.x P.y Q.x Q.y = tt Q.x Q.y P.x P.y := by unfold tt; clear h; grind
      have h4 : P.y*Q.y - P.x*Q.x = Q.y*P.y - Q.x*P.x := by clear h h3; grind
      rw [h3, h4]
      exact h
  have hyS := padd_y P Q
  have np := tp_ne P Q
  have nm := tm_ne P Q
  have hr := dif_ring dK P.x P.y Q.x Q.y P.on Q.on _ rfl
  have ht : tt P.x P.y Q.x Q.y = dK*P.x*Q.x*P.y*Q.y := rfl
  rw [← ht] at hr
  have hon1 := P.on
  have hon2 := Q.on
  unfold On at hon1 hon2
  obtain ⟨s1, s2⟩ := sum_ring A C P.y Q.y u D.y hu
  have nD : 1 - D.y ≠ 0 := fun h => h1 (K.sub_zero' h).symm
  generalize padd P Q = S at *
  generalize tt P.x P.y Q.x Q.y = t at *
  clear hD
  -- the equation that the two sums keep
  have hkey : S.y * ((P.y*P.y + Q.y*Q.y) - 2 * D.y * (P.y*Q.y)) = 2 * (P.y*Q.y) - D.y * (P.y*P.y + Q.y*Q.y) := by
    refine K.cancel (K.mul_ne nm np) ?_
    have e1 : (1 - t) * (1 + t) * (S.y * ((P.y*P.y + Q.y*Q.y) - 2 * D.y * (P.y*Q.y))) = (S.y * (1 - t)) * ((P.y*P.y + Q.y*Q.y) * (1 + t) - 2 * (D.y * (1 + t)) * (P.y*Q.y)) := by
      clear hyD hyS hr s1 s2 hu hon1 hon2 ht; grind
    have e2 : (1 - t) * (1 + t) * (2 * (P.y*Q.y) - D.y * (P.y*P.y + Q.y*Q.y)) = (1 - t) * (2 * (P.y*Q.y) * (1 + t) - (D.y * (1 + t)) * (P.y*P.y + Q.y*Q.y)) := by
      clear hyD hyS hr s1 s2 hu hon1 hon2 ht e1; grind
    rw [e1, e2, hyD, hyS]
    exact hr
  -- it is not 0
  have hnz : (P.y*P.y + Q.y*Q.y) - 2 * D.y * (P.y*Q.y) ≠ 0 := by
    intro h0
    rw [h0, Fin.mul_zero] at hkey
    have a1 : P.y*P.y + Q.y*Q.y = D.y * (2 * (P.y*Q.y)) := by
      have : P.y*P.y + Q.y*Q.y = ((P.y*P.y + Q.y*Q.y) - 2 * D.y * (P.y*Q.y)) + D.y * (2 * (P.y*Q.y)) := by
        clear hkey hyD hyS hr s1 s2 hu hon1 hon2 ht h0; grind
      rw [this, h0, Fin.zero_add]
    have a2 : 2 * (P.y*Q.y) = D.y * (P.y*P.y + Q.y*Q.y) := K.sub_zero' hkey.symm
    have nDD : (1 - D.y) * (1 + D.y) ≠ 0 := K.mul_ne nD (fun h => h2 (K.neg_one' h (by decide +kernel)))
    have a3 : (1 - D.y) * (1 + D.y) * (P.y*P.y + Q.y*Q.y) = 0 := by
      have : (1 - D.y) * (1 + D.y) * (P.y*P.y + Q.y*Q.y) = (P.y*P.y + Q.y*Q.y) - D.y * (D.y * (P.y*P.y + Q.y*Q.y)) := by
        clear hkey hyD hyS hr s1 s2 hu hon1 hon2 ht h0 a1 a2; grind
      rw [this, ← a2, ← a1]
      clear hkey hyD hyS hr s1 s2 hu hon1 hon2 ht h0 a1 a2 this
      grind
    have a4 := (K.mul_zero' a3).resolve_left nDD
    rw [a4, Fin.mul_zero] at a2
    have a5 := (K.mul_zero' a2).resolve_left two_ne
    have hy1 : P.y = 0 ∧ Q.y = 0 := by
      rcases K.mul_zero' a5 with h | h
      · rw [h, Fin.zero_mul, Fin.zero_add] at a4
        exact ⟨h, (K.mul_zero' a4).elim id id⟩
      · rw [h, Fin.zero_mul, Fin.add_zero] at a4
        exact ⟨(K.mul_zero' a4).elim id id, h⟩
    obtain ⟨z1, z2⟩ := hy1
    rw [z1] at hon1 ht hyD
    rw [z2] at hon2 ht hyD
    have b1 : P.x*P.x = 0 - 1 := from_zero _ _ hon1
    have b2 : Q.x*Q.x = 0 - 1 := from_zero _ _ hon2
    have b3 : t = 0 := by rw [ht]; clear hon1 hon2 ht hyD hkey a1 a2 a3 a4 a5 hyS hr s1 s2 hu h0 z1 z2 b1 b2; grind
    rw [b3] at hyD
    have b4 : D.y = 0 - P.x*Q.x := by clear hon1 hon2 ht hkey a1 a2 a3 a4 a5 hyS hr s1 s2 hu h0 z1 z2 b1 b2; grind
    have b5 : D.y * D.y = (P.x*P.x) * (Q.x*Q.x) := by rw [b4]; clear hon1 hon2 ht hkey a1 a2 a3 a4 a5 hyS hr s1 s2 hu h0 z1 z2 b1 b2 b4 hyD; grind
    rw [b1, b2] at b5
    have b6 : ((0 : K) - 1) * (0 - 1) = 1 := by decide +kernel
    rw [b6] at b5
    have b7 : (1 - D.y) * (1 + D.y) = 1 - D.y * D.y := dif_sq _
    rw [b7, b5] at nDD
    exact nDD (by decide +kernel)
  have nAC : 2 * ((A*C)*(A*C)) ≠ 0 := K.mul_ne two_ne (K.mul_ne (K.mul_ne hn hn') (K.mul_ne hn hn'))
  generalize ((Q.y*C)*A + C*(P.y*A)) * ((Q.y*C)*A + C*(P.y*A)) = M at *
  generalize u * (((Q.y*C)*A - C*(P.y*A)) * ((Q.y*C)*A - C*(P.y*A))) = N at *
  constructor
  · intro h
    rw [h, Fin.mul_zero] at s1
    exact K.mul_ne nAC hnz s1.symm
  · refine K.cancel nD ?_
    have e : (1 - D.y) * (S.y * (M + N)) = S.y * ((1 - D.y) * (M + N)) := by clear s1 s2 hu hkey hr hyD hyS ht hon1 hon2; grind
    rw [s2, e, s1, ← hkey]
    clear s1 s2 hu hkey hr hyD hyS ht hon1 hon2 e
    grind
end Go.Proofs.Ytbpmanbpmlkmnaa
