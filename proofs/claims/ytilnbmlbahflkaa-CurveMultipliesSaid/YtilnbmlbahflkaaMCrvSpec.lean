/-
  What chapter 14 computes: the ladder, and its result.
-/
import Derived.Test.YtilnbmlbahflkaaMCrvNum
import Derived.Test.YtilnbmlbahflkaaMCrvBits
namespace Go.Proofs.Ytilnbmlbahflkaa
open Go.RowKit
set_option linter.unusedVariables false

/-- One step of the ladder. -/
def stX2 (x2 z2 : K) : K := ((x2+z2)*(x2+z2)) * ((x2-z2)*(x2-z2))
def stZ2 (x2 z2 : K) : K := ((x2+z2)*(x2+z2) - (x2-z2)*(x2-z2)) * ((x2+z2)*(x2+z2) + 121665 * ((x2+z2)*(x2+z2) - (x2-z2)*(x2-z2)))
def stX3 (x2 z2 x3 z3 : K) : K := ((x3-z3)*(x2+z2) + (x3+z3)*(x2-z2)) * ((x3-z3)*(x2+z2) + (x3+z3)*(x2-z2))
def stZ3 (u x2 z2 x3 z3 : K) : K := u * (((x3-z3)*(x2+z2) - (x3+z3)*(x2-z2)) * ((x3-z3)*(x2+z2) - (x3+z3)*(x2-z2)))
/-- The state of the ladder. -/
structure Lad where
  a : K
  b : K
  c : K
  d : K
def lswp (t : Int) (s : Lad) : Lad := ⟨if t = 1 then s.c else s.a, if t = 1 then s.d else s.b, if t = 1 then s.a else s.c, if t = 1 then s.b else s.d⟩
def lstp (u : K) (s : Lad) : Lad := ⟨stX2 s.a s.b, stZ2 s.a s.b, stX3 s.a s.b s.c s.d, stZ3 u s.a s.b s.c s.d⟩
/-- The bit i of the bytes of a number. -/
def bitK (k : List Int) (i : Nat) : Int := k.getD (i / 8) 0 / 2 ^ (i % 8) % 2
theorem bitK_rng (k : List Int) (i : Nat) : bitK k i = 0 ∨ bitK k i = 1 := by unfold bitK; omega
def lad (u : K) (k : List Int) : Nat → Lad
  | 0 => ⟨1, 0, u, 1⟩
  | n + 1 => lswp (bitK k (254 - n)) (lstp u (lswp (bitK k (254 - n)) (lad u k n)))
theorem lad_succ (u : K) (k : List Int) (n : Nat) : lad u k (n + 1) = lswp (bitK k (254 - n)) (lstp u (lswp (bitK k (254 - n)) (lad u k n))) := rfl
/-- The scalar's bytes without the bits that do not count. -/
def clampK (s : List Int) : List Int := (s.set 0 (s.getD 0 0 - s.getD 0 0 % 8)).set 31 (s.getD 31 0 % 64 + 64)
theorem clampK_len (s : List Int) : (clampK s).length = s.length := by simp [clampK]
theorem clampK_rng (s : List Int) (h : ∀ x ∈ s, 0 ≤ x ∧ x ≤ 255) (hl : s.length = 32) : ∀ x ∈ clampK s, 0 ≤ x ∧ x ≤ 255 := by
  intro x hx
  have g0 := h (s.getD 0 0) (by rw [List.getD_eq_getElem?_getD]; simp [show 0 < s.length by omega])
  have g31 := h (s.getD 31 0) (by rw [List.getD_eq_getElem?_getD]; simp [show 31 < s.length by omega])
  unfold clampK at hx
  rcases List.mem_or_eq_of_mem_set hx with hx | rfl
  · rcases List.mem_or_eq_of_mem_set hx with hx | rfl
    · exact h x hx
    · omega
  · omega
/-- The number of a point's bytes. -/
def uK (p : List Int) : K := toK (num 256 p % 2 ^ 255)
def endK (u : K) (k : List Int) : K := (lad u k 255).a * kinv (lad u k 255).b
/-- The product's bytes. -/
def mulB (s p : List Int) : List Int := dig 256 32 ((endK (uK p) (clampK s)).val : Int)
theorem mulB_len (s p : List Int) : (mulB s p).length = 32 := dig_len _ _ _
theorem mulB_rng (s p : List Int) : ∀ y ∈ mulB s p, 0 ≤ y ∧ y ≤ 255 := fun y hy => by have := dig_rng 256 (by decide) _ _ y hy; omega
theorem mulB_num (s p : List Int) : num 256 (mulB s p) = ((endK (uK p) (clampK s)).val : Int) := by
  unfold mulB
  have h := (endK (uK p) (clampK s)).isLt
  have hp : (pN : Int) = 57896044618658097711785492504343953926634992332820282019728792003956564819949 := rfl
  have hq : (256 : Int) ^ 32 = 115792089237316195423570985008687907853269984665640564039457584007913129639936 := by decide
  rw [num_dig 256 (by decide), Int.emod_eq_of_lt (by omega) (by omega)]
end Go.Proofs.Ytilnbmlbahflkaa
