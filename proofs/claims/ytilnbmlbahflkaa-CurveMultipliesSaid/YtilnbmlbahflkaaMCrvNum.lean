/-
  curve: numbers of five limbs of 51 bits, and the elements of the field that they stand for.
-/
import Derived.Test.YtilnbmlbahflkaaMCrvField
import Derived.Test.YtilnbmlbahflkaaMPolyOps
namespace Go.Proofs.Ytilnbmlbahflkaa
open Go.RowKit
set_option linter.unusedVariables false

/-- The element that a whole number stands for. -/
def toK (v : Int) : K := ⟨(v % (pN : Int)).toNat, by
  have h1 := Int.emod_nonneg v (show (pN : Int) ≠ 0 by decide)
  have h2 := Int.emod_lt_of_pos v (show 0 < (pN : Int) by decide)
  omega⟩
theorem toK_int (v : Int) : ((toK v).val : Int) = v % (pN : Int) := by
  have h1 := Int.emod_nonneg v (show (pN : Int) ≠ 0 by decide)
  show (((v % (pN : Int)).toNat : Nat) : Int) = _
  omega
theorem K.ext_int {a b : K} (h : (a.val : Int) = (b.val : Int)) : a = b := K.ext' (by omega)
theorem K.mul_int (a b : K) : ((a * b).val : Int) = (a.val : Int) * (b.val : Int) % (pN : Int) := by
  rw [K.mul_val]
  simp
theorem K.add_int (a b : K) : ((a + b).val : Int) = ((a.val : Int) + (b.val : Int)) % (pN : Int) := by
  rw [Fin.val_add]
  simp
theorem toK_mul (a b : Int) : toK (a * b) = toK a * toK b := K.ext_int (by
  rw [K.mul_int, toK_int, toK_int, toK_int, ← Int.mul_emod])
theorem toK_add (a b : Int) : toK (a + b) = toK a + toK b := K.ext_int (by
  rw [K.add_int, toK_int, toK_int, toK_int, ← Int.add_emod])
theorem sub_ring {a b c : K} (h : a + b = c) : a = c - b := by grind
theorem toK_sub (a b : Int) : toK (a - b) = toK a - toK b := sub_ring (by rw [← toK_add, Int.sub_add_cancel])
theorem toK_p (t : Int) : toK (t * (pN : Int)) = 0 := K.ext_int (by
  rw [toK_int, Int.mul_emod_left]
  rfl)
theorem toK_cong {a b t : Int} (h : a + t * (pN : Int) = b) : toK a = toK b := by
  rw [← h, toK_add, toK_p, Fin.add_zero]
theorem toK_lit0 : toK 0 = 0 := by decide +kernel
theorem toK_lit1 : toK 1 = 1 := by decide +kernel
theorem toK_litF : toK 121665 = 121665 := by decide +kernel
theorem pN_int : (pN : Int) = 57896044618658097711785492504343953926634992332820282019728792003956564819949 := rfl
/-- The base of the limbs. -/
def B51 : Int := 2251799813685248
theorem B51_pos : 0 < B51 := by decide
theorem num51 (a b c d e : Int) : num B51 [a, b, c, d, e] = a + 2251799813685248 * b + 5070602400912917605986812821504 * c + 11417981541647679048466287755595961091061972992 * d + 25711008708143844408671393477458601640355247900524685364822016 * e := by
  simp only [num, B51]; omega
/-- The element that five limbs stand for. -/
def fe (L : List Int) : K := toK (num B51 L)
/-- Five limbs below m. -/
structure Lw (m : Int) (L : List Int) : Prop where
  len : L.length = 5
  rng : ∀ x ∈ L, 0 ≤ x ∧ x < m
theorem Lw.mono {m m' : Int} {L : List Int} (h : Lw m L) (hm : m ≤ m') : Lw m' L := ⟨h.len, fun x hx => by have := h.rng x hx; omega⟩
theorem Lw.get {m : Int} {L : List Int} (h : Lw m L) (j : Nat) (hj : j < 5) : 0 ≤ L.getD j 0 ∧ L.getD j 0 < m := h.rng _ (by
  have := h.len
  rw [List.getD_eq_getElem?_getD]
  simp [show j < L.length by omega])
theorem Lw.of {m a b c d e : Int} (h0 : 0 ≤ a ∧ a < m) (h1 : 0 ≤ b ∧ b < m) (h2 : 0 ≤ c ∧ c < m) (h3 : 0 ≤ d ∧ d < m) (h4 : 0 ≤ e ∧ e < m) : Lw m [a, b, c, d, e] := ⟨rfl, by
  intro x hx
  simp at hx
  rcases hx with rfl | rfl | rfl | rfl | rfl <;> assumption⟩
theorem Lw.out {m : Int} {L : List Int} (h : Lw m L) : ∃ a b c d e, L = [a, b, c, d, e] ∧ (0 ≤ a ∧ a < m) ∧ (0 ≤ b ∧ b < m) ∧ (0 ≤ c ∧ c < m) ∧ (0 ≤ d ∧ d < m) ∧ (0 ≤ e ∧ e < m) := by
  obtain ⟨a, b, c, d, e, rfl⟩ := five L h.len
  have := h.rng
  exact ⟨a, b, c, d, e, rfl, this a (by simp), this b (by simp), this c (by simp), this d (by simp), this e (by simp)⟩
/-- What a limb of a product may be, and of a sum. -/
def m1 : Int := 2251799813687296
def m2 : Int := 9007199254740992
theorem infoE0 : (Try.prog.info? 42).map (·.size) = some 5 := by kernel_rfl
theorem infoU64c : (Try.prog.info? 40).map (fun i => (i.zero, i.size, i.bytes)) = some (some (.int .u64 0), 1, 8) := by kernel_rfl
theorem infoE (l : List Int) (h : l.length = 5) : (Try.prog.info? 42).map (·.size) = some (ints .u64 l).size := by rw [infoE0, ints_size, h]
theorem zero5 (l : List Int) (h : l.length = 5) : (ints .u64 (List.replicate 5 (0 : Int))).size = (ints .u64 l).size := by rw [ints_size, ints_size, h]; rfl
/-- The limbs of a sum. -/
theorem add_lw {A B : List Int} (hA : Lw m1 A) (hB : Lw m1 B) : Lw m2 (addL A B) := by
  obtain ⟨a, b, c, d, e, rfl, h0, h1, h2, h3, h4⟩ := hA.out
  obtain ⟨a', b', c', d', e', rfl, k0, k1, k2, k3, k4⟩ := hB.out
  simp only [addL, List.zipWith_cons_cons, List.zipWith_nil_left]
  unfold m1 at *
  unfold m2
  exact Lw.of (by omega) (by omega) (by omega) (by omega) (by omega)
theorem add_fe {A B : List Int} (hA : A.length = 5) (hB : B.length = 5) : fe (addL A B) = fe A + fe B := by
  unfold fe
  rw [addL_num _ _ _ (by omega), toK_add]
/-- The limbs of a difference, ahead of the last step. -/
def subT (y : Int) : Int := 4503599627370494 - y
def subL (A B : List Int) : List Int := (addL A (B.map subT)).set 0 ((addL A (B.map subT)).getD 0 0 - 36)
theorem sub_lw {A B : List Int} (hA : Lw m1 A) (hB : Lw m1 B) : Lw m2 (subL A B) := by
  obtain ⟨a, b, c, d, e, rfl, h0, h1, h2, h3, h4⟩ := hA.out
  obtain ⟨a', b', c', d', e', rfl, k0, k1, k2, k3, k4⟩ := hB.out
  simp only [subL, addL, List.map_cons, List.map_nil, List.zipWith_cons_cons, List.zipWith_nil_left, List.set_cons_zero, List.getD_cons_zero, subT]
  unfold m1 at *
  unfold m2
  exact Lw.of (by omega) (by omega) (by omega) (by omega) (by omega)
theorem sub_fe {A B : List Int} (hA : Lw m1 A) (hB : Lw m1 B) : fe (subL A B) = fe A - fe B := by
  unfold fe
  rw [← toK_sub]
  refine (toK_cong (t := 2) ?_).symm
  obtain ⟨a, b, c, d, e, rfl, h0, h1, h2, h3, h4⟩ := hA.out
  obtain ⟨a', b', c', d', e', rfl, k0, k1, k2, k3, k4⟩ := hB.out
  simp only [subL, addL, List.map_cons, List.map_nil, List.zipWith_cons_cons, List.zipWith_nil_left, List.set_cons_zero, List.getD_cons_zero, subT]
  rw [num51, num51, num51, pN_int]
  omega
end Go.Proofs.Ytilnbmlbahflkaa
