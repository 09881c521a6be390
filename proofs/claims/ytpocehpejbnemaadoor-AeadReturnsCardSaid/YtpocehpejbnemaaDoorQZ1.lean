/-
  Poly1305: numbers as lists of digits in any base, the tag as a function on lists, and the arithmetic of the limbs.
  A block of whole numbers of one kind; an element of such an array.
  poly1305.carried: what it returns.
  poly1305.numberOf: the number of some bytes, the lowest one first.
  poly1305.marked and poly1305.sum.
  poly1305.product: the product modulo 2^130 - 5.
  poly1305.factor: the number r.
  poly1305.reduced and poly1305.lowest.
-/
import Derived.Test.YtpocehpejbnemaaDoorQZ0
import Derived.Test.YtpocehpejbnemaaDoorQPrfWb
import Derived.Test.YtpocehpejbnemaaDoorQBod
import Derived.Test.YtpocehpejbnemaaDoorQIs
import Derived.Deep.RegionHeld3
import Derived.Deep.Cut
import Derived.Deep.CutRange
import Derived.Laws.CopyOwn
namespace Go.Proofs.YtpocehpejbnemaaDoor
open Go.RowKit
set_option linter.unusedVariables false

/-- The number of digits in base b, the lowest one first. -/
def num (b : Int) : List Int → Int
  | [] => 0
  | x :: l => x + b * num b l
/-- The lowest n digits of a number in base b. -/
def dig (b : Int) : Nat → Int → List Int
  | 0, _ => []
  | n + 1, v => v % b :: dig b n (v / b)
theorem dig_len (b : Int) (n : Nat) (v : Int) : (dig b n v).length = n := by
  induction n generalizing v with
  | zero => rfl
  | succ n ih => simp [dig, ih]
theorem pow_pos' {b : Int} (hb : 0 < b) (n : Nat) : 0 < b ^ n := Int.pow_pos hb
theorem num_append (b : Int) (l m : List Int) : num b (l ++ m) = num b l + b ^ l.length * num b m := by
  induction l with
  | nil => simp [num]
  | cons x l ih => simp only [List.cons_append, num, ih, List.length_cons, Int.pow_succ]; grind
theorem num_take (b : Int) (l : List Int) (j : Nat) (hj : j < l.length) : num b (l.take (j + 1)) = num b (l.take j) + b ^ j * l.getD j 0 := by
  rw [List.take_succ_eq_append_getElem hj, num_append]
  have h1 : (l.take j).length = j := by simp; omega
  rw [h1]
  simp [num, List.getD_eq_getElem?_getD, hj]
theorem dig_succ (b : Int) (hb : 0 < b) (n : Nat) (v : Int) : dig b (n + 1) v = dig b n v ++ [v / b ^ n % b] := by
  induction n generalizing v with
  | zero => simp [dig]
  | succ n ih =>
    rw [dig, ih, dig, List.cons_append, Int.pow_succ, Int.ediv_ediv_of_nonneg (by omega), Int.mul_comm b]
theorem dig_add (b : Int) (hb : 0 < b) (n : Nat) (v u : Int) : dig b n (v + b ^ n * u) = dig b n v := by
  induction n generalizing v with
  | zero => rfl
  | succ n ih =>
    have e : v + b ^ (n + 1) * u = v + b * (b ^ n * u) := by rw [Int.pow_succ]; grind
    rw [dig, dig, e, Int.add_mul_emod_self_left, Int.add_mul_ediv_left _ _ (by omega), ih]
theorem num_dig (b : Int) (hb : 0 < b) (n : Nat) (v : Int) : num b (dig b n v) = v % b ^ n := by
  induction n generalizing v with
  | zero => simp [dig, num, Int.emod_one]
  | succ n ih =>
    rw [dig, num, ih]
    have hp := pow_pos' hb n
    have h1 := Int.mul_ediv_add_emod v b
    have h2 := Int.mul_ediv_add_emod (v / b) (b ^ n)
    have h3 : v / b / b ^ n = v / b ^ (n + 1) := by rw [Int.ediv_ediv_of_nonneg (by omega), Int.pow_succ, Int.mul_comm]
    have h4 := Int.mul_ediv_add_emod v (b ^ (n + 1))
    rw [h3] at h2
    rw [Int.pow_succ] at h2 h4 ⊢
    generalize v / (b ^ n * b) = q at *
    clear h3 ih
    generalize v / b = u at *
    generalize v % b = t at *
    generalize v % (b ^ n * b) = r at *
    generalize v / b % b ^ n = s at *
    grind
theorem dig_rng (b : Int) (hb : 0 < b) (n : Nat) (v : Int) : ∀ x ∈ dig b n v, 0 ≤ x ∧ x < b := by
  induction n generalizing v with
  | zero => intro x hx; cases hx
  | succ n ih =>
    intro x hx
    rcases List.mem_cons.1 hx with rfl | hx
    · exact ⟨Int.emod_nonneg _ (by omega), Int.emod_lt_of_pos _ hb⟩
    · exact ih _ x hx
theorem dig_num (b : Int) (hb : 0 < b) (l : List Int) (h : ∀ x ∈ l, 0 ≤ x ∧ x < b) : dig b l.length (num b l) = l := by
  induction l with
  | nil => rfl
  | cons x l ih =>
    have hx := h x (by simp)
    have hd : (x + b * num b l) / b = num b l := by
      rw [Int.add_mul_ediv_left _ _ (by omega), Int.ediv_eq_zero_of_lt hx.1 hx.2, Int.zero_add]
    rw [List.length_cons, dig, num, hd, ih (fun y hy => h y (by simp [hy])), Int.add_mul_emod_self_left, Int.emod_eq_of_lt hx.1 hx.2]
theorem num_nonneg {b : Int} (hb : 0 ≤ b) (l : List Int) (h : ∀ x ∈ l, 0 ≤ x) : 0 ≤ num b l := by
  induction l with
  | nil => exact Int.le_refl _
  | cons x l ih =>
    have := h x (by simp)
    have := Int.mul_nonneg hb (ih (fun y hy => h y (by simp [hy])))
    simp only [num]; omega
theorem num_lt {b : Int} (hb : 0 < b) (l : List Int) (h : ∀ x ∈ l, 0 ≤ x ∧ x < b) : num b l < b ^ l.length := by
  have := num_dig b hb l.length (num b l)
  rw [dig_num b hb l h] at this
  rw [this]
  exact Int.emod_lt_of_pos _ (pow_pos' hb _)
/-- One step of a carry: the digits so far. -/
theorem carry_dig (b c : Int) (hb : 0 < b) (l : List Int) (j : Nat) (hj : j < l.length) :
    dig b (j + 1) (num b (l.take (j + 1)) + c) = dig b j (num b (l.take j) + c) ++ [((num b (l.take j) + c) / b ^ j + l.getD j 0) % b] := by
  have e : num b (l.take j) + b ^ j * l.getD j 0 + c = num b (l.take j) + c + b ^ j * l.getD j 0 := by grind
  rw [dig_succ b hb, num_take b l j hj, e, dig_add b hb, Int.add_mul_ediv_left _ _ (by have := pow_pos' hb j; omega)]
/-- One step of a carry: what is carried out. -/
theorem carry_out (b c : Int) (hb : 0 < b) (l : List Int) (j : Nat) (hj : j < l.length) :
    (num b (l.take (j + 1)) + c) / b ^ (j + 1) = ((num b (l.take j) + c) / b ^ j + l.getD j 0) / b := by
  have e : num b (l.take j) + b ^ j * l.getD j 0 + c = num b (l.take j) + c + b ^ j * l.getD j 0 := by grind
  rw [num_take b l j hj, e, Int.pow_succ, ← Int.ediv_ediv_of_nonneg (by have := pow_pos' hb j; omega), Int.add_mul_ediv_left _ _ (by have := pow_pos' hb j; omega)]
theorem num_set (b : Int) (l : List Int) (j : Nat) (hj : j < l.length) (d : Int) : num b (l.set j (l.getD j 0 + d)) = num b l + b ^ j * d := by
  induction l generalizing j with
  | nil => simp at hj
  | cons x l ih =>
    cases j with
    | zero => simp [num]; omega
    | succ j =>
      have := ih j (by simpa using hj)
      simp only [List.set_cons_succ, num, List.getD_cons_succ, this, Int.pow_succ]
      grind
theorem set_mid (D L : List Int) (j : Nat) (z : Int) (hD : D.length = j) (hj : j < L.length) : (D ++ L.drop j).set j z = (D ++ [z]) ++ L.drop (j + 1) := by
  rw [List.set_append_right _ _ (by omega), hD, Nat.sub_self, List.drop_eq_getElem_cons hj, List.set_cons_zero]
  simp
theorem getD_mid (D L : List Int) (j : Nat) (hD : D.length = j) : (D ++ L.drop j).getD j 0 = L.getD j 0 := by
  rw [List.getD_eq_getElem?_getD, List.getD_eq_getElem?_getD, List.getElem?_append_right (by omega), hD, Nat.sub_self, List.getElem?_drop]
  simp

/-- The modulus. -/
def P130 : Int := 1361129467683753853853498429727072845819
/-- A piece with the bit above it. -/
def markS (p : List Int) : Int := num 256 p + 256 ^ p.length
/-- One step. -/
def stepP (r v : Int) (p : List Int) : Int := ((v + markS p) * r) % P130
/-- The first half of the key, without the bits that do not count. -/
def clampI (i : Nat) (x : Int) : Int := if i % 4 = 3 then x % 16 else if i % 4 = 0 ∧ 0 < i then x - x % 4 else x
def clampL (k : List Int) : Nat → List Int
  | 0 => []
  | n + 1 => clampL k n ++ [clampI n (k.getD n 0)]
theorem clampL_len (k : List Int) (n : Nat) : (clampL k n).length = n := by
  induction n with
  | zero => rfl
  | succ n ih => simp [clampL, ih]
theorem clampI_rng (i : Nat) (x : Int) (h : 0 ≤ x ∧ x ≤ 255) : 0 ≤ clampI i x ∧ clampI i x ≤ 255 := by
  unfold clampI; split
  · omega
  · split <;> omega
/-- The pieces of 16. -/
def pieces : Nat → List Int → List (List Int)
  | 0, _ => []
  | k + 1, b => pieces k b ++ [(b.drop (16 * k)).take 16]
theorem pieces_len (k : Nat) (b : List Int) : (pieces k b).length = k := by
  induction k with
  | zero => rfl
  | succ k ih => simp [pieces, ih]
def accS (r : Int) (b : List Int) (k : Nat) : Int := (pieces k b).foldl (stepP r) 0
theorem accS_succ (r : Int) (b : List Int) (k : Nat) : accS r b (k + 1) = stepP r (accS r b k) ((b.drop (16 * k)).take 16) := by
  unfold accS; rw [pieces, List.foldl_append]; rfl
theorem P130_pos : 0 < P130 := by decide
theorem accS_rng (r : Int) (b : List Int) (k : Nat) : 0 ≤ accS r b k ∧ accS r b k < P130 := by
  cases k with
  | zero => exact ⟨Int.le_refl _, P130_pos⟩
  | succ k => rw [accS_succ]; exact ⟨Int.emod_nonneg _ (by have := P130_pos; omega), Int.emod_lt_of_pos _ P130_pos⟩
/-- How many pieces there are. -/
def piecesN (n : Nat) : Nat := (n + 15) / 16
/-- The number r of a key. -/
def rS (key : List Int) : Int := num 256 (clampL key 16)
/-- The tag. -/
def tagS (key b : List Int) : List Int := dig 256 16 (accS (rS key) b (piecesN b.length) + num 256 (key.drop 16))
theorem tagS_len (key b : List Int) : (tagS key b).length = 16 := dig_len _ _ _
theorem tagS_rng (key b : List Int) : ∀ x ∈ tagS key b, 0 ≤ x ∧ x ≤ 255 := fun x hx => by
  have := dig_rng 256 (by omega) _ _ x hx
  omega
/-- The example of the chapter. -/
def polyKey : List Int := [0x85, 0xd6, 0xbe, 0x78, 0x57, 0x55, 0x6d, 0x33, 0x7f, 0x44, 0x52, 0xfe, 0x42, 0xd5, 0x06, 0xa8, 0x01, 0x03, 0x80, 0x8a, 0xfb, 0x0d, 0xb2, 0xfd, 0x4a, 0xbf, 0xf6, 0xaf, 0x41, 0x49, 0xf5, 0x1b]
def polyMsg : List Int := [67, 114, 121, 112, 116, 111, 103, 114, 97, 112, 104, 105, 99, 32, 70, 111, 114, 117, 109, 32, 82, 101, 115, 101, 97, 114, 99, 104, 32, 71, 114, 111, 117, 112]
def polyTag : List Int := [0xa8, 0x06, 0x1d, 0xc1, 0x30, 0x51, 0x36, 0xc6, 0xc2, 0x2b, 0x8b, 0xaf, 0x0c, 0x01, 0x27, 0xa9]
theorem poly_example : tagS polyKey polyMsg = polyTag := by decide +kernel
end Go.Proofs.YtpocehpejbnemaaDoor

namespace Go.Proofs.YtpocehpejbnemaaDoor
open Go.RowKit
set_option linter.unusedVariables false

/-- The cells of a list of numbers. -/
def ints (k : IntKind) (l : List Int) : Array Value := (l.map (Value.int k)).toArray
theorem ints_size (k : IntKind) (l : List Int) : (ints k l).size = l.length := by simp [ints]
/-- The block g holds just these numbers. -/
structure Wn (k : IntKind) (w : World) (g : Nat) (t : TypeId) (l : List Int) : Prop where
  heap : w.heap[g]? = some (.cells (ints k l) t (0, 0))
section
variable {k : IntKind} {w : World} {g : Nat} {t : TypeId} {l : List Int}
theorem Wn.lt (h : Wn k w g t l) : g < w.heap.size := (Array.getElem?_eq_some_iff.1 h.heap).1
theorem Wn.cell (h : Wn k w g t l) (j : Nat) (hj : j < l.length) : w.cell? ⟨g, j, none⟩ = some (.int k (l.getD j 0)) := by
  rw [cell_of_row w g j _ _ _ h.heap]
  simp [ints, List.getD_eq_getElem?_getD, hj]
theorem Wn.fr (h : Wn k w g t l) (j : Nat) : w.frozen? ⟨g, j, none⟩ = false := frozen_of_row w g j _ _ h.heap
theorem Wn.set (h : Wn k w g t l) (j : Nat) (v : Int) : Wn k (w.setCell ⟨g, j, none⟩ (.int k v)) g t (l.set j v) := by
  constructor
  rw [heap_setCell_same w g j _ _ _ h.heap]
  simp [ints, List.map_set]
theorem Wn.other (h : Wn k w g t l) (a : Addr) (v : Value) (hn : g ≠ a.block) : Wn k (w.setCell a v) g t l := ⟨by rw [Below.heap_setCell w a v g hn]; exact h.heap⟩
theorem Wn.row (h : Wn k w g t l) (m : List Int) : Wn k (w.setRow g (ints k m)) g t m := ⟨setRow_heap w g _ _ _ _ h.heap⟩
theorem Wn.rowOther (h : Wn k w g t l) (j : Nat) (cs : Array Value) (hn : g ≠ j) : Wn k (w.setRow j cs) g t l := ⟨by rw [setRow_other w j g cs hn]; exact h.heap⟩
theorem Wn.alloc (h : Wn k w g t l) (o : Obj) : Wn k (w.alloc o) g t l := ⟨by rw [Below.heap_alloc w o g h.lt]; exact h.heap⟩
theorem Wn.drew (h : Wn k w g t l) : Wn k w.drew g t l := ⟨h.heap⟩
theorem Wn.drewN (h : Wn k w g t l) (r : Nat) : Wn k (w.drewN r) g t l := ⟨h.heap⟩
theorem Wn.below {w' : World} (h : Wn k w g t l) (hb : Below w.heap.size w w') : Wn k w' g t l := ⟨by rw [hb.block g h.lt]; exact h.heap⟩
theorem Wn.belowN {w' : World} {B : Nat} (h : Wn k w g t l) (hb : Below B w w') (hg : g < B) : Wn k w' g t l := ⟨by rw [hb.block g hg]; exact h.heap⟩
theorem Wn.grown {w' : World} {row : Option Nat} (h : Wn k w g t l) (hg : w.grownBy w' row) (hn : some g ≠ row) : Wn k w' g t l := ⟨by rw [hg.block g h.lt hn]; exact h.heap⟩
theorem Wn.new (k : IntKind) (w : World) (t : TypeId) (l : List Int) (cs : Array Value) (hc : cs = ints k l) : Wn k (w.alloc (.cells cs t)) w.heap.size t l := ⟨by rw [heap_alloc_new]; rw [hc]⟩
theorem Wn.new' (k : IntKind) (w : World) (t : TypeId) (l : List Int) (cs : Array Value) (hc : cs = ints k l) (g : Nat) (hg : w.heap.size = g) : Wn k (w.alloc (.cells cs t)) g t l := by subst hg; exact Wn.new k w t l cs hc
theorem onek (k : IntKind) (l : List Int) : (ints k l).all (·.oneCell') = true := by
  simp [ints, Value.oneCell']
end
theorem heap_1st (w : World) (S : Array Value) (t : TypeId) (o : Obj) : ((w.alloc (.cells S t)).alloc o).heap[w.heap.size]? = some (.cells S t (0, 0)) := by
  rw [Below.heap_alloc _ _ _ (by simp), heap_alloc_new]
/-- An element of an array of numbers. -/
theorem run_indexN {k : IntKind} {P : Program} {t e : TypeId} {n : Nat} (ht : P.underlying t = some (.array n e)) (he : P.underlying e = some (.int k)) {i : TypeInfo} (hi : P.info? e = some i) (hs : i.size = 1) (l : List Int) (hl : l.length = n) (j : Nat) (hj : j < n) (w : World) :
    (Instr.index t (.agg (ints k l)) (.int .i64 j)).run P w = .ok (.int k (l.getD j 0)) w := by
  subst hl
  have h1 : (0 : Int) ≤ (j : Int) ∧ (j : Int) < (l.length : Int) := by omega
  have h2 : (Option.map (Value.int k) l[j]?) = some (.int k (l.getD j 0)) := by
    simp [List.getD_eq_getElem?_getD, hj]
  unfold Instr.index
  simp [asIntOf, run_underlying ht, run_underlying he, part, isAgg, sizeOf, typeInfo, hi, hs, ints, h2, Result.andThen]
  intro h
  omega
end Go.Proofs.YtpocehpejbnemaaDoor

namespace Go.Proofs.YtpocehpejbnemaaDoor
open Go.RowKit
set_option linter.unusedVariables false

theorem infoP : (Tryd.prog.info? 92).map (·.size) = some 5 := by kernel_rfl
theorem infoU64 : (Tryd.prog.info? 82).map (fun i => (i.zero, i.size, i.bytes)) = some (some (.int .u64 0), 1, 8) := by kernel_rfl
theorem infoL (l : List Int) (h : l.length = 5) : (Tryd.prog.info? 92).map (·.size) = some (ints .u64 l).size := by rw [infoP, ints_size, h]
/-- The base of the limbs. -/
def B26 : Int := 67108864
theorem B26_pos : 0 < B26 := by decide
/-- What carried returns. -/
def carriedL (L : List Int) : List Int := (dig B26 5 (num B26 L)).set 0 ((dig B26 5 (num B26 L)).getD 0 0 + num B26 L / B26 ^ 5 * 5)
theorem carriedL_len (L : List Int) : (carriedL L).length = 5 := by simp [carriedL, dig_len]
theorem and26 (x : Int) (h0 : 0 ≤ x) (h1 : x < 18446744073709551616) : bits .and .u64 x 67108863 = x % 67108864 :=
  bits_mask .u64 64 (by decide) (fun n h0 h1 => by rw [IntKind.wrap_u64]; omega) 26 (by decide) x h0 h1
/-- What is carried out of the first j limbs. -/
def outC (c : Int) (L : List Int) (j : Nat) : Int := (num B26 (L.take j) + c) / B26 ^ j
theorem outC_succ (c : Int) (L : List Int) (j : Nat) (hj : j < L.length) : outC c L (j + 1) = (L.getD j 0 + outC c L j) / 67108864 := by
  unfold outC
  rw [carry_out B26 c B26_pos L j hj, Int.add_comm]
  rfl
theorem outC_rng (c : Int) (h0 : 0 ≤ c) (h1 : c ≤ 5) (L : List Int) (h : ∀ x ∈ L, 0 ≤ x ∧ x < 4611686018427387904) (j : Nat) (hj : j ≤ L.length) : 0 ≤ outC c L j ∧ outC c L j < 137438953472 := by
  induction j with
  | zero => simp [outC, num]; omega
  | succ j ih =>
    have := ih (by omega)
    have hx := h (L.getD j 0) (by rw [List.getD_eq_getElem?_getD]; simp [show j < L.length by omega])
    rw [outC_succ c L j (by omega)]
    omega
theorem digC_succ (L : List Int) (j : Nat) (hj : j < L.length) : dig B26 (j + 1) (num B26 (L.take (j + 1))) = dig B26 j (num B26 (L.take j)) ++ [(L.getD j 0 + outC 0 L j) % 67108864] := by
  have := carry_dig B26 0 B26_pos L j hj
  simp only [Int.add_zero] at this
  rw [this]
  unfold outC
  rw [Int.add_zero, Int.add_comm]
  rfl
/-- What lies in the block of the number in the round j. -/
def midC (L : List Int) (j : Nat) : List Int := dig B26 j (num B26 (L.take j)) ++ L.drop j
theorem midC_zero (L : List Int) : midC L 0 = L := by simp [midC, dig]
theorem midC_len (L : List Int) (j : Nat) (hj : j ≤ L.length) : (midC L j).length = L.length := by simp [midC, dig_len]; omega
theorem midC_succ (L : List Int) (j : Nat) (hj : j < L.length) : (midC L j).set j ((L.getD j 0 + outC 0 L j) % 67108864) = midC L (j + 1) := by
  unfold midC
  rw [set_mid _ _ _ _ (dig_len _ _ _) hj, digC_succ L j hj]
theorem midC_end (L : List Int) (h : L.length = 5) : (midC L 5).set 0 ((midC L 5).getD 0 0 + outC 0 L 5 * 5) = carriedL L := by
  unfold midC carriedL outC
  rw [List.drop_of_length_le (by omega), List.append_nil, List.take_of_length_le (by omega), Int.add_zero]
theorem midC_nonneg (L : List Int) (h : L.length = 5) : 0 ≤ (midC L 5).getD 0 0 ∧ (midC L 5).getD 0 0 < 67108864 := by
  unfold midC
  rw [List.drop_of_length_le (by omega), List.append_nil, List.take_of_length_le (by omega), List.getD_eq_getElem?_getD]
  have h1 := dig_rng B26 B26_pos 5 (num B26 L)
  have h2 := dig_len B26 5 (num B26 L)
  generalize dig B26 5 (num B26 L) = D at *
  have := h1 (D[0]) (List.getElem_mem (by omega))
  simp [show 0 < D.length by omega]
  exact this

set_option maxHeartbeats 1600000 in
set_option maxRecDepth 100000 in
theorem carried_any (L : List Int) (hL : L.length = 5) (hr : ∀ x ∈ L, 0 ≤ x ∧ x < 4611686018427387904) (w : World) :
    Calls Tryd.prog 87 #[.agg (ints .u64 L)] w fun e w' => e = .returned (.agg (ints .u64 (carriedL L))) ∧ Below w.heap.size w w' := by
  obtain ⟨i0, hi0, hz0, hz1, hz2⟩ := info_parts infoU64
  have HIX := hidden (fun (j : Nat) (hj : j < 5) (w' : World) => run_indexN (k := .u64) (P := Tryd.prog) Tryd.underlying92 Tryd.underlying82 hi0 hz1 L hL j hj w')
  have HIS := hidden (infoL L hL)
  obtain ⟨R, hR⟩ : ∃ R, carriedL L = R := ⟨_, rfl⟩
  have hRl : R.length = 5 := by rw [← hR, carriedL_len]
  have HIR := hidden (infoL R hRl)
  have HZR : Hid ((ints .u64 (List.replicate 5 (0 : Int))).size = (ints .u64 R).size) := by show _ = _; rw [ints_size, ints_size, hRl]; rfl
  have HONER := hidden (onek .u64 R)
  have HM0 := Is.mk (midC_zero L)
  have HML := hidden (fun j (hj : j ≤ 5) => midC_len L j (by omega))
  have HMS := hidden (fun j (hj : j < 5) => midC_succ L j (by omega))
  have HME := Is.mk (midC_end L hL)
  have HMN := hidden (midC_nonneg L hL)
  have HOS := hidden (fun j (hj : j < 5) => outC_succ 0 L j (by omega))
  have HOR := hidden (fun j (hj : j ≤ 5) => outC_rng 0 (by omega) (by omega) L hr j (by omega))
  have HO0 : Is (outC 0 L 0) 0 := ⟨by simp [outC, num]⟩
  have HXR := hidden (fun j (hj : j < 5) => hr (L.getD j 0) (by rw [List.getD_eq_getElem?_getD]; simp [show j < L.length by omega]))
  have HLL := Is.mk hL
  rw [hR] at HME ⊢
  clear hi0 hz0 hz1 hz2 hRl hR hL hr
  generalize hS : ints .u64 L = S at HIX HIS ⊢
  have HSS := Is.mk hS
  clear hS
  go_enter Tryd.func87, Tryd.ntmps87
  go_wp2_with (first
    | (refine wpList_load_row rfl 92 _ rfl w.heap.size rfl 92 S (0, 0) _ (heap_1st _ _ _ _) Tryd.underlying92 rfl HIS.out ?_)
    | fail)
  generalize hw1 : World.alloc _ (.cells _ 92) = w1
  have hA : Wn .u64 w1 w.heap.size 92 (midC L 0) := by
    rw [← hw1, HM0.eq]
    exact (Wn.new .u64 w 92 L _ HSS.eq.symm).alloc _
  have hZ : Wn .u64 w1 (w.heap.size + 1) 92 (List.replicate 5 0) := by
    rw [← hw1]
    exact Wn.new' .u64 _ 92 (List.replicate 5 0) _ rfl _ (by simp)
  have hb : Below w.heap.size w w1 := by
    rw [← hw1]
    exact ((Below.refl _ w).alloc (Nat.le_refl _) _).alloc (by simp) _
  clear hw1
  obtain ⟨n, hn⟩ : ∃ n, w.heap.size = n := ⟨_, rfl⟩
  simp only [hn] at hA hZ hb ⊢
  have HN := hidden hn
  have HA0 := hidden hA
  have HZ0 := hidden hZ
  have HB0 := hidden hb
  clear hA hZ hb hn
  go_loopw [3, 7] (fun c i wr => ∃ j : Nat, j ≤ 5 ∧ i = .int .i64 j ∧ c = .int .u64 (outC 0 L j) ∧ Wn .u64 wr n 92 (midC L j) ∧ Wn .u64 wr (n + 1) 92 (List.replicate 5 0) ∧ Below n w wr) (fun _ i _ => 5 - (intOf i).toNat)
  case atStart => exact ⟨0, by omega, rfl, by rw [HO0.eq], HA0.out, HZ0.out, HB0.out⟩
  case round =>
    obtain ⟨j, hj, rfl, rfl, ha, hz, hb⟩ := hrel
    have HA := hidden ha
    have HZ := hidden hz
    have HB := hidden hb
    clear ha hz hb HA0 HZ0 HB0
    by_cases hlt : j < 5
    · have hix := HIX.out j hlt
      have hox := HOR.out j hj
      have hxx := HXR.out j hlt
      have HS1 := Is.mk (HMS.out j hlt)
      have HS2 := Is.mk (HOS.out j hlt)
      have hfx := HA.out.fr j
      have hcx := HA.out.cell j (by rw [HML.out j hj, HLL.eq]; exact hlt)
      generalize L.getD j 0 = x at hix hxx HS1 HS2
      generalize outC 0 L j = c at hox HS1 HS2
      have hand := and26 (x + c) (by omega) (by omega)
      have wr0 : IntKind.u64.wrap (x + c) = x + c := by rw [IntKind.wrap_u64]; omega
      have b0 : (j : Int) < 5 := by omega
      have b1 : (0 : Int) ≤ (j : Int) := by omega
      go_wp2
      go_roundw
      case rel => exact ⟨j + 1, by omega, by go_num, by rw [HS2.eq], by rw [← HS1.eq]; exact HA.out.set j _, HZ.out.other _ _ (by simp), HB.out.setCell (Nat.le_refl _) _⟩
      case measure => simp [intOf]; omega
    · have hj5 : j = 5 := by omega
      have hge : ¬ (j : Int) < 5 := by omega
      rw [← hj5] at HME HMN
      clear hj5
      have hox := HOR.out j hj
      have hcx := HA.out.cell 0 (by rw [HML.out j hj, HLL.eq]; omega)
      have hfx := HA.out.fr 0
      have hmx := HMN.out
      generalize (midC L j).getD 0 0 = x at hcx hmx HME
      generalize outC 0 L j = c at hox HME ⊢
      have wr1 : IntKind.u64.wrap (c * 5) = c * 5 := by rw [IntKind.wrap_u64]; omega
      have wr2 : IntKind.u64.wrap (x + c * 5) = x + c * 5 := by rw [IntKind.wrap_u64]; omega
      have HE := hidden (HA.out.set 0 (x + c * 5))
      rw [HME.eq] at HE
      have HZE : Hid (Wn .u64 (wr.setCell ⟨n, 0, none⟩ (.int .u64 (x + c * 5))) (n + 1) 92 (List.replicate 5 0)) := HZ.out.other _ _ (by simp)
      have HBE := hidden (HB.out.setCell (p := ⟨n, 0, none⟩) (Nat.le_refl _) (.int .u64 (x + c * 5)))
      have HRR := hidden (HZE.out.row R)
      have HBR := hidden (below_setRow HBE.out (show n ≤ n + 1 by omega) (ints .u64 R))
      go_wp2_with (first
        | (refine wpList_load_row rfl 92 _ rfl n rfl 92 _ (0, 0) _ HE.out.heap Tryd.underlying92 rfl HIR.out ?_)
        | (refine wpList_store_row rfl 92 _ _ rfl (n + 1) (ints .u64 R) rfl rfl 92 _ HZE.out.heap HIR.out HZR.out HONER.out ?_)
        | fail)
      refine bodyPost_ret (results_cell_row rfl _ _ (n + 1) 92 _ _ _ rfl HRR.out.heap Tryd.underlying92 rfl HIR.out) rfl ?_
      exact ⟨rfl, by rw [HN.out]; exact HBR.out⟩

end Go.Proofs.YtpocehpejbnemaaDoor

namespace Go.Proofs.YtpocehpejbnemaaDoor
open Go.RowKit
set_option linter.unusedVariables false

theorem five (L : List Int) (h : L.length = 5) : ∃ a b c d e, L = [a, b, c, d, e] := by
  match L, h with
  | [a, b, c, d, e], _ => exact ⟨a, b, c, d, e, rfl⟩
/-- Five limbs, the first one below u, the others below v. -/
structure Lm (u v : Int) (L : List Int) : Prop where
  len : L.length = 5
  fst : 0 ≤ L.getD 0 0 ∧ L.getD 0 0 < u
  rest : ∀ j, 1 ≤ j → j < 5 → 0 ≤ L.getD j 0 ∧ L.getD j 0 < v
theorem Lm.all {u v : Int} {L : List Int} (h : Lm u v L) (m : Int) (hu : u ≤ m) (hv : v ≤ m) : ∀ x ∈ L, 0 ≤ x ∧ x < m := by
  obtain ⟨a, b, c, d, e, rfl⟩ := five L h.len
  have h0 := h.fst
  have h1 := h.rest 1 (by omega) (by omega)
  have h2 := h.rest 2 (by omega) (by omega)
  have h3 := h.rest 3 (by omega) (by omega)
  have h4 := h.rest 4 (by omega) (by omega)
  simp at h0 h1 h2 h3 h4
  intro x hx
  simp at hx
  rcases hx with rfl | rfl | rfl | rfl | rfl <;> omega
theorem Lm.of (a b c d e u v : Int) (h0 : 0 ≤ a ∧ a < u) (h1 : 0 ≤ b ∧ b < v) (h2 : 0 ≤ c ∧ c < v) (h3 : 0 ≤ d ∧ d < v) (h4 : 0 ≤ e ∧ e < v) : Lm u v [a, b, c, d, e] :=
  ⟨rfl, h0, fun j hj hk => by
    have : j = 1 ∨ j = 2 ∨ j = 3 ∨ j = 4 := by omega
    rcases this with rfl | rfl | rfl | rfl
    · exact h1
    · exact h2
    · exact h3
    · exact h4⟩
theorem num5 (a b c d e : Int) : num B26 [a, b, c, d, e] = a + 67108864 * b + 4503599627370496 * c + 302231454903657293676544 * d + 20282409603651670423947251286016 * e := by
  simp only [num, B26]; omega
theorem B265 : B26 ^ 5 = 1361129467683753853853498429727072845824 := by decide
theorem carried_num (L : List Int) : num B26 (carriedL L) = num B26 L - num B26 L / 1361129467683753853853498429727072845824 * P130 := by
  unfold carriedL
  rw [num_set B26 _ 0 (by rw [dig_len]; omega), num_dig B26 B26_pos, B265, Int.pow_zero]
  have := Int.mul_ediv_add_emod (num B26 L) 1361129467683753853853498429727072845824
  unfold P130
  omega
theorem carried_lm (L : List Int) (m : Int) (h0 : 0 ≤ num B26 L) (h1 : num B26 L < (m + 1) * 1361129467683753853853498429727072845824) : Lm (67108864 + 5 * m) 67108864 (carriedL L) := by
  unfold carriedL
  rw [B265]
  have hk : 0 ≤ num B26 L / 1361129467683753853853498429727072845824 ∧ num B26 L / 1361129467683753853853498429727072845824 ≤ m := by omega
  generalize num B26 L / 1361129467683753853853498429727072845824 = k at *
  have hr := dig_rng B26 B26_pos 5 (num B26 L)
  obtain ⟨a, b, c, d, e, he⟩ := five _ (dig_len B26 5 (num B26 L))
  rw [he] at hr ⊢
  have ha := hr a (by simp)
  have hb := hr b (by simp)
  have hc := hr c (by simp)
  have hd := hr d (by simp)
  have he := hr e (by simp)
  unfold B26 at *
  exact Lm.of _ _ _ _ _ _ _ (by simp; omega) hb hc hd he
/-- A byte comes into its limb. -/
theorem num_byte (j : Nat) (hj : j < 16) (L : List Int) (hL : L.length = 5) (x : Int) : num B26 (L.set (8 * j / 26) (L.getD (8 * j / 26) 0 + x * 2 ^ (8 * j % 26))) = num B26 L + 256 ^ j * x := by
  rw [num_set _ _ _ (by omega)]
  have : j = 0 ∨ j = 1 ∨ j = 2 ∨ j = 3 ∨ j = 4 ∨ j = 5 ∨ j = 6 ∨ j = 7 ∨ j = 8 ∨ j = 9 ∨ j = 10 ∨ j = 11 ∨ j = 12 ∨ j = 13 ∨ j = 14 ∨ j = 15 := by omega
  unfold B26
  rcases this with rfl | rfl | rfl | rfl | rfl | rfl | rfl | rfl | rfl | rfl | rfl | rfl | rfl | rfl | rfl | rfl <;> simp <;> omega
theorem pow_small (n : Nat) (h : n < 26) : 1 ≤ (2 : Int) ^ n ∧ (2 : Int) ^ n ≤ 33554432 := by
  have : ∀ k : Fin 26, 1 ≤ (2 : Int) ^ k.val ∧ (2 : Int) ^ k.val ≤ 33554432 := by decide
  exact this ⟨n, h⟩
theorem mul_small (x p : Int) (hx : 0 ≤ x ∧ x ≤ 255) (hp : 1 ≤ p ∧ p ≤ 33554432) : 0 ≤ x * p ∧ x * p ≤ 8556380160 := by
  refine ⟨Int.mul_nonneg hx.1 (by omega), ?_⟩
  have h1 : x * p ≤ 255 * p := Int.mul_le_mul_of_nonneg_right hx.2 (by omega)
  omega

set_option maxHeartbeats 1600000 in
set_option maxRecDepth 100000 in
theorem numberOf_any (p : Option Addr) (n c : Nat) (xs : List Int) (w : World) (h : Byt w p n c xs) (hn : n ≤ 16) :
    Calls Tryd.prog 48 #[.slice p n c] w fun e w' => ∃ L, e = .returned (.agg (ints .u64 L)) ∧ Lm 67108864 67108864 L ∧ num B26 L = num 256 xs ∧ Below w.heap.size w w' := by
  have HLN := Is.mk h.len
  have hcap := h.cap
  have hbig := h.le
  have HR := hidden h.rng
  have HC := hidden (fun j (hj : j < n) => (show ∃ b o, p = some ⟨b, o, none⟩ ∧ w.cell? ⟨b, o + j, none⟩ = some (.int .u8 (xs.getD j 0)) by
    obtain ⟨b, o, e, hc⟩ := h.at_ (by omega)
    exact ⟨b, o, e, hc j hj⟩))
  clear h
  go_enter Tryd.func48, Tryd.ntmps48
  go_upto_region 2 with fail
  generalize hw1 : World.alloc _ (.cells _ 92) = w1
  have hZ : Wn .u64 w1 w.heap.size 92 (List.replicate 5 0) := by
    rw [← hw1]
    exact (Wn.new .u64 w 92 (List.replicate 5 0) _ rfl).alloc _
  have hA : Wn .u64 w1 (w.heap.size + 1) 92 [0, 0, 0, 0, 0] := by
    rw [← hw1]
    exact Wn.new' .u64 _ 92 [0, 0, 0, 0, 0] _ rfl _ (by simp)
  have hb : Below w.heap.size w w1 := by
    rw [← hw1]
    exact ((Below.refl _ w).alloc (Nat.le_refl _) _).alloc (by simp) _
  clear hw1
  obtain ⟨g, hg⟩ : ∃ g, w.heap.size = g := ⟨_, rfl⟩
  simp only [hg] at hA hZ hb ⊢
  have HG := hidden hg
  have HA0 := hidden hA
  have HZ0 := hidden hZ
  have HB0 := hidden hb
  have HL0 : Hid (∀ x ∈ ([0, 0, 0, 0, 0] : List Int), 0 ≤ x ∧ x ≤ 8556380160 * ((0 : Nat) : Int)) := by show ∀ x ∈ ([0, 0, 0, 0, 0] : List Int), 0 ≤ x ∧ x ≤ 8556380160 * ((0 : Nat) : Int); simp
  have HN0 : Is (num B26 [0, 0, 0, 0, 0]) (num 256 (xs.take 0)) := ⟨by simp [num]⟩
  clear hA hZ hb hg
  go_wp2
  go_loopw [8] (fun i wr => ∃ (j : Nat) (S : List Int), j ≤ n ∧ i = .int .i64 j ∧ S.length = 5 ∧ Wn .u64 wr (g + 1) 92 S ∧ (∀ x ∈ S, 0 ≤ x ∧ x ≤ 8556380160 * (j : Int)) ∧ Is (num B26 S) (num 256 (xs.take j)) ∧ Wn .u64 wr g 92 (List.replicate 5 0) ∧ Below g w wr) (fun i _ => n - (intOf i).toNat)
  case atStart => exact ⟨0, [0, 0, 0, 0, 0], by omega, rfl, rfl, HA0.out, HL0.out, HN0, HZ0.out, HB0.out⟩
  case round =>
    obtain ⟨j, S, hj, rfl, hSl, ha, hs, HNS, hz, hb⟩ := hrel
    have HA := hidden ha
    have HZ := hidden hz
    have HB := hidden hb
    have HS := hidden hs
    have HSL := Is.mk hSl
    clear ha hz hb HA0 HZ0 HB0 hs hSl HL0 HN0
    by_cases hlt : j < n
    · obtain ⟨b, o, rfl, hc⟩ := HC.out j hlt
      have hcell := cell_below (by rw [HG.out]; exact HB.out) _ _ hc
      have hrx := rng_getD HR.out j
      have hcx := HA.out.cell (8 * j / 26) (by rw [HSL.eq]; omega)
      have hfx := HA.out.fr (8 * j / 26)
      have hsx := HS.out (S.getD (8 * j / 26) 0) (by rw [List.getD_eq_getElem?_getD]; simp [show 8 * j / 26 < S.length by rw [HSL.eq]; omega])
      have HST := Is.mk (num_byte j (by omega) S HSL.eq (xs.getD j 0))
      have HTK := Is.mk (num_take 256 xs j (by rw [HLN.eq]; exact hlt))
      generalize S.getD (8 * j / 26) 0 = s at *
      generalize xs.getD j 0 = x at *
      have hmx := mul_small x (2 ^ (8 * j % 26)) hrx (pow_small (8 * j % 26) (by omega))
      have HMX := hidden hmx
      have w0 : IntKind.u64.wrap (x * 2 ^ (8 * j % 26)) = x * 2 ^ (8 * j % 26) := by rw [IntKind.wrap_u64]; omega
      have w1 : IntKind.u64.wrap (s + x * 2 ^ (8 * j % 26)) = s + x * 2 ^ (8 * j % 26) := by rw [IntKind.wrap_u64]; omega
      have HSX := hidden hsx
      clear hmx
      go_upto_region 5 with fail
      go_region
      have HV := hidden (show 0 ≤ s + x * 2 ^ (8 * j % 26) ∧ s + x * 2 ^ (8 * j % 26) ≤ 8556380160 * ((j + 1 : Nat) : Int) by have := HMX.out; have := HSX.out; omega)
      have HA2 : Hid (Wn .u64 ((wr.setCell ⟨g + 1, 8 * j / 26, none⟩ (.int .u64 (s + x * 2 ^ (8 * j % 26)))).drew) (g + 1) 92 (S.set (8 * j / 26) (s + x * 2 ^ (8 * j % 26)))) := (HA.out.set _ _).drew
      have HZ2 : Hid (Wn .u64 ((wr.setCell ⟨g + 1, 8 * j / 26, none⟩ (.int .u64 (s + x * 2 ^ (8 * j % 26)))).drew) g 92 (List.replicate 5 0)) := (HZ.out.other _ _ (by simp)).drew
      have HB2 : Hid (Below g w ((wr.setCell ⟨g + 1, 8 * j / 26, none⟩ (.int .u64 (s + x * 2 ^ (8 * j % 26)))).drew)) := (HB.out.setCell (by simp) _).drew
      clear w0 w1
      generalize s + x * 2 ^ (8 * j % 26) = d at *
      generalize World.drew _ = w3 at *
      go_wp2
      go_roundw
      case rel =>
        refine ⟨j + 1, S.set (8 * j / 26) d, by omega, by go_num, by rw [List.length_set, HSL.eq], HA2.out, fun y hy => ?_, ⟨by rw [HST.eq, HTK.eq, HNS.eq]⟩, HZ2.out, HB2.out⟩
        rcases List.mem_or_eq_of_mem_set hy with hy | rfl
        · have := HS.out y hy; omega
        · exact HV.out
      case measure => simp [intOf]; omega
    · have hjn : j = n := by omega
      have hge : ¬ (j : Int) < (n : Int) := by omega
      have hSr : ∀ x ∈ S, 0 ≤ x ∧ x < 4611686018427387904 := fun x hx => by have := HS.out x hx; omega
      have HCC := hidden (fun W (hW : Below g w W) => carried_any S HSL.eq hSr W)
      have hx16 : 0 ≤ num 256 xs ∧ num 256 xs < 340282366920938463463374607431768211456 := by
        have h1 : ∀ x ∈ xs, 0 ≤ x ∧ x < 256 := fun x hx => by have := HR.out x hx; omega
        have h2 := num_lt (b := 256) (by omega) xs h1
        have h3 := num_nonneg (b := 256) (by omega) xs (fun x hx => (h1 x hx).1)
        have h4 : (256 : Int) ^ xs.length ≤ 256 ^ 16 := by
          have : ∀ k : Fin 17, (256 : Int) ^ k.val ≤ 256 ^ 16 := by decide
          exact this ⟨xs.length, by rw [HLN.eq]; omega⟩
        have h5 : (256 : Int) ^ 16 = 340282366920938463463374607431768211456 := by decide
        omega
      have hNe : num B26 S = num 256 xs := by rw [HNS.eq, List.take_of_length_le (by rw [HLN.eq]; omega)]
      have HLM := hidden (carried_lm S 0 (by omega) (by omega))
      have HNM := Is.mk (carried_num S)
      rw [hNe, Int.ediv_eq_zero_of_lt hx16.1 (by omega), Int.zero_mul, Int.sub_zero] at HNM
      have HRL := Is.mk (carriedL_len S)
      have HIS := hidden (infoL S HSL.eq)
      generalize carriedL S = R at *
      have HIR := hidden (infoL R HRL.eq)
      have HZR : Hid ((ints .u64 (List.replicate 5 (0 : Int))).size = (ints .u64 R).size) := by show _ = _; rw [ints_size, ints_size, HRL.eq]; rfl
      have HONER := hidden (onek .u64 R)
      clear hSr hx16 hNe hjn
      go_wp2_with (first
        | (refine wpList_load_row rfl 92 _ rfl (g + 1) rfl 92 _ (0, 0) _ HA.out.heap Tryd.underlying92 rfl HIS.out ?_)
        | (go_at_call 87; (with_reducible refine (HCC.out wr HB.out).mono ?_); rintro e w4 ⟨rfl, hb4⟩; have HZ4 := hidden (HZ.out.below hb4); have HB4 := hidden (HB.out.trans (hb4.mono (Nat.le_of_lt HZ.out.lt))); clear hb4)
        | (refine wpList_store_row rfl 92 _ _ rfl g (ints .u64 R) rfl rfl 92 _ HZ4.out.heap HIR.out HZR.out HONER.out ?_)
        | fail)
      refine bodyPost_ret (results_cell_row rfl _ _ g 92 _ _ _ rfl (HZ4.out.row R).heap Tryd.underlying92 rfl HIR.out) rfl ?_
      exact ⟨R, rfl, HLM.out, HNM.eq, by rw [HG.out]; exact below_setRow HB4.out (Nat.le_refl _) _⟩
end Go.Proofs.YtpocehpejbnemaaDoor

namespace Go.Proofs.YtpocehpejbnemaaDoor
open Go.RowKit
set_option linter.unusedVariables false

theorem heap_2nd (w : World) (o : Obj) (S : Array Value) (t : TypeId) (p : Obj) : (((w.alloc o).alloc (.cells S t)).alloc p).heap[w.heap.size + 1]? = some (.cells S t (0, 0)) := by
  have := heap_1st (w.alloc o) S t p
  rwa [World.size_alloc] at this
/-- The mark above a piece. -/
theorem num_mark (n : Nat) (hn : n ≤ 16) (L : List Int) (hL : L.length = 5) : num B26 (L.set (8 * n / 26) (L.getD (8 * n / 26) 0 + 2 ^ (8 * n % 26))) = num B26 L + 256 ^ n := by
  rw [num_set _ _ _ (by omega)]
  have : n = 0 ∨ n = 1 ∨ n = 2 ∨ n = 3 ∨ n = 4 ∨ n = 5 ∨ n = 6 ∨ n = 7 ∨ n = 8 ∨ n = 9 ∨ n = 10 ∨ n = 11 ∨ n = 12 ∨ n = 13 ∨ n = 14 ∨ n = 15 ∨ n = 16 := by omega
  unfold B26
  rcases this with rfl | rfl | rfl | rfl | rfl | rfl | rfl | rfl | rfl | rfl | rfl | rfl | rfl | rfl | rfl | rfl | rfl <;> simp
theorem Lm.set {u v : Int} {L : List Int} (h : Lm u v L) (m : Int) (hu : u ≤ m) (hv : v ≤ m) (j : Nat) (x : Int) (hx : 0 ≤ x ∧ x < m) : Lm m m (L.set j x) := by
  have hl : (L.set j x).length = 5 := by rw [List.length_set, h.len]
  have ha := h.all m hu hv
  have key : ∀ i, i < 5 → 0 ≤ (L.set j x).getD i 0 ∧ (L.set j x).getD i 0 < m := fun i hi => by
    have hmem : (L.set j x).getD i 0 ∈ L.set j x := by
      rw [List.getD_eq_getElem?_getD, List.getElem?_eq_getElem (by omega)]
      exact List.getElem_mem (by omega)
    rcases List.mem_or_eq_of_mem_set hmem with h1 | h1
    · exact ha _ h1
    · rw [h1]; exact hx
  exact ⟨hl, key 0 (by omega), fun i _ hi => key i hi⟩

set_option maxHeartbeats 1600000 in
set_option maxRecDepth 100000 in
theorem marked_any (p : Option Addr) (n c : Nat) (xs : List Int) (w : World) (h : Byt w p n c xs) (hn : n ≤ 16) :
    Calls Tryd.prog 51 #[.slice p n c] w fun e w' => ∃ L, e = .returned (.agg (ints .u64 L)) ∧ Lm 134217728 134217728 L ∧ num B26 L = markS xs ∧ Below w.heap.size w w' := by
  have HLN := Is.mk h.len
  have hcap := h.cap
  have hbig := h.le
  obtain ⟨g, hg⟩ : ∃ g, w.heap.size = g := ⟨_, rfl⟩
  have HCC := hidden (fun W (hW : Below g w W) => numberOf_any p n c xs W (h.below (by rw [hg]; exact hW)) hn)
  clear h
  have HZ0 : Hid (Wn .u64 (w.alloc (.cells #[.int .u64 0, .int .u64 0, .int .u64 0, .int .u64 0, .int .u64 0] 92)) g 92 (List.replicate 5 0)) := hidden (Wn.new' .u64 w 92 (List.replicate 5 0) _ rfl _ hg)
  have HB0 : Hid (Below g w (w.alloc (.cells #[.int .u64 0, .int .u64 0, .int .u64 0, .int .u64 0, .int .u64 0] 92))) := by
    rw [← hg]
    exact hidden ((Below.refl _ w).alloc (Nat.le_refl _) _)
  go_enter Tryd.func51, Tryd.ntmps51
  have HG := hidden hg
  go_upto_region 2 with (first
    | (go_at_call 48; (with_reducible refine (HCC.out _ HB0.out).mono ?_); rintro e w4 ⟨L, rfl, hl, hv, hb4⟩; have HZ4 := hidden (HZ0.out.below hb4); have HB4 := hidden (HB0.out.trans (hb4.mono (Nat.le_of_lt HZ0.out.lt))); have HL := hidden hl; have HV := Is.mk hv; have HIL := hidden (infoL L hl.len); have HZL : Hid ((ints .u64 (List.replicate 5 (0 : Int))).size = (ints .u64 L).size) := (show _ = _ by rw [ints_size, ints_size, hl.len]; rfl); clear hb4 hl hv)
    | (refine wpList_store_row rfl 92 _ _ rfl w4.heap.size (ints .u64 L) rfl rfl 92 _ (heap_alloc_new w4 _) HIL.out HZL.out (onek .u64 L) ?_)
    | fail)
  obtain ⟨m, hm⟩ : ∃ m, w4.heap.size = m := ⟨_, rfl⟩
  have hgm : g < m := by have := HZ4.out.lt; omega
  generalize hw5 : World.setRow (w4.alloc (.cells _ 92)) w4.heap.size (ints .u64 L) = w5
  simp only [hm] at hw5 ⊢
  have HA5 : Hid (Wn .u64 w5 m 92 L) := by
    rw [← hw5]
    exact hidden ((Wn.new' .u64 w4 92 (List.replicate 5 0) _ rfl m hm).row L)
  have HZ5 : Hid (Wn .u64 w5 g 92 (List.replicate 5 0)) := by
    rw [← hw5]
    exact hidden ((HZ4.out.alloc _).rowOther _ _ (by omega))
  have HB5 : Hid (Below g w w5) := by
    rw [← hw5]
    exact hidden (below_setRow (HB4.out.alloc (by omega) _) (by omega) _)
  have HM := hidden hm
  clear hw5 hm HZ4 HB4 HZ0 HB0 HCC HZL
  have hcx := HA5.out.cell (8 * n / 26) (by rw [HL.out.len]; omega)
  have hfx := HA5.out.fr (8 * n / 26)
  have hsx := HL.out.all 67108864 (Int.le_refl _) (Int.le_refl _) (L.getD (8 * n / 26) 0) (by rw [List.getD_eq_getElem?_getD]; simp [show 8 * n / 26 < L.length by rw [HL.out.len]; omega])
  have HST := Is.mk (num_mark n hn L HL.out.len)
  generalize L.getD (8 * n / 26) 0 = s at *
  have hps := pow_small (8 * n % 26) (by omega)
  have w0 : IntKind.u64.wrap (2 ^ (8 * n % 26)) = 2 ^ (8 * n % 26) := by rw [IntKind.wrap_u64]; omega
  have w1 : IntKind.u64.wrap (s + 2 ^ (8 * n % 26)) = s + 2 ^ (8 * n % 26) := by rw [IntKind.wrap_u64]; omega
  have HPS := hidden hps
  have HLS := hidden (HL.out.set 134217728 (by omega) (by omega) (8 * n / 26) (s + 2 ^ (8 * n % 26)) (by omega))
  have HSX := hidden hsx
  clear hps hsx
  go_region
  have HA6 : Hid (Wn .u64 ((w5.setCell ⟨m, 8 * n / 26, none⟩ (.int .u64 (s + 2 ^ (8 * n % 26)))).drew) m 92 (L.set (8 * n / 26) (s + 2 ^ (8 * n % 26)))) := (HA5.out.set _ _).drew
  have HZ6 : Hid (Wn .u64 ((w5.setCell ⟨m, 8 * n / 26, none⟩ (.int .u64 (s + 2 ^ (8 * n % 26)))).drew) g 92 (List.replicate 5 0)) := (HZ5.out.other _ _ (by simp; omega)).drew
  have HB6 : Hid (Below g w ((w5.setCell ⟨m, 8 * n / 26, none⟩ (.int .u64 (s + 2 ^ (8 * n % 26)))).drew)) := (HB5.out.setCell (by simp; omega) _).drew
  clear w0 w1 hcx hfx
  generalize s + 2 ^ (8 * n % 26) = d at *
  generalize World.drew _ = w6 at *
  generalize L.set (8 * n / 26) d = R at *
  have HIR := hidden (infoL R HLS.out.len)
  have HZR : Hid ((ints .u64 (List.replicate 5 (0 : Int))).size = (ints .u64 R).size) := by show _ = _; rw [ints_size, ints_size, HLS.out.len]; rfl
  go_wp2_with (first
    | (refine wpList_load_row rfl 92 _ rfl m rfl 92 _ (0, 0) _ HA6.out.heap Tryd.underlying92 rfl HIR.out ?_)
    | (refine wpList_store_row rfl 92 _ _ rfl g (ints .u64 R) rfl rfl 92 _ HZ6.out.heap HIR.out HZR.out (onek .u64 R) ?_)
    | fail)
  refine bodyPost_ret (results_cell_row rfl _ _ g 92 _ _ _ rfl (HZ6.out.row R).heap Tryd.underlying92 rfl HIR.out) rfl ?_
  exact ⟨R, rfl, HLS.out, by rw [HST.eq, HV.eq, markS, HLN.eq], by rw [HG.out]; exact below_setRow HB6.out (Nat.le_refl _) _⟩

/-- Limb by limb. -/
def addL (A B : List Int) : List Int := List.zipWith (· + ·) A B
theorem addL_len (A B : List Int) : (addL A B).length = min A.length B.length := by simp [addL]
theorem addL_num (b : Int) (A B : List Int) (h : A.length = B.length) : num b (addL A B) = num b A + num b B := by
  induction A generalizing B with
  | nil => cases B with
    | nil => rfl
    | cons y B => simp at h
  | cons x A ih => cases B with
    | nil => simp at h
    | cons y B =>
      have := ih B (by simpa using h)
      simp only [addL, List.zipWith_cons_cons, num] at this ⊢
      rw [this]
      grind
theorem Lm.add {u v u' v' : Int} {A B : List Int} (h : Lm u v A) (h' : Lm u' v' B) : Lm (u + u') (v + v') (addL A B) := by
  obtain ⟨a, b, c, d, e, rfl⟩ := five A h.len
  obtain ⟨a', b', c', d', e', rfl⟩ := five B h'.len
  have k0 := h.fst
  have k1 := h.rest 1 (by omega) (by omega)
  have k2 := h.rest 2 (by omega) (by omega)
  have k3 := h.rest 3 (by omega) (by omega)
  have k4 := h.rest 4 (by omega) (by omega)
  have l0 := h'.fst
  have l1 := h'.rest 1 (by omega) (by omega)
  have l2 := h'.rest 2 (by omega) (by omega)
  have l3 := h'.rest 3 (by omega) (by omega)
  have l4 := h'.rest 4 (by omega) (by omega)
  simp at k0 k1 k2 k3 k4 l0 l1 l2 l3 l4
  simp only [addL, List.zipWith_cons_cons, List.zipWith_nil_left]
  exact Lm.of _ _ _ _ _ _ _ (by omega) (by omega) (by omega) (by omega) (by omega)
/-- The first j limbs are added. -/
def midA (A B : List Int) (j : Nat) : List Int := addL (A.take j) (B.take j) ++ A.drop j
theorem midA_zero (A B : List Int) : midA A B 0 = A := by simp [midA, addL]
theorem midA_len (A B : List Int) (j : Nat) (h : A.length = B.length) (hj : j ≤ A.length) : (midA A B j).length = A.length := by simp [midA, addL_len]; omega
theorem midA_get (A B : List Int) (j : Nat) (h : A.length = B.length) (hj : j < A.length) : (midA A B j).getD j 0 = A.getD j 0 := by
  unfold midA
  exact getD_mid _ _ _ (by rw [addL_len]; simp; omega)
theorem midA_succ (A B : List Int) (j : Nat) (h : A.length = B.length) (hj : j < A.length) : (midA A B j).set j (A.getD j 0 + B.getD j 0) = midA A B (j + 1) := by
  unfold midA
  rw [set_mid _ _ _ _ (by rw [addL_len]; simp; omega) hj]
  congr 1
  unfold addL
  rw [List.take_succ_eq_append_getElem hj, List.take_succ_eq_append_getElem (show j < B.length by omega), List.zipWith_append (by simp; omega)]
  simp [List.getD_eq_getElem?_getD, hj, show j < B.length by omega]
theorem midA_end (A B : List Int) (h : A.length = B.length) : midA A B A.length = addL A B := by
  unfold midA
  rw [List.drop_length, List.append_nil, List.take_length, h, List.take_length]

set_option maxHeartbeats 1600000 in
set_option maxRecDepth 100000 in
theorem sum_any (A B : List Int) (hA : A.length = 5) (hB : B.length = 5) (hrA : ∀ x ∈ A, 0 ≤ x ∧ x < 4611686018427387904) (hrB : ∀ x ∈ B, 0 ≤ x ∧ x < 4611686018427387904) (w : World) :
    Calls Tryd.prog 50 #[.agg (ints .u64 A), .agg (ints .u64 B)] w fun e w' => e = .returned (.agg (ints .u64 (addL A B))) ∧ Below w.heap.size w w' := by
  obtain ⟨i0, hi0, hz0, hz1, hz2⟩ := info_parts infoU64
  have HIX := hidden (fun (j : Nat) (hj : j < 5) (w' : World) => run_indexN (k := .u64) (P := Tryd.prog) Tryd.underlying92 Tryd.underlying82 hi0 hz1 B hB j hj w')
  have HIB := hidden (infoL B hB)
  obtain ⟨R, hR⟩ : ∃ R, addL A B = R := ⟨_, rfl⟩
  have hRl : R.length = 5 := by rw [← hR, addL_len]; omega
  have HIR := hidden (infoL R hRl)
  have HZR : Hid ((ints .u64 (List.replicate 5 (0 : Int))).size = (ints .u64 R).size) := by show _ = _; rw [ints_size, ints_size, hRl]; rfl
  have HONER := hidden (onek .u64 R)
  have HM0 := Is.mk (midA_zero A B)
  have HML := hidden (fun j (hj : j ≤ 5) => midA_len A B j (by omega) (by omega))
  have HMS := hidden (fun j (hj : j < 5) => midA_succ A B j (by omega) (by omega))
  have HMG := hidden (fun j (hj : j < 5) => midA_get A B j (by omega) (by omega))
  have hme := midA_end A B (by omega)
  rw [hA] at hme
  have HME := Is.mk hme
  have HXA := hidden (fun j (hj : j < 5) => hrA (A.getD j 0) (by rw [List.getD_eq_getElem?_getD]; simp [show j < A.length by omega]))
  have HXB := hidden (fun j (hj : j < 5) => hrB (B.getD j 0) (by rw [List.getD_eq_getElem?_getD]; simp [show j < B.length by omega]))
  have HAL := Is.mk hA
  rw [hR] at HME ⊢
  clear hi0 hz0 hz1 hz2 hRl hR hA hB hrA hrB hme
  generalize hS : ints .u64 B = S at HIX HIB ⊢
  have HSS := Is.mk hS
  clear hS
  go_enter Tryd.func50, Tryd.ntmps50
  go_wp2_with (first
    | (refine wpList_load_row rfl 92 _ rfl (w.heap.size + 1) rfl 92 S (0, 0) _ (heap_2nd _ _ _ _ _) Tryd.underlying92 rfl HIB.out ?_)
    | fail)
  generalize hw1 : World.alloc _ (.cells _ 92) = w1
  have hA : Wn .u64 w1 w.heap.size 92 (midA A B 0) := by
    rw [← hw1, HM0.eq]
    exact ((Wn.new .u64 w 92 A _ rfl).alloc _).alloc _
  have hZ : Wn .u64 w1 (w.heap.size + 1 + 1) 92 (List.replicate 5 0) := by
    rw [← hw1]
    exact Wn.new' .u64 _ 92 (List.replicate 5 0) _ rfl _ (by simp)
  have hb : Below w.heap.size w w1 := by
    rw [← hw1]
    exact (((Below.refl _ w).alloc (Nat.le_refl _) _).alloc (by simp) _).alloc (by simp; omega) _
  clear hw1
  obtain ⟨n, hn⟩ : ∃ n, w.heap.size = n := ⟨_, rfl⟩
  simp only [hn] at hA hZ hb ⊢
  have HN := hidden hn
  have HA0 := hidden hA
  have HZ0 := hidden hZ
  have HB0 := hidden hb
  clear hA hZ hb hn
  go_loopw [8] (fun i wr => ∃ j : Nat, j ≤ 5 ∧ i = .int .i64 j ∧ Wn .u64 wr n 92 (midA A B j) ∧ Wn .u64 wr (n + 1 + 1) 92 (List.replicate 5 0) ∧ Below n w wr) (fun i _ => 5 - (intOf i).toNat)
  case atStart => exact ⟨0, by omega, rfl, HA0.out, HZ0.out, HB0.out⟩
  case round =>
    obtain ⟨j, hj, rfl, ha, hz, hb⟩ := hrel
    have HA := hidden ha
    have HZ := hidden hz
    have HB := hidden hb
    clear ha hz hb HA0 HZ0 HB0
    by_cases hlt : j < 5
    · have hix := HIX.out j hlt
      have hxa := HXA.out j hlt
      have hxb := HXB.out j hlt
      have HS1 := Is.mk (HMS.out j hlt)
      have hfx := HA.out.fr j
      have hcx := HA.out.cell j (by rw [HML.out j hj, HAL.eq]; exact hlt)
      rw [HMG.out j hlt] at hcx
      generalize A.getD j 0 = x at hix hxa HS1 hcx
      generalize B.getD j 0 = y at hix hxb HS1
      have wr0 : IntKind.u64.wrap (x + y) = x + y := by rw [IntKind.wrap_u64]; omega
      have b0 : (j : Int) < 5 := by omega
      have b1 : (0 : Int) ≤ (j : Int) := by omega
      go_wp2
      go_roundw
      case rel => exact ⟨j + 1, by omega, by go_num, by rw [← HS1.eq]; exact HA.out.set j _, HZ.out.other _ _ (by simp; omega), HB.out.setCell (Nat.le_refl _) _⟩
      case measure => simp [intOf]; omega
    · have hj5 : j = 5 := by omega
      have hge : ¬ (j : Int) < 5 := by omega
      have hae := HA.out
      rw [hj5, HME.eq] at hae
      have HE := hidden hae
      clear hj5 hae HA
      have HRR := hidden (HZ.out.row R)
      have HBR := hidden (below_setRow HB.out (show n ≤ n + 1 + 1 by omega) (ints .u64 R))
      go_wp2_with (first
        | (refine wpList_load_row rfl 92 _ rfl n rfl 92 _ (0, 0) _ HE.out.heap Tryd.underlying92 rfl HIR.out ?_)
        | (refine wpList_store_row rfl 92 _ _ rfl (n + 1 + 1) (ints .u64 R) rfl rfl 92 _ HZ.out.heap HIR.out HZR.out HONER.out ?_)
        | fail)
      refine bodyPost_ret (results_cell_row rfl _ _ (n + 1 + 1) 92 _ _ _ rfl HRR.out.heap Tryd.underlying92 rfl HIR.out) rfl ?_
      exact ⟨rfl, by rw [HN.out]; exact HBR.out⟩
end Go.Proofs.YtpocehpejbnemaaDoor

namespace Go.Proofs.YtpocehpejbnemaaDoor
open Go.RowKit
set_option linter.unusedVariables false

/-- A product comes into its limb. -/
theorem prod_step (A B O : List Int) (i k : Nat) (t p : Int) (hO : O.length = 5) (hi : i < 5) (hk : k < B.length) (hp : A.getD i 0 * B.getD k 0 = p)
    (h : num B26 O + t * P130 = num B26 (A.take i) * num B26 B + A.getD i 0 * B26 ^ i * num B26 (B.take k)) (hlt : i + k < 5) :
    num B26 (O.set (i + k) (O.getD (i + k) 0 + p)) + t * P130 = num B26 (A.take i) * num B26 B + A.getD i 0 * B26 ^ i * num B26 (B.take (k + 1)) := by
  rw [num_set _ _ _ (by omega), num_take _ _ _ hk, Int.pow_add]
  subst hp
  grind
theorem prod_wrap (A B O : List Int) (i k q : Nat) (t p : Int) (hO : O.length = 5) (hi : i < 5) (hk : k < B.length) (hp : A.getD i 0 * B.getD k 0 = p)
    (h : num B26 O + t * P130 = num B26 (A.take i) * num B26 B + A.getD i 0 * B26 ^ i * num B26 (B.take k)) (hq : i + k = q + 5) (hq5 : q < 5) :
    num B26 (O.set q (O.getD q 0 + p * 5)) + (t + B26 ^ q * p) * P130 = num B26 (A.take i) * num B26 B + A.getD i 0 * B26 ^ i * num B26 (B.take (k + 1)) := by
  rw [num_set _ _ _ (by omega), num_take _ _ _ hk]
  have h1 : B26 ^ i * B26 ^ k = B26 ^ q * B26 ^ 5 := by rw [← Int.pow_add, ← Int.pow_add, hq]
  have h2 : B26 ^ 5 = P130 + 5 := by decide
  rw [h2] at h1
  subst hp
  generalize B26 ^ i = bi at *
  generalize B26 ^ k = bk at *
  generalize B26 ^ q = bq at *
  generalize num B26 O = o at *
  grind
theorem mul_lt (x y X Y : Int) (hx : 0 ≤ x ∧ x < X) (hy : 0 ≤ y ∧ y < Y) : 0 ≤ x * y ∧ x * y ≤ X * Y := by
  refine ⟨Int.mul_nonneg hx.1 hy.1, ?_⟩
  exact Int.le_trans (Int.mul_le_mul_of_nonneg_right (Int.le_of_lt hx.2) hy.1) (Int.mul_le_mul_of_nonneg_left (Int.le_of_lt hy.2) (by omega))
theorem prod_next (A B : List Int) (i : Nat) (t o : Int) (hi : i < A.length)
    (h : o + t * P130 = num B26 (A.take i) * num B26 B + A.getD i 0 * B26 ^ i * num B26 B) : o + t * P130 = num B26 (A.take (i + 1)) * num B26 B := by
  rw [num_take _ _ _ hi]
  grind

/-- What lies where in the rounds. -/
structure PrI (w wr : World) (n : Nat) (SB : Array Value) (O : List Int) : Prop where
  b : wr.heap[n + 1]? = some (.cells SB 92 (0, 0))
  z : Wn .u64 wr (n + 1 + 1) 92 (List.replicate 5 0)
  o : Wn .u64 wr (n + 1 + 1 + 1) 92 O
  bel : Below n w wr
  len : O.length = 5
theorem PrI.set {w wr : World} {n : Nat} {SB : Array Value} {O : List Int} (h : PrI w wr n SB O) (j : Nat) (v : Int) : PrI w (wr.setCell ⟨n + 1 + 1 + 1, j, none⟩ (.int .u64 v)) n SB (O.set j v) :=
  ⟨by rw [Below.heap_setCell _ _ _ _ (by simp)]; exact h.b, h.z.other _ _ (by simp), h.o.set _ _, h.bel.setCell (by simp; omega) _, by rw [List.length_set, h.len]⟩

set_option maxHeartbeats 3200000 in
set_option maxRecDepth 100000 in
theorem product_any (A B : List Int) (hA : A.length = 5) (hB : B.length = 5) (hrA : ∀ x ∈ A, 0 ≤ x ∧ x < 268435456) (hrB : ∀ x ∈ B, 0 ≤ x ∧ x < 67108864) (w : World) :
    Calls Tryd.prog 49 #[.agg (ints .u64 A), .agg (ints .u64 B)] w fun e w' => ∃ R, e = .returned (.agg (ints .u64 R)) ∧ Lm 67108869 67108864 R ∧ (∃ t, num B26 R + t * P130 = num B26 A * num B26 B) ∧ Below w.heap.size w w' := by
  obtain ⟨i0, hi0, hz0, hz1, hz2⟩ := info_parts infoU64
  have HIXA := hidden (fun (j : Nat) (hj : j < 5) (w' : World) => run_indexN (k := .u64) (P := Tryd.prog) Tryd.underlying92 Tryd.underlying82 hi0 hz1 A hA j hj w')
  have HIXB := hidden (fun (j : Nat) (hj : j < 5) (w' : World) => run_indexN (k := .u64) (P := Tryd.prog) Tryd.underlying92 Tryd.underlying82 hi0 hz1 B hB j hj w')
  have HIA := hidden (infoL A hA)
  have HIB := hidden (infoL B hB)
  have HXA := hidden (fun j (hj : j < 5) => hrA (A.getD j 0) (by rw [List.getD_eq_getElem?_getD]; simp [show j < A.length by omega]))
  have HXB := hidden (fun j (hj : j < 5) => hrB (B.getD j 0) (by rw [List.getD_eq_getElem?_getD]; simp [show j < B.length by omega]))
  have HAL := Is.mk hA
  have HBL := Is.mk hB
  obtain ⟨NA, hNA⟩ : ∃ NA, num B26 A * num B26 B = NA := ⟨_, rfl⟩
  have HNA := Is.mk hNA
  have HST := hidden (prod_step A B)
  have HWR := hidden (prod_wrap A B)
  have HNX := hidden (prod_next A B)
  obtain ⟨V, hV⟩ : ∃ V : Nat → Nat → Int, V = fun i k => num B26 (A.take i) * num B26 B + A.getD i 0 * B26 ^ i * num B26 (B.take k) := ⟨_, rfl⟩
  have HV := hidden (fun i k => (show V i k = num B26 (A.take i) * num B26 B + A.getD i 0 * B26 ^ i * num B26 (B.take k) by rw [hV]))
  obtain ⟨U, hU⟩ : ∃ U : Nat → Int, U = fun i => num B26 (A.take i) * num B26 B := ⟨_, rfl⟩
  have HU := hidden (fun i => (show U i = num B26 (A.take i) * num B26 B by rw [hU]))
  have HU0 : Hid (num B26 [0, 0, 0, 0, 0] + 0 * P130 = U 0) := by show num B26 [0, 0, 0, 0, 0] + 0 * P130 = U 0; rw [hU]; simp [num]
  have HUV : Hid (∀ i, V i 0 = U i) := fun i => by rw [hU, hV]; simp [num]
  have HVU : Hid (∀ i, i < 5 → ∀ o t, o + t * P130 = V i 5 → o + t * P130 = U (i + 1)) := fun i hi o t h => by
    rw [HU.out, prod_next A B i t o (by omega)]
    rw [h, HV.out, List.take_of_length_le (show B.length ≤ 5 by omega)]
  have HUE : Is (U 5) NA := ⟨by rw [HU.out, List.take_of_length_le (show A.length ≤ 5 by omega), hNA]⟩
  have HSTEP : Hid (∀ (O : List Int) (i k : Nat) (t p : Int), O.length = 5 → i < 5 → k < 5 → A.getD i 0 * B.getD k 0 = p → num B26 O + t * P130 = V i k → i + k < 5 → num B26 (O.set (i + k) (O.getD (i + k) 0 + p)) + t * P130 = V i (k + 1)) := fun O i k t p h1 h2 h3 h4 h5 h6 => by
    rw [HV.out] at h5 ⊢
    exact prod_step A B O i k t p h1 h2 (by omega) h4 h5 h6
  have HWRAP : Hid (∀ (O : List Int) (i k q : Nat) (t p : Int), O.length = 5 → i < 5 → k < 5 → A.getD i 0 * B.getD k 0 = p → num B26 O + t * P130 = V i k → i + k = q + 5 → q < 5 → num B26 (O.set q (O.getD q 0 + p * 5)) + (t + B26 ^ q * p) * P130 = V i (k + 1)) := fun O i k q t p h1 h2 h3 h4 h5 h6 h7 => by
    rw [HV.out] at h5 ⊢
    exact prod_wrap A B O i k q t p h1 h2 (by omega) h4 h5 h6 h7
  rw [hNA]
  clear hi0 hz0 hz1 hz2 hA hB hrA hrB hNA hU hV HU HV HST HWR HNX
  generalize hSA : ints .u64 A = SA at HIXA HIA ⊢
  generalize hSB : ints .u64 B = SB at HIXB HIB ⊢
  have HSA := Is.mk hSA
  have HSB := Is.mk hSB
  clear hSA hSB
  go_enter Tryd.func49, Tryd.ntmps49
  go_upto_region 2 with fail
  generalize hw1 : World.alloc _ (.cells _ 92) = w1
  have hIA : w1.heap[w.heap.size]? = some (.cells SA 92 (0, 0)) := by
    rw [← hw1, Below.heap_alloc _ _ _ (by simp; omega), Below.heap_alloc _ _ _ (by simp; omega), Below.heap_alloc _ _ _ (by simp), heap_alloc_new]
  have hI : PrI w w1 w.heap.size SB [0, 0, 0, 0, 0] := by
    rw [← hw1]
    refine ⟨?_, ?_, ?_, ?_, rfl⟩
    · rw [Below.heap_alloc _ _ _ (by simp), heap_2nd]
    · exact (Wn.new' .u64 _ 92 (List.replicate 5 0) _ rfl _ (by simp)).alloc _
    · exact Wn.new' .u64 _ 92 [0, 0, 0, 0, 0] _ rfl _ (by simp)
    · exact ((((Below.refl _ w).alloc (Nat.le_refl _) _).alloc (by simp) _).alloc (by simp; omega) _).alloc (by simp; omega) _
  clear hw1
  obtain ⟨n, hn⟩ : ∃ n, w.heap.size = n := ⟨_, rfl⟩
  simp only [hn] at hIA hI ⊢
  have HN := hidden hn
  have HIA1 := hidden hIA
  have HI0 := hidden hI
  have HO0 : Hid (∀ z ∈ ([0, 0, 0, 0, 0] : List Int), 0 ≤ z ∧ z ≤ 90071992547409920 * ((5 * 0 : Nat) : Int)) := by show ∀ z ∈ ([0, 0, 0, 0, 0] : List Int), 0 ≤ z ∧ z ≤ 90071992547409920 * ((5 * 0 : Nat) : Int); simp
  clear hIA hI hn
  go_wp2_with (first
    | (refine wpList_load_row rfl 92 _ rfl n rfl 92 SA (0, 0) _ HIA1.out Tryd.underlying92 rfl HIA.out ?_)
    | fail)
  go_loopw [12] (fun i wr => ∃ (j : Nat) (O : List Int) (t : Int), j ≤ 5 ∧ i = .int .i64 j ∧ PrI w wr n SB O ∧ (∀ z ∈ O, 0 ≤ z ∧ z ≤ 90071992547409920 * ((5 * j : Nat) : Int)) ∧ Hid (num B26 O + t * P130 = U j)) (fun i _ => 5 - (intOf i).toNat)
  case atStart => exact ⟨0, [0, 0, 0, 0, 0], 0, by omega, rfl, HI0.out, HO0.out, HU0⟩
  case round =>
    obtain ⟨j, O, t, hj, rfl, hi, ho, HT⟩ := hrel
    have HI := hidden hi
    have HO := hidden ho
    clear hi ho HI0 HO0 HIA1
    by_cases hlt : j < 5
    · have hixa := HIXA.out j hlt
      have hxa := HXA.out j hlt
      have hxaE : Is (A.getD j 0) (A.getD j 0) := ⟨rfl⟩
      have b0 : (j : Int) < 5 := by omega
      have b1 : (0 : Int) ≤ (j : Int) := by omega
      have HT2 : Hid (num B26 O + t * P130 = V j 0) := by show num B26 O + t * P130 = V j 0; rw [HUV.out]; exact HT.out
      have HSTJ := hidden (fun (O : List Int) (k : Nat) (t p : Int) h1 h3 h4 h5 h6 => HSTEP.out O j k t p h1 hlt h3 h4 h5 h6)
      have HWRJ := hidden (fun (O : List Int) (k q : Nat) (t p : Int) h1 h3 h4 h5 h6 h7 => HWRAP.out O j k q t p h1 hlt h3 h4 h5 h6 h7)
      have HO2 : Hid (∀ z ∈ O, 0 ≤ z ∧ z ≤ 90071992547409920 * ((5 * j + 0 : Nat) : Int)) := HO.out
      generalize A.getD j 0 = x at hixa hxa HSTJ HWRJ
      clear hxaE HO HT
      go_wp2_with (first
        | (refine wpList_load_row rfl 92 _ rfl (n + 1) rfl 92 SB (0, 0) _ HI.out.b Tryd.underlying92 rfl HIB.out ?_)
        | fail)
      rename World => wo
      go_loopw [17] (fun i wr => ∃ (k : Nat) (O : List Int) (t : Int), k ≤ 5 ∧ i = .int .i64 k ∧ PrI w wr n SB O ∧ (∀ z ∈ O, 0 ≤ z ∧ z ≤ 90071992547409920 * ((5 * j + k : Nat) : Int)) ∧ Hid (num B26 O + t * P130 = V j k)) (fun i _ => 5 - (intOf i).toNat)
      case atStart => exact ⟨0, O, t, by omega, rfl, HI.out, HO2.out, HT2⟩
      case round =>
        clear HI HO2 HT2
        obtain ⟨k, O, t, hk, rfl, hi, ho, HT⟩ := hrel
        have HI := hidden hi
        have HO := hidden ho
        clear hi ho
        by_cases hkt : k < 5
        · have hixb := HIXB.out k hkt
          have hxb := HXB.out k hkt
          have HSTK := hidden (fun p h4 h6 => HSTJ.out O k t p HI.out.len hkt h4 HT.out h6)
          have HWRK := hidden (fun q p h4 h6 h7 => HWRJ.out O k q t p HI.out.len hkt h4 HT.out h6 h7)
          generalize B.getD k 0 = y at hixb hxb HSTK HWRK
          have hp := mul_lt x y 268435456 67108864 hxa hxb
          have c0 : (k : Int) < 5 := by omega
          have c1 : (0 : Int) ≤ (k : Int) := by omega
          have w0 : IntKind.u64.wrap (x * y) = x * y := by rw [IntKind.wrap_u64]; omega
          by_cases hpl : j + k < 5
          · have hcx := HI.out.o.cell (j + k) (by rw [HI.out.len]; exact hpl)
            have hfx := HI.out.o.fr (j + k)
            have hsx := HO.out (O.getD (j + k) 0) (by rw [List.getD_eq_getElem?_getD]; simp [show j + k < O.length by rw [HI.out.len]; exact hpl])
            have HS := hidden (HSTK.out (x * y) rfl hpl)
            generalize O.getD (j + k) 0 = s at hcx hsx HS
            have hnn : 0 ≤ s + x * y ∧ s + x * y ≤ 90071992547409920 * ((5 * j + (k + 1) : Nat) : Int) := by omega
            have HNN := hidden hnn
            have HNI := hidden (HI.out.set (j + k) (s + x * y))
            have w2 : IntKind.u64.wrap (s + x * y) = s + x * y := by rw [IntKind.wrap_u64]; omega
            have d0 : (j : Int) + (k : Int) < 5 := by omega
            have d1 : (0 : Int) ≤ (j : Int) + (k : Int) := by omega
            have d2 : ((j : Int) + (k : Int)).toNat = j + k := by omega
            clear hnn
            go_wp2
            go_roundw
            case rel =>
              refine ⟨k + 1, O.set (j + k) (s + x * y), t, by omega, by go_num, HNI.out, fun z hz => ?_, HS⟩
              rcases List.mem_or_eq_of_mem_set hz with hz | rfl
              · have := HO.out z hz; omega
              · exact HNN.out
            case measure => simp [intOf]; omega
          · obtain ⟨q, hq⟩ : ∃ q, j + k = q + 5 := ⟨j + k - 5, by omega⟩
            have hcx := HI.out.o.cell q (by rw [HI.out.len]; omega)
            have hfx := HI.out.o.fr q
            have hsx := HO.out (O.getD q 0) (by rw [List.getD_eq_getElem?_getD]; simp [show q < O.length by rw [HI.out.len]; omega])
            have HS := hidden (HWRK.out q (x * y) rfl hq (by omega))
            generalize O.getD q 0 = s at hcx hsx HS
            have hnn : 0 ≤ s + x * y * 5 ∧ s + x * y * 5 ≤ 90071992547409920 * ((5 * j + (k + 1) : Nat) : Int) := by omega
            have HNN := hidden hnn
            have HNI := hidden (HI.out.set q (s + x * y * 5))
            have w1 : IntKind.u64.wrap (x * y * 5) = x * y * 5 := by rw [IntKind.wrap_u64]; omega
            have w2 : IntKind.u64.wrap (s + x * y * 5) = s + x * y * 5 := by rw [IntKind.wrap_u64]; omega
            have d0 : ¬ ((j : Int) + (k : Int) < 5) := by omega
            have d1 : (j : Int) + (k : Int) - 5 = (q : Int) := by omega
            have d2 : (0 : Int) ≤ (q : Int) := by omega
            have d3 : (q : Int) < 5 := by omega
            have HQ := hidden hq
            clear hnn hq
            go_wp2
            go_roundw
            case rel =>
              refine ⟨k + 1, O.set q (s + x * y * 5), _, by omega, by go_num, HNI.out, fun z hz => ?_, HS⟩
              rcases List.mem_or_eq_of_mem_set hz with hz | rfl
              · have := HO.out z hz; omega
              · exact HNN.out
            case measure => simp [intOf]; omega
        · have hk5 : k = 5 := by omega
          have hge : ¬ (k : Int) < 5 := by omega
          have ht5 := HT.out
          rw [hk5] at ht5
          have HT5 := hidden (HVU.out j hlt _ _ ht5)
          have HO5 : Hid (∀ z ∈ O, 0 ≤ z ∧ z ≤ 90071992547409920 * ((5 * (j + 1) : Nat) : Int)) := fun z hz => by have := HO.out z hz; omega
          clear hk5 ht5 HT HO
          go_wp2
          go_roundw
          case rel => exact ⟨j + 1, O, t, by omega, by go_num, HI.out, HO5.out, HT5⟩
          case measure => simp [intOf]; omega
    · have hj5 : j = 5 := by omega
      have hge : ¬ (j : Int) < 5 := by omega
      have ht5 := HT.out
      rw [hj5, HUE.eq] at ht5
      have HT5 := hidden ht5
      have hO1 : ∀ x ∈ O, 0 ≤ x ∧ x < 4611686018427387904 := fun x hx => by have := HO.out x hx; omega
      obtain ⟨a, b, c, d, e, he⟩ := five O HI.out.len
      have hOv : 0 ≤ num B26 O ∧ num B26 O < (137438953471 + 1) * 1361129467683753853853498429727072845824 := by
        have ha := hO1 a (by rw [he]; simp)
        have hb := hO1 b (by rw [he]; simp)
        have hc := hO1 c (by rw [he]; simp)
        have hd := hO1 d (by rw [he]; simp)
        have he' := hO1 e (by rw [he]; simp)
        rw [he, num5]
        omega
      clear he
      have hl1 := carried_lm O 137438953471 hOv.1 hOv.2
      have hn1 := carried_num O
      have hC1 := carried_any O HI.out.len hO1 wr
      have h1all := hl1.all 4611686018427387904 (by omega) (by omega)
      generalize carriedL O = R1 at *
      obtain ⟨a, b, c, d, e, he⟩ := five R1 hl1.len
      have hRv : 0 ≤ num B26 R1 ∧ num B26 R1 < (1 + 1) * 1361129467683753853853498429727072845824 := by
        have k0 := hl1.fst
        have k1 := hl1.rest 1 (by omega) (by omega)
        have k2 := hl1.rest 2 (by omega) (by omega)
        have k3 := hl1.rest 3 (by omega) (by omega)
        have k4 := hl1.rest 4 (by omega) (by omega)
        rw [he] at k0 k1 k2 k3 k4 ⊢
        rw [num5]
        simp at k0 k1 k2 k3 k4
        omega
      clear he
      have hl2 := carried_lm R1 1 hRv.1 hRv.2
      have hn2 := carried_num R1
      have hC2 := fun W => carried_any R1 hl1.len h1all W
      generalize carriedL R1 = R at *
      have HEX : Hid (∃ t, num B26 R + t * P130 = NA) := ⟨t + num B26 O / 1361129467683753853853498429727072845824 + num B26 R1 / 1361129467683753853853498429727072845824, by have := HT5.out; rw [hn2, hn1]; grind⟩
      have HC1 := hidden hC1
      have HC2 := hidden hC2
      have HL2 := hidden hl2
      have HIO := hidden (infoL O HI.out.len)
      have HIR := hidden (infoL R hl2.len)
      have HZR : Hid ((ints .u64 (List.replicate 5 (0 : Int))).size = (ints .u64 R).size) := by show _ = _; rw [ints_size, ints_size, hl2.len]; rfl
      clear hj5 ht5 HT hO1 hOv hl1 hn1 hC1 h1all hRv hl2 hn2 hC2 HT5
      go_wp2_with (first
        | (refine wpList_load_row rfl 92 _ rfl (n + 1 + 1 + 1) rfl 92 _ (0, 0) _ HI.out.o.heap Tryd.underlying92 rfl HIO.out ?_)
        | (go_at_call 87; (with_reducible refine (HC1.out).mono ?_); rintro e4 w4 ⟨rfl, hb4⟩; have HZ4 := hidden (HI.out.z.below hb4); have HB4 := hidden (HI.out.bel.trans (hb4.mono (Nat.le_of_lt (Nat.lt_of_le_of_lt (by omega) HI.out.z.lt)))); clear hb4)
        | (go_at_call 87; (with_reducible refine (HC2.out w4).mono ?_); rintro e5 w5 ⟨rfl, hb5⟩; have HZ5 := hidden (HZ4.out.below hb5); have HB5 := hidden (HB4.out.trans (hb5.mono (Nat.le_of_lt (Nat.lt_of_le_of_lt (by omega) HZ4.out.lt)))); clear hb5)
        | (refine wpList_store_row rfl 92 _ _ rfl (n + 1 + 1) (ints .u64 R) rfl rfl 92 _ HZ5.out.heap HIR.out HZR.out (onek .u64 R) ?_)
        | fail)
      refine bodyPost_ret (results_cell_row rfl _ _ (n + 1 + 1) 92 _ _ _ rfl (HZ5.out.row R).heap Tryd.underlying92 rfl HIR.out) rfl ?_
      exact ⟨R, rfl, HL2.out, HEX.out, by rw [HN.out]; exact below_setRow HB5.out (by omega) _⟩
end Go.Proofs.YtpocehpejbnemaaDoor

namespace Go.Proofs.YtpocehpejbnemaaDoor
open Go.RowKit
set_option linter.unusedVariables false

theorem infoB16 : (Tryd.prog.info? 133).map (·.size) = some 16 := by kernel_rfl
theorem Wb.setP {w : World} {g : Nat} {t : TypeId} {l : List Int} (h : Wb w g t l) (j : Nat) (v : Int) : Wb (w.setCell ⟨g, j, none⟩ (.int .u8 v)) g t (l.set j v) := by
  constructor
  rw [heap_setCell_same w g j _ _ _ h.heap]
  simp [List.map_set]
/-- A list made element by element. -/
def mk16 (xs : List Int) (f : Nat → Int → Int) : List Int := (List.range 16).map (fun i => f i (xs.getD i 0))
theorem mk16_len (xs : List Int) (f : Nat → Int → Int) : (mk16 xs f).length = 16 := by simp [mk16]
theorem mk16_get (xs : List Int) (f : Nat → Int → Int) (i : Nat) (hi : i < 16) : (mk16 xs f).getD i 0 = f i (xs.getD i 0) := by
  simp [mk16, List.getD_eq_getElem?_getD, hi]
theorem list_ext (l m : List Int) (n : Nat) (hl : l.length = n) (hm : m.length = n) (h : ∀ i, i < n → l.getD i 0 = m.getD i 0) : l = m := by
  refine List.ext_getElem (by omega) (fun i h1 h2 => ?_)
  have := h i (by omega)
  simpa [List.getD_eq_getElem?_getD, h1, h2] using this
theorem getD_setP (l : List Int) (k i : Nat) (v : Int) (hi : i < l.length) : (l.set k v).getD i 0 = if i = k then v else l.getD i 0 := by
  rw [List.getD_eq_getElem?_getD, List.getElem?_set]
  by_cases h : k = i
  · subst h; simp [hi]
  · rw [if_neg h, if_neg (fun e => h e.symm), List.getD_eq_getElem?_getD]
theorem mk16_set (xs : List Int) (f f' : Nat → Int → Int) (k : Nat) (v : Int) (h : ∀ i, i < 16 → f' i (xs.getD i 0) = if i = k then v else f i (xs.getD i 0)) : (mk16 xs f).set k v = mk16 xs f' := by
  refine list_ext _ _ 16 (by rw [List.length_set, mk16_len]) (mk16_len _ _) (fun i hi => ?_)
  rw [getD_setP _ _ _ _ (by rw [mk16_len]; exact hi), mk16_get _ _ _ hi, mk16_get _ _ _ hi, h i hi]
def cl1 (j i : Nat) (x : Int) : Int := if i % 4 = 3 ∧ i < 3 + 4 * j then x % 16 else x
def cl2 (j i : Nat) (x : Int) : Int := if i % 4 = 3 then x % 16 else if i % 4 = 0 ∧ 0 < i ∧ i < 4 + 4 * j then x - x % 4 else x
theorem cl1_zero (xs : List Int) (h : xs.length = 16) : mk16 xs (cl1 0) = xs := by
  refine list_ext _ _ 16 (mk16_len _ _) h (fun i hi => ?_)
  rw [mk16_get _ _ _ hi, cl1, if_neg (by omega)]
theorem cl1_succ (xs : List Int) (j : Nat) (hj : j < 4) : (mk16 xs (cl1 j)).set (3 + 4 * j) (xs.getD (3 + 4 * j) 0 % 16) = mk16 xs (cl1 (j + 1)) := by
  refine mk16_set _ _ _ _ _ (fun i hi => ?_)
  unfold cl1
  by_cases h : i = 3 + 4 * j
  · subst h; rw [if_pos (by omega), if_pos rfl]
  · rw [if_neg h]
    by_cases h2 : i % 4 = 3 ∧ i < 3 + 4 * j
    · rw [if_pos (by omega), if_pos h2]
    · rw [if_neg (by omega), if_neg h2]
theorem cl2_zero (xs : List Int) : mk16 xs (cl1 4) = mk16 xs (cl2 0) := by
  refine list_ext _ _ 16 (mk16_len _ _) (mk16_len _ _) (fun i hi => ?_)
  rw [mk16_get _ _ _ hi, mk16_get _ _ _ hi, cl1, cl2]
  by_cases h : i % 4 = 3
  · rw [if_pos (by omega), if_pos h]
  · rw [if_neg (by omega), if_neg h, if_neg (by omega)]
theorem cl2_succ (xs : List Int) (j : Nat) (hj : j < 3) : (mk16 xs (cl2 j)).set (4 + 4 * j) (xs.getD (4 + 4 * j) 0 - xs.getD (4 + 4 * j) 0 % 4) = mk16 xs (cl2 (j + 1)) := by
  refine mk16_set _ _ _ _ _ (fun i hi => ?_)
  unfold cl2
  by_cases h : i = 4 + 4 * j
  · subst h; rw [if_neg (by omega), if_pos (by omega), if_pos rfl]
  · rw [if_neg h]
    by_cases h3 : i % 4 = 3
    · rw [if_pos h3, if_pos h3]
    · rw [if_neg h3, if_neg h3]
      by_cases h2 : i % 4 = 0 ∧ 0 < i ∧ i < 4 + 4 * j
      · rw [if_pos (by omega), if_pos h2]
      · rw [if_neg (by omega), if_neg h2]
theorem clampL_get (xs : List Int) (n i : Nat) (hi : i < n) : (clampL xs n).getD i 0 = clampI i (xs.getD i 0) := by
  induction n with
  | zero => omega
  | succ n ih =>
    rw [clampL, List.getD_eq_getElem?_getD]
    by_cases h : i < n
    · rw [List.getElem?_append_left (by rw [clampL_len]; exact h), ← List.getD_eq_getElem?_getD, ih h]
    · have : i = n := by omega
      subst this
      rw [List.getElem?_append_right (by rw [clampL_len]; exact Nat.le_refl _), clampL_len]
      simp
theorem cl2_end (xs : List Int) : mk16 xs (cl2 3) = clampL xs 16 := by
  refine list_ext _ _ 16 (mk16_len _ _) (clampL_len _ _) (fun i hi => ?_)
  rw [mk16_get _ _ _ hi, clampL_get _ _ _ hi, cl2, clampI]
  by_cases h : i % 4 = 3
  · rw [if_pos h, if_pos h]
  · rw [if_neg h, if_neg h]
    by_cases h2 : i % 4 = 0 ∧ 0 < i
    · rw [if_pos h2, if_pos (by omega)]
    · rw [if_neg h2, if_neg (by omega)]
theorem clampL_rng (xs : List Int) (n : Nat) (h : ∀ i, 0 ≤ xs.getD i 0 ∧ xs.getD i 0 ≤ 255) : ∀ x ∈ clampL xs n, 0 ≤ x ∧ x ≤ 255 := by
  induction n with
  | zero => intro x hx; cases hx
  | succ n ih =>
    intro x hx
    rw [clampL] at hx
    rcases List.mem_append.1 hx with hx | hx
    · exact ih x hx
    · simp at hx
      subst hx
      exact clampI_rng _ _ (h n)
theorem andNot3 (x : Int) (h0 : 0 ≤ x) (h1 : x ≤ 255) : bits .andNot .u8 x 3 = x - x % 4 := by
  have : ∀ n : Fin 256, bits .andNot .u8 (n.val : Int) 3 = (n.val : Int) - (n.val : Int) % 4 := by decide +kernel
  have h := this ⟨x.toNat, by omega⟩
  simp only at h
  rwa [show ((x.toNat : Nat) : Int) = x by omega] at h
theorem and15 (x : Int) (h0 : 0 ≤ x) (h1 : x ≤ 255) : bits .and .u8 x 15 = x % 16 := u8_and15 x h0 (by omega)

set_option maxHeartbeats 1600000 in
set_option maxRecDepth 100000 in
theorem factor_any (p : Option Addr) (c : Nat) (xs : List Int) (w : World) (h : Byt w p 16 c xs) :
    Calls Tryd.prog 47 #[.slice p 16 c] w fun e w' => ∃ L, e = .returned (.agg (ints .u64 L)) ∧ Lm 67108864 67108864 L ∧ num B26 L = num 256 (clampL xs 16) ∧ Below w.heap.size w w' := by
  obtain ⟨i0, hi0, hz0, hz1, hz2⟩ := info_parts Tryd.infoByte
  have hXl := h.len
  have hXr := h.rng
  have HXL := Is.mk hXl
  have HXR := hidden (fun j => rng_getD hXr j)
  have HZ10 := Is.mk (cl1_zero xs hXl)
  have HS1 := hidden (cl1_succ xs)
  have HZ20 := Is.mk (cl2_zero xs)
  have HS2 := hidden (cl2_succ xs)
  have HE2 := Is.mk (cl2_end xs)
  have HRC := hidden (clampL_rng xs 16 (fun j => rng_getD hXr j))
  have HM := hidden (mk16_len xs)
  have HG1 := hidden (fun (j : Nat) (hj : j < 4) => (show (mk16 xs (cl1 j)).getD (3 + 4 * j) 0 = xs.getD (3 + 4 * j) 0 by rw [mk16_get _ _ _ (by omega), cl1, if_neg (by omega)]))
  have HG2 := hidden (fun (j : Nat) (hj : j < 3) => (show (mk16 xs (cl2 j)).getD (4 + 4 * j) 0 = xs.getD (4 + 4 * j) 0 by rw [mk16_get _ _ _ (by omega), cl2, if_neg (by omega), if_neg (by omega)]))
  have HX := hidden (fun W (hW : Below w.heap.size w W) => h.below hW)
  have hcap := h.cap
  clear h hXl hXr
  go_enter Tryd.func47, Tryd.ntmps47
  go_upto_region 2 with fail
  generalize hw1 : World.alloc _ (.cells _ 133) = w1
  have hZ : Wn .u64 w1 w.heap.size 92 (List.replicate 5 0) := by
    rw [← hw1]
    exact (Wn.new .u64 w 92 (List.replicate 5 0) _ rfl).alloc _
  have hA : Wb w1 (w.heap.size + 1) 133 (List.replicate 16 0) := by
    rw [← hw1]
    have := Wb.new (w.alloc (.cells #[.int .u64 0, .int .u64 0, .int .u64 0, .int .u64 0, .int .u64 0] 92)) 133 (List.replicate 16 0) _ rfl
    rw [World.size_alloc] at this
    exact this
  have hb : Below w.heap.size w w1 := by
    rw [← hw1]
    exact ((Below.refl _ w).alloc (Nat.le_refl _) _).alloc (by simp) _
  clear hw1
  have HX1 := hidden (HX.out w1 hb)
  obtain ⟨g, hg⟩ : ∃ g, w.heap.size = g := ⟨_, rfl⟩
  simp only [hg] at hA hZ hb ⊢
  have HG := hidden hg
  have HA0 := hidden hA
  have HZ0 := hidden hZ
  have HB0 := hidden hb
  clear hA hZ hb hg
  go_upto_region 3 with (first
    | (refine wpList_copy_row rfl _ _ _ _ rfl 5 Tryd.underlying22 (by rw [hi0]; simp [hz1]) (g + 1) 16 16 rfl (List.replicate 16 0) 133 HA0.out.heap (by simp) p 16 c xs rfl HX1.out (Nat.le_refl _) xs (by simp) ?_)
    | fail)
  intro w2 HA2 HGR
  have HZ2 := hidden (HZ0.out.grown HGR.out (by simp))
  have HB2 := hidden (HB0.out.grown HGR.out (Nat.le_of_lt HZ0.out.lt) (fun k e => by cases e; omega))
  clear HA0 HZ0 HB0 HGR HX1
  go_wp2
  go_loopw [4] (fun i wr => ∃ j : Nat, j ≤ 4 ∧ i = .int .i64 ((3 + 4 * j : Nat) : Int) ∧ Wb wr (g + 1) 133 (mk16 xs (cl1 j)) ∧ Wn .u64 wr g 92 (List.replicate 5 0) ∧ Below g w wr) (fun i _ => 24 - (intOf i).toNat)
  case atStart => exact ⟨0, by omega, rfl, by rw [HZ10.eq]; exact HA2.out, HZ2.out, HB2.out⟩
  case round =>
    obtain ⟨j, hj, rfl, ha, hz, hb⟩ := hrel
    have HA := hidden ha
    have HZ := hidden hz
    have HB := hidden hb
    clear ha hz hb HA2 HZ2 HB2
    by_cases hlt : j < 4
    · have hcx := HA.out.cell (3 + 4 * j) (by rw [HM.out]; omega)
      have hfx := HA.out.fr (3 + 4 * j)
      have hs1 := HS1.out j hlt
      have hrx := HXR.out (3 + 4 * j)
      rw [HG1.out j hlt] at hcx
      generalize xs.getD (3 + 4 * j) 0 = x at *
      have HS := Is.mk hs1
      have han := and15 x hrx.1 hrx.2
      have b0 : ((3 + 4 * j : Nat) : Int) < 16 := by omega
      have b1 : (0 : Int) ≤ ((3 + 4 * j : Nat) : Int) := by omega
      clear hs1
      obtain ⟨k, hk⟩ : ∃ k, 3 + 4 * j = k := ⟨_, rfl⟩
      have HK := Is.mk hk
      simp only [hk] at hcx hfx b0 b1 HS ⊢
      clear hk
      go_wp2
      go_roundw
      case rel => exact ⟨j + 1, by omega, by have := HK.eq; go_num, by rw [← HS.eq]; exact HA.out.setP k _, HZ.out.other _ _ (by simp), HB.out.setCell (by simp) _⟩
      case measure => simp [intOf]; omega
    · have hj4 : j = 4 := by omega
      have hge : ¬ ((3 + 4 * j : Nat) : Int) < 16 := by omega
      have hae := HA.out
      rw [hj4, HZ20.eq] at hae
      have HA3 := hidden hae
      clear hj4 hae HA
      go_wp2
      go_loopw [5] (fun i wr => ∃ j : Nat, j ≤ 3 ∧ i = .int .i64 ((4 + 4 * j : Nat) : Int) ∧ Wb wr (g + 1) 133 (mk16 xs (cl2 j)) ∧ Wn .u64 wr g 92 (List.replicate 5 0) ∧ Below g w wr) (fun i _ => 24 - (intOf i).toNat)
      case atStart => exact ⟨0, by omega, rfl, HA3.out, HZ.out, HB.out⟩
      case round =>
        obtain ⟨j, hj, rfl, ha, hz, hb⟩ := hrel
        have HAA := hidden ha
        have HZZ := hidden hz
        have HBB := hidden hb
        clear ha hz hb HA3 HZ HB
        by_cases hlt : j < 3
        · have hcx := HAA.out.cell (4 + 4 * j) (by rw [HM.out]; omega)
          have hfx := HAA.out.fr (4 + 4 * j)
          have hs1 := HS2.out j hlt
          have hrx := HXR.out (4 + 4 * j)
          rw [HG2.out j hlt] at hcx
          generalize xs.getD (4 + 4 * j) 0 = x at *
          have HS := Is.mk hs1
          have han := andNot3 x hrx.1 hrx.2
          have b0 : ((4 + 4 * j : Nat) : Int) < 16 := by omega
          have b1 : (0 : Int) ≤ ((4 + 4 * j : Nat) : Int) := by omega
          clear hs1
          obtain ⟨k, hk⟩ : ∃ k, 4 + 4 * j = k := ⟨_, rfl⟩
          have HK := Is.mk hk
          simp only [hk] at hcx hfx b0 b1 HS ⊢
          clear hk
          go_wp2
          go_roundw
          case rel => exact ⟨j + 1, by omega, by have := HK.eq; go_num, by rw [← HS.eq]; exact HAA.out.setP k _, HZZ.out.other _ _ (by simp), HBB.out.setCell (by simp) _⟩
          case measure => simp [intOf]; omega
        · have hj3 : j = 3 := by omega
          have hge3 : ¬ ((4 + 4 * j : Nat) : Int) < 16 := by omega
          have hae := HAA.out
          rw [hj3, HE2.eq] at hae
          have hby := hae.byt 16 (clampL_len _ _) (by decide) HRC.out
          have HC := hidden (numberOf_any _ 16 16 _ wr hby (by omega))
          clear hj3 hae HAA hby
          go_wp2_with (first
            | (go_at_call 48; (with_reducible refine (HC.out).mono ?_); rintro e w4 ⟨R, rfl, hl, hv, hb4⟩; have HZ4 := hidden (HZZ.out.below hb4); have HB4 := hidden (HBB.out.trans (hb4.mono (Nat.le_of_lt HZZ.out.lt))); have HL := hidden hl; have HV := Is.mk hv; have HIR := hidden (infoL R hl.len); have HZL : Hid ((ints .u64 (List.replicate 5 (0 : Int))).size = (ints .u64 R).size) := (show _ = _ by rw [ints_size, ints_size, hl.len]; rfl); clear hb4 hl hv)
            | (refine wpList_store_row rfl 92 _ _ rfl g (ints .u64 R) rfl rfl 92 _ HZ4.out.heap HIR.out HZL.out (onek .u64 R) ?_)
            | fail)
          refine bodyPost_ret (results_cell_row rfl _ _ g 92 _ _ _ rfl (HZ4.out.row R).heap Tryd.underlying92 rfl HIR.out) rfl ?_
          exact ⟨R, rfl, HL.out, HV.eq, by rw [HG.out]; exact below_setRow HB4.out (Nat.le_refl _) _⟩
end Go.Proofs.YtpocehpejbnemaaDoor

namespace Go.Proofs.YtpocehpejbnemaaDoor
open Go.RowKit
set_option linter.unusedVariables false

set_option maxHeartbeats 1600000 in
set_option maxRecDepth 100000 in
theorem reduced_any (L : List Int) (h : Lm 67108869 67108864 L) (w : World) :
    Calls Tryd.prog 53 #[.agg (ints .u64 L)] w fun e w' => ∃ R, e = .returned (.agg (ints .u64 R)) ∧ Lm 67108879 67108864 R ∧ num B26 R = num B26 L + 5 * ((num B26 L + 5) / 1361129467683753853853498429727072845824) ∧ Below w.heap.size w w' := by
  have hL := h.len
  have hall := h.all 4611686018427387904 (by omega) (by omega)
  obtain ⟨i0, hi0, hz0, hz1, hz2⟩ := info_parts infoU64
  have HIX := hidden (fun (j : Nat) (hj : j < 5) (w' : World) => run_indexN (k := .u64) (P := Tryd.prog) Tryd.underlying92 Tryd.underlying82 hi0 hz1 L hL j hj w')
  have HIS := hidden (infoL L hL)
  have HOS := hidden (fun j (hj : j < 5) => outC_succ 5 L j (by omega))
  have HOR := hidden (fun j (hj : j ≤ 5) => outC_rng 5 (by omega) (by omega) L hall j (by omega))
  have HO0 : Is (outC 5 L 0) 5 := ⟨by simp [outC, num]⟩
  have hq : outC 5 L 5 = (num B26 L + 5) / 1361129467683753853853498429727072845824 := by
    unfold outC
    rw [B265, List.take_of_length_le (by omega)]
  have hv : 0 ≤ num B26 L ∧ num B26 L < 1361129467683753853853498429727072845829 := by
    obtain ⟨a, b, c, d, e, rfl⟩ := five L hL
    have k0 := h.fst
    have k1 := h.rest 1 (by omega) (by omega)
    have k2 := h.rest 2 (by omega) (by omega)
    have k3 := h.rest 3 (by omega) (by omega)
    have k4 := h.rest 4 (by omega) (by omega)
    simp at k0 k1 k2 k3 k4
    rw [num5]
    omega
  have HQ := Is.mk hq
  have hk : 0 ≤ outC 5 L 5 ∧ outC 5 L 5 ≤ 1 := by rw [hq]; omega
  have HK := hidden hk
  have HX0 := hidden h.fst
  have HXR := hidden (fun j (hj : j < 5) => hall (L.getD j 0) (by rw [List.getD_eq_getElem?_getD]; simp [show j < L.length by omega]))
  have HLL := Is.mk hL
  have HRS := hidden (fun k (hk : 0 ≤ k ∧ k ≤ 1) => (show Lm 67108879 67108864 (L.set 0 (L.getD 0 0 + k * 5)) ∧ num B26 (L.set 0 (L.getD 0 0 + k * 5)) = num B26 L + 5 * k by
    refine ⟨?_, ?_⟩
    · obtain ⟨a, b, c, d, e, rfl⟩ := five L hL
      have k0 := h.fst
      have k1 := h.rest 1 (by omega) (by omega)
      have k2 := h.rest 2 (by omega) (by omega)
      have k3 := h.rest 3 (by omega) (by omega)
      have k4 := h.rest 4 (by omega) (by omega)
      simp at k0 k1 k2 k3 k4
      exact Lm.of _ _ _ _ _ _ _ (by simp; omega) (by omega) (by omega) (by omega) (by omega)
    · rw [num_set _ _ _ (by omega), Int.pow_zero]
      omega))
  clear hi0 hz0 hz1 hz2 hL hall hq hv hk h
  generalize hS : ints .u64 L = S at HIX HIS ⊢
  have HSS := Is.mk hS
  clear hS
  go_enter Tryd.func53, Tryd.ntmps53
  go_wp2_with (first
    | (refine wpList_load_row rfl 92 _ rfl w.heap.size rfl 92 S (0, 0) _ (heap_1st _ _ _ _) Tryd.underlying92 rfl HIS.out ?_)
    | fail)
  generalize hw1 : World.alloc _ (.cells _ 92) = w1
  have hA : Wn .u64 w1 w.heap.size 92 L := by
    rw [← hw1]
    exact (Wn.new .u64 w 92 L _ HSS.eq.symm).alloc _
  have hZ : Wn .u64 w1 (w.heap.size + 1) 92 (List.replicate 5 0) := by
    rw [← hw1]
    exact Wn.new' .u64 _ 92 (List.replicate 5 0) _ rfl _ (by simp)
  have hb : Below w.heap.size w w1 := by
    rw [← hw1]
    exact ((Below.refl _ w).alloc (Nat.le_refl _) _).alloc (by simp) _
  clear hw1
  obtain ⟨n, hn⟩ : ∃ n, w.heap.size = n := ⟨_, rfl⟩
  simp only [hn] at hA hZ hb ⊢
  have HN := hidden hn
  have HA := hidden hA
  have HZ := hidden hZ
  have HB := hidden hb
  clear hA hZ hb hn
  go_loopw [3, 7] (fun c i wr => ∃ j : Nat, j ≤ 5 ∧ i = .int .i64 j ∧ c = .int .u64 (outC 5 L j) ∧ w1 = wr) (fun _ i _ => 5 - (intOf i).toNat)
  case atStart => exact ⟨0, by omega, rfl, by rw [HO0.eq], rfl⟩
  case round =>
    obtain ⟨j, hj, rfl, rfl, rfl⟩ := hrel
    by_cases hlt : j < 5
    · have hix := HIX.out j hlt
      have hox := HOR.out j hj
      have hxx := HXR.out j hlt
      have HS2 := Is.mk (HOS.out j hlt)
      generalize L.getD j 0 = x at hix hxx HS2
      generalize outC 5 L j = c at hox HS2
      have wr0 : IntKind.u64.wrap (x + c) = x + c := by rw [IntKind.wrap_u64]; omega
      have b0 : (j : Int) < 5 := by omega
      have b1 : (0 : Int) ≤ (j : Int) := by omega
      go_wp2
      go_roundw
      case rel => exact ⟨j + 1, by omega, by go_num, by rw [HS2.eq], by trivial⟩
      case measure => simp [intOf]; omega
    · have hj5 : j = 5 := by omega
      have hge : ¬ (j : Int) < 5 := by omega
      rw [← hj5] at HK HQ
      clear hj5
      have hox := HK.out
      have hcx := HA.out.cell 0 (by rw [HLL.eq]; omega)
      have hfx := HA.out.fr 0
      have hmx := HX0.out
      have HRR0 := hidden (HRS.out (outC 5 L j) HK.out)
      generalize L.getD 0 0 = x at hcx hmx HRR0
      generalize outC 5 L j = c at hox HRR0 HQ ⊢
      have wr1 : IntKind.u64.wrap (c * 5) = c * 5 := by rw [IntKind.wrap_u64]; omega
      have wr2 : IntKind.u64.wrap (x + c * 5) = x + c * 5 := by rw [IntKind.wrap_u64]; omega
      have HE := hidden (HA.out.set 0 (x + c * 5))
      have HZE : Hid (Wn .u64 (w1.setCell ⟨n, 0, none⟩ (.int .u64 (x + c * 5))) (n + 1) 92 (List.replicate 5 0)) := HZ.out.other _ _ (by simp)
      have HBE := hidden (HB.out.setCell (p := ⟨n, 0, none⟩) (Nat.le_refl _) (.int .u64 (x + c * 5)))
      generalize L.set 0 (x + c * 5) = R at *
      have HIR := hidden (infoL R HRR0.out.1.len)
      have HZR : Hid ((ints .u64 (List.replicate 5 (0 : Int))).size = (ints .u64 R).size) := by show _ = _; rw [ints_size, ints_size, HRR0.out.1.len]; rfl
      go_wp2_with (first
        | (refine wpList_load_row rfl 92 _ rfl n rfl 92 _ (0, 0) _ HE.out.heap Tryd.underlying92 rfl HIR.out ?_)
        | (refine wpList_store_row rfl 92 _ _ rfl (n + 1) (ints .u64 R) rfl rfl 92 _ HZE.out.heap HIR.out HZR.out (onek .u64 R) ?_)
        | fail)
      refine bodyPost_ret (results_cell_row rfl _ _ (n + 1) 92 _ _ _ rfl (HZE.out.row R).heap Tryd.underlying92 rfl HIR.out) rfl ?_
      exact ⟨R, rfl, HRR0.out.1, by rw [HRR0.out.2, HQ.eq], by rw [HN.out]; exact below_setRow HBE.out (show n ≤ n + 1 by omega) _⟩

theorem take5 (a b c d e : Int) (j : Nat) (hj : j < 5) : j = 0 ∨ j = 1 ∨ j = 2 ∨ j = 3 ∨ j = 4 := by omega
/-- What is left of the first j limbs is small. -/
theorem rest_small (L : List Int) (h : Lm 268435456 268435456 L) (j : Nat) (hj : j ≤ 5) : 0 ≤ num B26 (L.take j) / 256 ^ (26 * j / 8) ∧ num B26 (L.take j) / 256 ^ (26 * j / 8) < 65536 := by
  obtain ⟨a, b, c, d, e, rfl⟩ := five L h.len
  have k0 := h.fst
  have k1 := h.rest 1 (by omega) (by omega)
  have k2 := h.rest 2 (by omega) (by omega)
  have k3 := h.rest 3 (by omega) (by omega)
  have k4 := h.rest 4 (by omega) (by omega)
  simp at k0 k1 k2 k3 k4
  have : j = 0 ∨ j = 1 ∨ j = 2 ∨ j = 3 ∨ j = 4 ∨ j = 5 := by omega
  rcases this with rfl | rfl | rfl | rfl | rfl | rfl <;> simp [num, B26] <;> omega
/-- A limb comes on top of what is left. -/
theorem rest_add (L : List Int) (h : L.length = 5) (j : Nat) (hj : j < 5) : num B26 (L.take (j + 1)) / 256 ^ (26 * j / 8) = num B26 (L.take j) / 256 ^ (26 * j / 8) + L.getD j 0 * 2 ^ (26 * j % 8) := by
  rw [num_take _ _ _ (by omega)]
  obtain ⟨a, b, c, d, e, rfl⟩ := five L h
  have : j = 0 ∨ j = 1 ∨ j = 2 ∨ j = 3 ∨ j = 4 := by omega
  rcases this with rfl | rfl | rfl | rfl | rfl <;> simp [num, B26] <;> omega
/-- The bytes so far stay. -/
theorem dig_stay (L : List Int) (h : L.length = 5) (j : Nat) (hj : j < 5) : dig 256 (26 * j / 8) (num B26 (L.take (j + 1))) = dig 256 (26 * j / 8) (num B26 (L.take j)) := by
  rw [num_take _ _ _ (by omega)]
  have e : B26 ^ j = 256 ^ (26 * j / 8) * 2 ^ (26 * j % 8) := by
    have : j = 0 ∨ j = 1 ∨ j = 2 ∨ j = 3 ∨ j = 4 := by omega
    rcases this with rfl | rfl | rfl | rfl | rfl <;> decide
  rw [e, Int.mul_assoc, dig_add _ (by omega)]
theorem mul_small2 (x p : Int) (hx : 0 ≤ x ∧ x < 268435456) (hp : 1 ≤ p ∧ p ≤ 33554432) : 0 ≤ x * p ∧ x * p ≤ 9007199254740992 := by
  refine ⟨Int.mul_nonneg hx.1 (by omega), ?_⟩
  have h1 : x * p ≤ 268435456 * p := Int.mul_le_mul_of_nonneg_right (Int.le_of_lt hx.2) (by omega)
  omega

set_option maxHeartbeats 1600000 in
set_option maxRecDepth 100000 in
theorem lowest_any (L : List Int) (h : Lm 268435456 268435456 L) (w : World) :
    Calls Tryd.prog 52 #[.agg (ints .u64 L)] w fun e w' => ∃ v, e = .returned v ∧ Own w' w.heap.size 5 v (dig 256 16 (num B26 L)) ∧ Below w.heap.size w w' := by
  have hL := h.len
  obtain ⟨i0, hi0, hz0, hz1, hz2⟩ := info_parts infoU64
  obtain ⟨ib, hib, hb0, hb1, hb2⟩ := info_parts Tryd.infoByte
  have HIX := hidden (fun (j : Nat) (hj : j < 5) (w' : World) => run_indexN (k := .u64) (P := Tryd.prog) Tryd.underlying92 Tryd.underlying82 hi0 hz1 L hL j hj w')
  have HIS := hidden (infoL L hL)
  obtain ⟨V, hV⟩ : ∃ V : Nat → Int, V = fun j => num B26 (L.take j) := ⟨_, rfl⟩
  have HRS : Hid (∀ j, j ≤ 5 → 0 ≤ V j / 256 ^ (26 * j / 8) ∧ V j / 256 ^ (26 * j / 8) < 65536) := fun j hj => by rw [hV]; exact rest_small L h j hj
  have HRA : Hid (∀ j, j < 5 → V (j + 1) / 256 ^ (26 * j / 8) = V j / 256 ^ (26 * j / 8) + L.getD j 0 * 2 ^ (26 * j % 8)) := fun j hj => by rw [hV]; exact rest_add L hL j hj
  have HDS : Hid (∀ j, j < 5 → dig 256 (26 * j / 8) (V (j + 1)) = dig 256 (26 * j / 8) (V j)) := fun j hj => by rw [hV]; exact dig_stay L hL j hj
  have HV0 : Is (V 0) 0 := ⟨by rw [hV]; simp [num]⟩
  have HVE : Is (num B26 L) (V 5) := ⟨by rw [hV]; simp only; rw [List.take_of_length_le (by omega)]⟩
  have HXR := hidden (fun j (hj : j < 5) => h.all 268435456 (Int.le_refl _) (Int.le_refl _) (L.getD j 0) (by rw [List.getD_eq_getElem?_getD]; simp [show j < L.length by omega]))
  rw [HVE.eq]
  clear hi0 hz0 hz1 hz2 hL hV HVE
  generalize hS : ints .u64 L = S at HIX HIS ⊢
  have HSS := Is.mk hS
  clear hS
  go_enter Tryd.func52, Tryd.ntmps52
  go_wp2_with (first
    | (at_make; refine wpList_make_byt _ rfl _ _ 22 rfl w.heap.size 5 ib Tryd.underlying22 hib hb0 hb1 hb2 _ _ _ _ 0 16 rfl rfl ?m1 ?m2 ?m3 ?m4 ?m5 ?_)
    | fail)
  case m1 => rfl
  case m2 => rfl
  case m3 => omega
  case m4 => omega
  case m5 => simp
  intro w1 hown hgr
  have HO1 := hidden hown
  have HB1 := hidden (((Below.refl w.heap.size w).alloc (Nat.le_refl _) (.cells S 92)).grown hgr (by simp) (by intro k hk; simp at hk))
  have HSB : Hid (w1.heap[w.heap.size]? = some (.cells S 92 (0, 0))) := by
    show w1.heap[w.heap.size]? = _
    rw [hgr.block _ (by simp) (by simp), heap_alloc_new]
  clear hown hgr
  obtain ⟨n, hn⟩ : ∃ n, w.heap.size = n := ⟨_, rfl⟩
  simp only [hn] at HO1 HB1 HSB ⊢
  have HN := hidden hn
  have HD0 : Hid (Own w1 n 5 (.slice (some ⟨n + 1, 0, none⟩) 0 16) (dig 256 (26 * 0 / 8) (V 0))) := HO1.out
  have HR0 : Is (V 0 / 256 ^ (26 * 0 / 8)) 0 := ⟨by rw [HV0.eq]; simp⟩
  clear hn HO1
  go_wp2_with (first
    | (refine wpList_load_row rfl 92 _ rfl n rfl 92 S (0, 0) _ HSB.out Tryd.underlying92 rfl HIS.out ?_)
    | fail)
  go_loopw [3, 4, 5, 10] (fun u r b i wr => ∃ j : Nat, j ≤ 5 ∧ i = .int .i64 j ∧ b = .int .i64 ((26 * j % 8 : Nat) : Int) ∧ r = .int .u64 (V j / 256 ^ (26 * j / 8)) ∧ Own wr n 5 u (dig 256 (26 * j / 8) (V j)) ∧ Below n w wr) (fun _ _ _ i _ => 5 - (intOf i).toNat)
  case atStart => exact ⟨0, by omega, rfl, rfl, by rw [HR0.eq], HD0.out, HB1.out⟩
  case round =>
    obtain ⟨j, hj, rfl, rfl, rfl, ho, hb⟩ := hrel
    rename_i uo
    have HO := hidden ho
    have HB := hidden hb
    clear ho hb HD0 HB1 HSB
    by_cases hlt : j < 5
    · have hix := HIX.out j hlt
      have hxx := HXR.out j hlt
      have hrs := HRS.out j hj
      have HRA2 := Is.mk (HRA.out j hlt)
      have ho2 := HO.out
      rw [← HDS.out j hlt] at ho2
      have HO2 := hidden ho2
      have HM0 := hidden (show 26 * j % 8 + 8 * (26 * j / 8) = 26 * j by omega)
      generalize L.getD j 0 = x at hix hxx HRA2
      generalize V j / 256 ^ (26 * j / 8) = r at hrs HRA2 ⊢
      have ht6 : 26 * j % 8 ≤ 7 := by omega
      have HK0 : Hid (26 * j / 8 ≤ 16 ∧ 26 * j / 8 + 3 ≤ 26 * (j + 1) / 8 ∧ 26 * (j + 1) / 8 ≤ 16) := by show 26 * j / 8 ≤ 16 ∧ 26 * j / 8 + 3 ≤ 26 * (j + 1) / 8 ∧ 26 * (j + 1) / 8 ≤ 16; omega
      have HE1 := hidden (show 26 * (j + 1) / 8 * 8 + 26 * (j + 1) % 8 = 26 * (j + 1) by omega)
      generalize 26 * j % 8 = t at *
      generalize 26 * j / 8 = k0 at *
      have hmx := mul_small2 x (2 ^ t) hxx (pow_small t (by omega))
      have w0 : IntKind.u64.wrap (x * 2 ^ t) = x * 2 ^ t := by rw [IntKind.wrap_u64]; omega
      have w1' : IntKind.u64.wrap (r + x * 2 ^ t) = r + x * 2 ^ t := by rw [IntKind.wrap_u64]; omega
      have HR2 : Is (V (j + 1) / 256 ^ k0) (r + x * 2 ^ t) := HRA2
      have hr2 : 0 ≤ r + x * 2 ^ t ∧ r + x * 2 ^ t < 18446744073709551616 := by omega
      have b0 : (j : Int) < 5 := by omega
      have b1 : (0 : Int) ≤ (j : Int) := by omega
      have b2 : (0 : Int) ≤ (t : Int) := by omega
      have b3 : IntKind.i64.wrap ((t : Int) + 26) = ((t + 26 : Nat) : Int) := by rw [wraps_i64 _ (by omega) (by omega)]; omega
      clear HO HRA2 ho2 hmx
      have HR3 : Is (r + x * 2 ^ t) (V (j + 1) / 256 ^ k0) := ⟨HR2.eq.symm⟩
      go_wp2
      generalize r + x * 2 ^ t = rr at *
      go_loopw [3, 4, 5] (fun u r b wr => ∃ (k : Nat) (bt : Nat) (rv : Int), k0 ≤ k ∧ k ≤ 26 * (j + 1) / 8 ∧ Hid (bt + 8 * k = 26 * (j + 1)) ∧ b = .int .i64 (bt : Int) ∧ r = .int .u64 rv ∧ 0 ≤ rv ∧ rv < 18446744073709551616 ∧ Is rv (V (j + 1) / 256 ^ k) ∧ Own wr n 5 u (dig 256 k (V (j + 1))) ∧ Below n w wr) (fun _ _ b _ => (intOf b).toNat)
      case atStart => exact ⟨k0, t + 26, rr, Nat.le_refl _, by have := HK0.out; omega, hidden (by have := HM0.out; omega), rfl, rfl, hr2.1, hr2.2, HR3, HO2.out, HB.out⟩
      case round =>
        obtain ⟨k, bt, rv, hk0, hk, HBT, rfl, rfl, hrv0, hrv1, HRV, ho, hb⟩ := hrel
        rename_i uo2
        have HO := hidden ho
        have HBB := hidden hb
        clear ho hb HO2 HB HR2 HR3
        by_cases hkt : k < 26 * (j + 1) / 8
        · have hb8 : 8 ≤ (bt : Int) := by have := HBT.out; omega
          have hge : ¬ (bt : Int) < 8 := by omega
          have hbt : (bt : Int) - 8 = ((bt - 8 : Nat) : Int) := by omega
          have hb40 : bt ≤ 40 := by have := HBT.out; have := HM0.out; have := HK0.out; omega
          have HNX := Is.mk (dig_succ 256 (by omega) k (V (j + 1)))
          have HRN : Is (rv / 256) (V (j + 1) / 256 ^ (k + 1)) := ⟨by rw [HRV.eq, Int.ediv_ediv_of_nonneg (by have := pow_pos' (b := 256) (by omega) k; omega), Int.pow_succ]⟩
          rw [← HRV.eq] at HNX
          have HDL := Is.mk (dig_len 256 k (V (j + 1)))
          go_wp2_with (at_builtin; refine wpList_append_byt _ rfl _ _ 22 rfl n 5 ib (.int .u8 0) Tryd.underlying22 hib hb0 hb1 hb2 rfl _ _ rfl (HO.out.alloc _) _ _ _ _ _ rfl (one_byte _ _ (rv % 256) ?c0 ?c1) rfl ?c2 ?c3 ?_)
          case c0 => omega
          case c2 => rw [HDL.eq]; have := HK0.out; omega
          case c3 => have := HBB.out.size; have := HN.out; simp; omega
          intro u' w2 hown2 hg2
          have HB2 := hidden ((HBB.out.alloc (by have := HBB.out.size; have := HN.out; omega) _).grown hg2 (by have := HBB.out.size; have := HN.out; simp; omega) (fun k hk => (HO.out.lt k hk).1))
          rw [← HNX.eq] at hown2
          have HO2 := hidden hown2
          have HMS := hidden (show (bt : Int).toNat = bt by omega)
          clear hown2 hg2 HO HBB
          go_wp2
          go_roundw
          case rel => exact ⟨k + 1, bt - 8, rv / 256, by omega, by omega, hidden (by have := HBT.out; omega), by go_num, by go_num, by omega, by omega, HRN, HO2.out, HB2.out⟩
          case measure => simp [intOf]; omega
        · have hb8 : (bt : Int) < 8 := by have := HBT.out; have := HE1.out; omega
          have hge : ¬ (8 ≤ (bt : Int)) := by omega
          have hke : k = 26 * (j + 1) / 8 := by omega
          have hbe : bt = 26 * (j + 1) % 8 := by have := HBT.out; omega
          have ho2 := HO.out
          have hrv := HRV.eq
          rw [hke] at ho2 hrv
          have HOE := hidden ho2
          have HRE := Is.mk hrv
          have HBE := Is.mk hbe
          clear hke hbe ho2 hrv HO
          go_wp2
          go_roundw
          case rel => exact ⟨j + 1, by omega, by go_num, by rw [HBE.eq], by rw [HRE.eq], HOE.out, HBB.out⟩
          case measure => simp [intOf]; omega
    · have hj5 : j = 5 := by omega
      have hge : ¬ (j : Int) < 5 := by omega
      have ho2 := HO.out
      rw [hj5] at ho2
      have HOE := hidden ho2
      clear hj5 ho2 HO
      go_wp2
      go_ret
      exact ⟨_, rfl, by rw [HN.out]; exact HOE.out, by rw [HN.out]; exact HB.out⟩
end Go.Proofs.YtpocehpejbnemaaDoor
