/-
  Plain mathematics, no program: the number that bytes make, the highest byte first.
-/
import Derived.WalkKit
namespace Go.Proofs.Ytilnbmlbahflkaa

def val (l : List Int) : Int := l.foldl (fun v x => v * 256 + x) 0
/-- The number of width bytes at a place, and whether there is one. -/
def numR (xs : List Int) (a k : Int) : Int × Bool := if 1 ≤ k ∧ k ≤ 8 ∧ 0 ≤ a ∧ a + k ≤ xs.length then (val ((xs.drop a.toNat).take k.toNat), true) else (0, false)
/-- n bytes at a place, and whether there are as many. -/
def pieceR (xs : List Int) (a k : Int) : List Int × Bool := if 0 ≤ a ∧ 0 ≤ k ∧ a + k ≤ xs.length then ((xs.drop a.toNat).take k.toNat, true) else ([], false)
/-- The lowest k bytes of v, the highest byte first. -/
def be : Nat → Int → List Int
  | 0, _ => []
  | k + 1, v => v / 2 ^ (8 * k) % 256 :: be k v
/-- What is appended: the lowest width bytes, if that is a width. -/
def putR (xs : List Int) (v k : Int) : List Int := if 1 ≤ k ∧ k ≤ 8 then xs ++ be k.toNat v else xs

/-- The sum of the first k bytes as numbers of two bytes each. -/
def sm (xs : List Int) : Nat → Int
  | 0 => 0
  | k + 1 => sm xs k + (if k % 2 = 0 then xs.getD k 0 * 256 else xs.getD k 0)
theorem wraps_i64 (n : Int) (h₀ : 0 ≤ n) (h₁ : n < 2 ^ 63) : IntKind.i64.wrap n = n := by
  rw [IntKind.wrap_i64]
  omega
/-- A sum, folded into 16 bits. -/
def fld (s : Int) : Int := if s = 0 then 0 else (s - 1) % 65535 + 1
def sumR (xs : List Int) : Int := 65535 - fld (sm xs xs.length)

/-- The weight of a place in a sum of numbers of two bytes. -/
def wt (i : Nat) : Int := if i % 2 = 0 then 256 else 1
/-- The lexicographic order of bytes: -1, 0 or 1. -/
def cmpR : List Int → List Int → Int
  | [], [] => 0
  | [], _ :: _ => -1
  | _ :: _, [] => 1
  | x :: xs, y :: ys => if x < y then -1 else if y < x then 1 else cmpR xs ys
theorem cmpR_refl (xs : List Int) : cmpR xs xs = 0 := by induction xs with
  | nil => rfl
  | cons x xs ih => simp [cmpR, ih]
theorem cmpR_eq : ∀ (xs ys : List Int), cmpR xs ys = 0 → xs = ys
  | [], [], _ => rfl
  | [], _ :: _, h => by simp [cmpR] at h
  | _ :: _, [], h => by simp [cmpR] at h
  | x :: xs, y :: ys, h => by
    unfold cmpR at h
    split at h
    · simp at h
    · split at h
      · simp at h
      · rw [cmpR_eq xs ys h, show x = y by omega]
/-- Where the first k bytes agree, the rest decides. -/
theorem cmpR_step (xs ys : List Int) (k : Nat) (hx : k < xs.length) (hy : k < ys.length) (h : cmpR xs ys = cmpR (xs.drop k) (ys.drop k)) :
    (xs.getD k 0 < ys.getD k 0 → cmpR xs ys = -1) ∧ (ys.getD k 0 < xs.getD k 0 → cmpR xs ys = 1) ∧ (xs.getD k 0 = ys.getD k 0 → cmpR xs ys = cmpR (xs.drop (k + 1)) (ys.drop (k + 1))) := by
  have e1 : xs.getD k 0 = xs[k] := by simp [List.getD_eq_getElem?_getD, List.getElem?_eq_getElem hx]
  have e2 : ys.getD k 0 = ys[k] := by simp [List.getD_eq_getElem?_getD, List.getElem?_eq_getElem hy]
  rw [e1, e2, h, List.drop_eq_getElem_cons hx, List.drop_eq_getElem_cons hy]
  refine ⟨fun hl => by simp [cmpR, hl], fun hl => by simp [cmpR, hl, show ¬ xs[k] < ys[k] by omega], fun hl => by simp [cmpR, hl]⟩
theorem cmpR_end (xs ys : List Int) (k : Nat) (hk : xs.length ≤ k ∨ ys.length ≤ k) (hx : k ≤ xs.length) (hy : k ≤ ys.length) (h : cmpR xs ys = cmpR (xs.drop k) (ys.drop k)) :
    (xs.length < ys.length → cmpR xs ys = -1) ∧ (ys.length < xs.length → cmpR xs ys = 1) ∧ (xs.length = ys.length → cmpR xs ys = 0) := by
  rw [h]
  refine ⟨fun hl => ?_, fun hl => ?_, fun hl => ?_⟩
  · obtain rfl : k = xs.length := by omega
    rw [List.drop_length, List.drop_eq_getElem_cons (by omega)]; rfl
  · obtain rfl : k = ys.length := by omega
    rw [List.drop_length, List.drop_eq_getElem_cons (by omega)]; rfl
  · obtain rfl : k = xs.length := by omega
    rw [List.drop_length, hl, List.drop_length]; rfl
end Go.Proofs.Ytilnbmlbahflkaa
