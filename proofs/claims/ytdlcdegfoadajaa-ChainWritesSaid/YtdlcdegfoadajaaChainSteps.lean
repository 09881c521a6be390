/-
  Plain mathematics, no program: a round of the loops that read and write chains of payloads.
-/
import Derived.Test.YtdlcdegfoadajaaChainMath
import Derived.Test.YtdlcdegfoadajaaBytes
import Derived.Laws.Entries
namespace Go.Proofs.Ytdlcdegfoadajaa
open Go.RowKit
set_option linter.unusedVariables false

theorem getD_drop (xs : List Int) (a i : Nat) : (xs.drop a).getD i 0 = xs.getD (a + i) 0 := by simp [List.getD_eq_getElem?_getD, List.getElem?_drop]
theorem val_two (a b : Int) : val [a, b] = a * 256 + b := by simp [val]
theorem take_two (xs : List Int) (a : Nat) (h : a + 2 ≤ xs.length) : (xs.drop a).take 2 = [xs.getD a 0, xs.getD (a + 1) 0] := by
  rw [List.drop_eq_getElem_cons (by omega), List.take_succ_cons, List.drop_eq_getElem_cons (by omega), List.take_succ_cons, List.take_zero]
  simp [List.getD_eq_getElem?_getD, List.getElem?_eq_getElem (show a < xs.length by omega), List.getElem?_eq_getElem (show a + 1 < xs.length by omega)]
/-- The length that stands in the head at a place. -/
theorem lenC_at (xs : List Int) (a : Nat) (h : a + 4 ≤ xs.length) : val ((xs.drop (a + 2)).take 2) = lenC (xs.drop a) := by
  rw [take_two _ _ (by omega), val_two, lenC, getD_drop, getD_drop]
theorem lenC_bd (xs : List Int) (h : ∀ x ∈ xs, 0 ≤ x ∧ x ≤ 255) : 0 ≤ lenC xs ∧ lenC xs ≤ 65535 := by
  have h2 := rng_getD h 2
  have h3 := rng_getD h 3
  unfold lenC
  omega
/-- The payload at a place. -/
theorem headC_at (kind : Int) (xs : List Int) (a : Nat) : headC kind (xs.drop a) = ⟨kind, decide (128 ≤ xs.getD (a + 1) 0), (xs.drop (a + 4)).take ((lenC (xs.drop a)).toNat - 4)⟩ := by
  rw [headC, getD_drop, List.drop_drop]
/-- The critical bit. -/
theorem crit_bit (x : Int) (h : 0 ≤ x ∧ x ≤ 255) : (bits .and .u8 x 128 != 0) = decide (128 ≤ x) := by
  obtain ⟨x, rfl⟩ := Int.eq_ofNat_of_zero_le h.1
  have : ∀ j : Fin 256, (bits .and .u8 ((j.val : Nat) : Int) 128 != 0) = decide (128 ≤ ((j.val : Nat) : Int)) := by decide +kernel
  exact this ⟨x, by omega⟩

section
variable {left : Nat} {kind : Int} {xs : List Int} {a : Nat} {out : List Raw}
/-- The rounds of the reader: nothing left to come, too many, too short, a wrong length, the last one, one more. -/
theorem round_end (h : kind = 0) : preC out (parseC left kind (xs.drop a)) = if xs.length - a ≠ 0 then failC 2 else ⟨out, 0, 0⟩ := by
  subst h
  rw [parseC_end, List.length_drop]
  split
  · exact preC_fail _ _ (by decide)
  · simp [preC]
theorem round_many (h : kind ≠ 0) : preC out (parseC 0 kind (xs.drop a)) = failC 10 := by rw [parseC_many _ _ h, preC_fail _ _ (by decide)]
theorem round_short (h : kind ≠ 0) (h4 : xs.length - a < 4) : preC out (parseC (left + 1) kind (xs.drop a)) = failC 1 := by
  rw [parseC_more _ _ _ h, List.length_drop, if_pos h4, preC_fail _ _ (by decide)]
theorem round_wrong (h : kind ≠ 0) (h4 : 4 ≤ xs.length - a) (hl : lenC (xs.drop a) < 4 ∨ ((xs.length - a : Nat) : Int) < lenC (xs.drop a)) : preC out (parseC (left + 1) kind (xs.drop a)) = failC 2 := by
  rw [parseC_more _ _ _ h, List.length_drop, if_neg (by omega), if_pos hl, preC_fail _ _ (by decide)]
theorem round_last (h : kind ≠ 0) (h4 : 4 ≤ xs.length - a) (hl : ¬ (lenC (xs.drop a) < 4 ∨ ((xs.length - a : Nat) : Int) < lenC (xs.drop a))) (hk : lastK kind = true) :
    preC out (parseC (left + 1) kind (xs.drop a)) = if ((xs.length - a : Nat) : Int) ≠ lenC (xs.drop a) then failC 2 else ⟨out ++ [headC kind (xs.drop a)], xs.getD a 0, 0⟩ := by
  rw [parseC_more _ _ _ h, List.length_drop, if_neg (by omega), if_neg hl, if_pos hk]
  split
  · exact preC_fail _ _ (by decide)
  · rw [getD_drop]
    simp [preC]
theorem round_more (h : kind ≠ 0) (h4 : 4 ≤ xs.length - a) (hl : ¬ (lenC (xs.drop a) < 4 ∨ ((xs.length - a : Nat) : Int) < lenC (xs.drop a))) (hk : ¬ lastK kind = true) :
    preC out (parseC (left + 1) kind (xs.drop a)) = preC (out ++ [headC kind (xs.drop a)]) (parseC left (xs.getD a 0) (xs.drop (a + (lenC (xs.drop a)).toNat))) := by
  rw [parseC_more _ _ _ h, List.length_drop, if_neg (by omega), if_neg hl, if_neg hk, preC_pre, getD_drop, List.drop_drop]
  rfl
end

section
variable {last : Int} {l : List Raw}
/-- The rounds of the writer. -/
theorem enc_step (i : Nat) (hi : i < l.length) : encC last (l.drop i) = oneC (nextC last (l.drop (i + 1))) l[i] ++ encC last (l.drop (i + 1)) := by
  rw [List.drop_eq_getElem_cons hi]
  rfl
theorem enc_end (i : Nat) (hi : l.length ≤ i) : encC last (l.drop i) = [] := by
  rw [List.drop_of_length_le hi]
  rfl
theorem next_more (i : Nat) (hi : i + 1 < l.length) : nextC last (l.drop (i + 1)) = l[i + 1].k := by
  rw [List.drop_eq_getElem_cons hi]
  rfl
theorem next_end (i : Nat) (hi : l.length ≤ i + 1) : nextC last (l.drop (i + 1)) = last := by
  rw [List.drop_of_length_le hi]
  rfl
theorem err_step (i : Nat) (hi : i < l.length) : errC (l.drop i) = if l[i].k < 1 ∨ 255 < l[i].k then 5 else if 65531 < l[i].b.length then 11 else if lastK l[i].k = true ∧ i + 1 < l.length then 7 else errC (l.drop (i + 1)) := by
  rw [List.drop_eq_getElem_cons hi, errC]
  have : (l.drop (i + 1) ≠ []) ↔ i + 1 < l.length := by
    rw [ne_eq, List.drop_eq_nil_iff]
    omega
  simp only [this]
theorem err_end (i : Nat) (hi : l.length ≤ i) : errC (l.drop i) = 0 := by
  rw [List.drop_of_length_le hi]
  rfl
theorem ends_last : ∀ (l : List Raw) (h : 0 < l.length), endsC l = lastK (l[l.length - 1]).k
  | [r], _ => rfl
  | _ :: r :: l, _ => by
    rw [endsC, ends_last (r :: l) (by simp)]
    simp
end
end Go.Proofs.Ytdlcdegfoadajaa
