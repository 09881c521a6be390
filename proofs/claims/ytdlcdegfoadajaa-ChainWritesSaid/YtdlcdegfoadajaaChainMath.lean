/-
  Plain mathematics, no program: chains of payloads as bytes, written and read.
-/
import Derived.Test.YtdlcdegfoadajaaNum
namespace Go.Proofs.Ytdlcdegfoadajaa
set_option linter.unusedVariables false

/-- A payload: its type, its critical bit, its body. -/
structure Raw where
  k : Int
  c : Bool
  b : List Int
  deriving DecidableEq

/-- A payload of this type is the last one. -/
def lastK (k : Int) : Bool := k == 46 || k == 53
/-- The length that stands in a payload's head. -/
def lenC (xs : List Int) : Int := xs.getD 2 0 * 256 + xs.getD 3 0
/-- Results: the payloads, the type of the first one inside, the error. -/
structure ResC where
  l : List Raw
  n : Int
  e : Int
  deriving DecidableEq
def failC (e : Int) : ResC := ⟨[], 0, e⟩
/-- Payloads that were read before, ahead of a result. -/
def preC (out : List Raw) (r : ResC) : ResC := if r.e ≠ 0 then failC r.e else ⟨out ++ r.l, r.n, 0⟩
theorem preC_nil (r : ResC) (h : r.e ≠ 0 → r = failC r.e) : preC [] r = r := by
  unfold preC
  split
  · rename_i he; exact (h he).symm
  · rename_i he
    have : r.e = 0 := by omega
    cases r
    simp_all
theorem preC_fail (out : List Raw) (e : Int) (h : e ≠ 0) : preC out (failC e) = failC e := by simp [preC, failC, h]
theorem preC_pre (a b : List Raw) (r : ResC) : preC a (preC b r) = preC (a ++ b) r := by
  unfold preC
  by_cases h : r.e = 0
  · simp [h]
  · simp [h, failC]

/-- The payload at the beginning of the bytes. -/
def headC (kind : Int) (xs : List Int) : Raw := ⟨kind, decide (128 ≤ xs.getD 1 0), (xs.drop 4).take ((lenC xs).toNat - 4)⟩
/-- What is read: so many payloads may come, the type of the next one, the bytes. -/
def parseC : Nat → Int → List Int → ResC
  | left, kind, xs =>
    if kind = 0 then (if xs.length ≠ 0 then failC 2 else ⟨[], 0, 0⟩)
    else match left with
      | 0 => failC 10
      | left + 1 =>
        if xs.length < 4 then failC 1
        else if lenC xs < 4 ∨ (xs.length : Int) < lenC xs then failC 2
        else if lastK kind then (if (xs.length : Int) ≠ lenC xs then failC 2 else ⟨[headC kind xs], xs.getD 0 0, 0⟩)
        else preC [headC kind xs] (parseC left (xs.getD 0 0) (xs.drop (lenC xs).toNat))
theorem parseC_end (left : Nat) (xs : List Int) : parseC left 0 xs = if xs.length ≠ 0 then failC 2 else ⟨[], 0, 0⟩ := by
  cases left <;> simp [parseC]
theorem parseC_many (kind : Int) (xs : List Int) (h : kind ≠ 0) : parseC 0 kind xs = failC 10 := by
  rw [parseC, if_neg h]
theorem parseC_more (left : Nat) (kind : Int) (xs : List Int) (h : kind ≠ 0) : parseC (left + 1) kind xs =
    if xs.length < 4 then failC 1
    else if lenC xs < 4 ∨ (xs.length : Int) < lenC xs then failC 2
    else if lastK kind then (if (xs.length : Int) ≠ lenC xs then failC 2 else ⟨[headC kind xs], xs.getD 0 0, 0⟩)
    else preC [headC kind xs] (parseC left (xs.getD 0 0) (xs.drop (lenC xs).toNat)) := by
  rw [parseC, if_neg h]
def parseTop (first : Int) (xs : List Int) : ResC := if first < 0 ∨ 255 < first then failC 5 else parseC 40 first xs

/-- One payload's bytes, the next one's type ahead. -/
def oneC (next : Int) (r : Raw) : List Int := [next % 256, if r.c then 128 else 0] ++ (be 2 ((r.b.length : Int) + 4) ++ r.b)
/-- The type that stands ahead. -/
def nextC (last : Int) : List Raw → Int
  | [] => last
  | r :: _ => r.k
def encC (last : Int) : List Raw → List Int
  | [] => []
  | r :: l => oneC (nextC last l) r ++ encC last l

/-- The first error of the payloads. -/
def errC : List Raw → Int
  | [] => 0
  | r :: l => if r.k < 1 ∨ 255 < r.k then 5 else if 65531 < r.b.length then 11 else if lastK r.k = true ∧ l ≠ [] then 7 else errC l
/-- Is the last payload sealed or a fragment? -/
def endsC : List Raw → Bool
  | [] => false
  | [r] => lastK r.k
  | _ :: r :: l => endsC (r :: l)
/-- The type of the first payload, the bytes, the error. -/
def buildC (l : List Raw) (last : Int) : Int × List Int × Int :=
  if 40 < l.length then (0, [], 10) else if errC l ≠ 0 then (0, [], errC l) else if last < 0 ∨ 255 < last then (0, [], 5)
  else if last ≠ 0 ∧ endsC l = false then (0, [], 7) else (nextC 0 l, encC last l, 0)

theorem be2 (v : Int) (h : 0 ≤ v ∧ v ≤ 65535) : be 2 v = [v / 256, v % 256] := by
  simp [be]
  omega
theorem oneC_len (next : Int) (r : Raw) : (oneC next r).length = r.b.length + 4 := by
  simp [oneC, be_len]
  omega
theorem oneC_eq (next : Int) (r : Raw) (h : r.b.length ≤ 65531) : oneC next r = [next % 256, if r.c then 128 else 0, ((r.b.length : Int) + 4) / 256, ((r.b.length : Int) + 4) % 256] ++ r.b := by
  rw [oneC, be2 _ (by omega)]
  simp

/-- What is read of one payload's bytes with others behind. -/
theorem one_len (next : Int) (r : Raw) (ys : List Int) (h : r.b.length ≤ 65531) : lenC (oneC next r ++ ys) = (r.b.length : Int) + 4 := by
  rw [oneC_eq next r h]
  simp [lenC]
  omega
theorem one_next (next : Int) (r : Raw) (ys : List Int) (h : r.b.length ≤ 65531) : (oneC next r ++ ys).getD 0 0 = next % 256 := by
  rw [oneC_eq next r h]
  simp
theorem one_head (next : Int) (r : Raw) (ys : List Int) (h : r.b.length ≤ 65531) : headC r.k (oneC next r ++ ys) = r := by
  have hl := one_len next r ys h
  rw [headC, hl, oneC_eq next r h]
  have e1 : ((r.b.length : Int) + 4).toNat - 4 = r.b.length := by omega
  rw [e1]
  cases r with
  | mk k c b => cases c <;> simp
theorem one_drop (next : Int) (r : Raw) (ys : List Int) (h : r.b.length ≤ 65531) : (oneC next r ++ ys).drop (r.b.length + 4) = ys := by
  rw [← oneC_len next r, List.drop_left]

/-- The payloads may be written. -/
structure OkC (l : List Raw) (last : Int) : Prop where
  few : l.length ≤ 40
  err : errC l = 0
  rng : 0 ≤ last ∧ last ≤ 255
  ends : last = 0 ∨ endsC l = true

theorem errC_cons {r : Raw} {l : List Raw} (h : errC (r :: l) = 0) : 1 ≤ r.k ∧ r.k ≤ 255 ∧ r.b.length ≤ 65531 ∧ (lastK r.k = true → l = []) ∧ errC l = 0 := by
  unfold errC at h
  split at h
  · omega
  split at h
  · omega
  split at h
  · omega
  · rename_i h1 h2 h3
    refine ⟨by omega, by omega, by omega, fun hk => ?_, h⟩
    by_cases hl : l = []
    · exact hl
    · exact absurd ⟨hk, hl⟩ h3

/-- What was written is read again. -/
theorem parse_enc (last : Int) (hr : 0 ≤ last ∧ last ≤ 255) : ∀ (l : List Raw) (left : Nat), errC l = 0 → l.length ≤ left → (last = 0 ∨ endsC l = true) → parseC left (nextC 0 l) (encC last l) = ⟨l, last, 0⟩ := by
  intro l
  induction l with
  | nil =>
    intro left _ _ he
    have : last = 0 := by simpa [endsC] using he
    subst this
    rw [show nextC 0 ([] : List Raw) = 0 from rfl, parseC_end]
    simp [encC]
  | cons r l ih =>
    intro left herr hlen hend
    obtain ⟨k1, k2, hb, hlast, herr'⟩ := errC_cons herr
    obtain ⟨left, rfl⟩ : ∃ m, left = m + 1 := ⟨left - 1, by simp at hlen; omega⟩
    have hll := one_len (nextC last l) r (encC last l) hb
    have hln : (oneC (nextC last l) r ++ encC last l).length = r.b.length + 4 + (encC last l).length := by rw [List.length_append, oneC_len]
    rw [show nextC 0 (r :: l) = r.k from rfl, show encC last (r :: l) = oneC (nextC last l) r ++ encC last l from rfl, parseC_more _ _ _ (by omega)]
    rw [if_neg (by omega), if_neg (by rw [hll, hln]; omega), hll, hln, one_head _ _ _ hb, one_next _ _ _ hb]
    by_cases hk : lastK r.k = true
    · have hl := hlast hk
      subst hl
      rw [if_pos hk, if_neg (by simp [encC])]
      simp [nextC]
      omega
    · rw [if_neg hk, show ((r.b.length : Int) + 4).toNat = r.b.length + 4 by omega, one_drop _ _ _ hb]
      have hend' : last = 0 ∨ endsC l = true := by
        rcases hend with h | h
        · exact Or.inl h
        · right
          cases l with
          | nil => simp [endsC] at h; exact absurd h hk
          | cons a l => exact h
      have hn : nextC last l % 256 = nextC 0 l := by
        cases l with
        | nil =>
          have : last = 0 := by simpa [endsC] using hend'
          simp [nextC, this]
        | cons a l =>
          have := errC_cons herr'
          simp [nextC]
          omega
      rw [hn, ih left herr' (by simp at hlen; omega) hend']
      simp [preC]

theorem next_byte (last : Int) (l : List Raw) (hr : 0 ≤ last ∧ last ≤ 255) (he : errC l = 0) (hend : last = 0 ∨ endsC l = true) : nextC last l % 256 = nextC 0 l := by
  cases l with
  | nil =>
    have : last = 0 := by simpa [endsC] using hend
    simp [nextC, this]
  | cons a l =>
    have := errC_cons he
    simp [nextC]
    omega
theorem ends_tail {r : Raw} {l : List Raw} {last : Int} (h : last = 0 ∨ endsC (r :: l) = true) (hk : ¬ lastK r.k = true) : last = 0 ∨ endsC l = true := by
  rcases h with h | h
  · exact Or.inl h
  · right
    cases l with
    | nil => simp [endsC] at h; exact absurd h hk
    | cons a l => exact h
theorem lenC_take (xs : List Int) (n : Nat) (h : 4 ≤ n) : lenC (xs.take n) = lenC xs := by
  simp [lenC, List.getD_eq_getElem?_getD, List.getElem?_take_of_lt (show 2 < n by omega), List.getElem?_take_of_lt (show 3 < n by omega)]

/-- No proper beginning of a chain is a chain with the same first type. -/
theorem parse_cut (last : Int) (hr : 0 ≤ last ∧ last ≤ 255) : ∀ (l : List Raw) (left n : Nat), errC l = 0 → l.length ≤ left → (last = 0 ∨ endsC l = true) → n < (encC last l).length →
    parseC left (nextC 0 l) ((encC last l).take n) = failC 1 ∨ parseC left (nextC 0 l) ((encC last l).take n) = failC 2 := by
  intro l
  induction l with
  | nil =>
    intro left n _ _ _ hn
    simp [encC] at hn
  | cons r l ih =>
    intro left n herr hlen hend hn
    obtain ⟨k1, k2, hb, hlast, herr'⟩ := errC_cons herr
    obtain ⟨left, rfl⟩ : ∃ m, left = m + 1 := ⟨left - 1, by simp at hlen; omega⟩
    have hx : encC last (r :: l) = oneC (nextC last l) r ++ encC last l := rfl
    have hll := one_len (nextC last l) r (encC last l) hb
    have hln : (encC last (r :: l)).length = r.b.length + 4 + (encC last l).length := by rw [hx, List.length_append, oneC_len]
    have htl : ((encC last (r :: l)).take n).length = n := by rw [List.length_take]; omega
    rw [show nextC 0 (r :: l) = r.k from rfl, parseC_more _ _ _ (by omega), htl]
    by_cases h4 : n < 4
    · rw [if_pos h4]
      exact Or.inl rfl
    rw [if_neg h4, lenC_take _ _ (by omega), hx, hll]
    by_cases hs : n < r.b.length + 4
    · rw [if_pos (by omega)]
      exact Or.inr rfl
    rw [if_neg (by omega)]
    by_cases hk : lastK r.k = true
    · have := hlast hk
      subst this
      simp [encC] at hln
      simp [encC, oneC_len] at hn
      omega
    · rw [if_neg hk, show ((r.b.length : Int) + 4).toNat = r.b.length + 4 by omega]
      have hd : (List.take n (oneC (nextC last l) r ++ encC last l)).drop (r.b.length + 4) = (encC last l).take (n - (r.b.length + 4)) := by
        rw [List.drop_take, one_drop _ _ _ hb]
      have hg : (List.take n (oneC (nextC last l) r ++ encC last l)).getD 0 0 = nextC 0 l := by
        rw [List.getD_eq_getElem?_getD, List.getElem?_take_of_lt (by omega), ← List.getD_eq_getElem?_getD, one_next _ _ _ hb]
        exact next_byte last l hr herr' (ends_tail hend hk)
      rw [hd, hg]
      rcases ih left (n - (r.b.length + 4)) herr' (by simp at hlen; omega) (ends_tail hend hk) (by omega) with h | h
      · rw [h, preC_fail _ _ (by decide)]
        exact Or.inl rfl
      · rw [h, preC_fail _ _ (by decide)]
        exact Or.inr rfl

/-- Nothing may follow a chain whose last payload is sealed. -/
theorem parse_extra (last : Int) (hr : 0 ≤ last ∧ last ≤ 255) (zs : List Int) (hz : zs ≠ []) : ∀ (l : List Raw) (left : Nat), errC l = 0 → l.length ≤ left → endsC l = true →
    parseC left (nextC 0 l) (encC last l ++ zs) = failC 2 := by
  intro l
  induction l with
  | nil =>
    intro left _ _ hend
    simp [endsC] at hend
  | cons r l ih =>
    intro left herr hlen hend
    obtain ⟨k1, k2, hb, hlast, herr'⟩ := errC_cons herr
    obtain ⟨left, rfl⟩ : ∃ m, left = m + 1 := ⟨left - 1, by simp at hlen; omega⟩
    have hx : encC last (r :: l) ++ zs = oneC (nextC last l) r ++ (encC last l ++ zs) := by rw [show encC last (r :: l) = oneC (nextC last l) r ++ encC last l from rfl, List.append_assoc]
    have hll := one_len (nextC last l) r (encC last l ++ zs) hb
    have hln : (oneC (nextC last l) r ++ (encC last l ++ zs)).length = r.b.length + 4 + (encC last l ++ zs).length := by rw [List.length_append, oneC_len]
    rw [show nextC 0 (r :: l) = r.k from rfl, parseC_more _ _ _ (by omega), hx, hll, hln, if_neg (by omega), if_neg (by omega)]
    have hzl : 0 < zs.length := List.length_pos_iff.2 hz
    by_cases hk : lastK r.k = true
    · have := hlast hk
      subst this
      rw [if_pos hk, if_pos (by simp [encC]; omega)]
    · rw [if_neg hk, show ((r.b.length : Int) + 4).toNat = r.b.length + 4 by omega, one_drop _ _ _ hb, one_next _ _ _ hb, one_head _ _ _ hb]
      have hend' : endsC l = true := by
        cases l with
        | nil => simp [endsC] at hend; exact absurd hend hk
        | cons a l => exact hend
      rw [next_byte last l hr herr' (Or.inr hend'), ih left herr' (by simp at hlen; omega) hend', preC_fail _ _ (by decide)]

/-- The bits that do not count. -/
theorem parse_bits (left : Nat) (kind : Int) (xs : List Int) (y : Int) (h4 : 4 ≤ xs.length) (hy : 128 ≤ y ↔ 128 ≤ xs.getD 1 0) : parseC left kind (xs.set 1 y) = parseC left kind xs := by
  by_cases hk : kind = 0
  · subst hk
    rw [parseC_end, parseC_end, List.length_set]
  cases left with
  | zero => rw [parseC_many _ _ hk, parseC_many _ _ hk]
  | succ left =>
    have hl : lenC (xs.set 1 y) = lenC xs := by simp [lenC, List.getD_eq_getElem?_getD]
    have h0 : (xs.set 1 y).getD 0 0 = xs.getD 0 0 := by simp [List.getD_eq_getElem?_getD]
    have h1 : (xs.set 1 y).getD 1 0 = y := by simp [List.getD_eq_getElem?_getD, show 1 < xs.length by omega]
    have hd : ∀ n, 2 ≤ n → (xs.set 1 y).drop n = xs.drop n := fun n hn => by rw [List.drop_set, if_pos (by omega)]
    have hh : headC kind (xs.set 1 y) = headC kind xs := by
      unfold headC
      rw [h1, hl, hd 4 (by omega)]
      congr 1
      exact decide_eq_decide.2 hy
    rw [parseC_more _ _ _ hk, parseC_more _ _ _ hk, List.length_set, hl, h0, hh]
    by_cases hn : lenC xs < 4 ∨ (xs.length : Int) < lenC xs
    · rw [if_pos hn, if_pos hn]
    · rw [if_neg hn, if_neg hn, hd _ (by omega)]
end Go.Proofs.Ytdlcdegfoadajaa
