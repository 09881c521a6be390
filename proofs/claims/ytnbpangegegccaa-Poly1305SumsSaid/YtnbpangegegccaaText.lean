/-
  Plain mathematics, no program: hexadecimal digits, the text of bytes, and the bytes of a text.
-/
import Derived.WalkKit
import Derived.Laws.Externs
namespace Go.Proofs.Ytnbpangegegccaa

/-- The value of a hexadecimal digit, -1 for another byte. -/
def dg (c : Int) : Int := if 48 ≤ c ∧ c ≤ 57 then c - 48 else if 97 ≤ c ∧ c ≤ 102 then c - 87 else if 65 ≤ c ∧ c ≤ 70 then c - 55 else -1
theorem dg_bd (c : Int) : -1 ≤ dg c ∧ dg c ≤ 15 := by unfold dg; split <;> (try split) <;> (try split) <;> omega
/-- The digit of a value below 16. -/
def hd (n : Int) : Int := if n < 10 then 48 + n else 87 + n
theorem dg_hd (n : Int) (h0 : 0 ≤ n) (h1 : n ≤ 15) : dg (hd n) = n := by unfold dg hd; split <;> (try split) <;> (try split) <;> omega
theorem hd_bd (n : Int) (h0 : 0 ≤ n) (h1 : n ≤ 15) : 0 ≤ hd n ∧ hd n ≤ 255 := by unfold hd; split <;> omega

/-- The text of bytes. -/
def hx : List Int → List Int
  | [] => []
  | x :: l => hd (x / 16) :: hd (x % 16) :: hx l
theorem hx_append (l r : List Int) : hx (l ++ r) = hx l ++ hx r := by induction l with
  | nil => rfl
  | cons x l ih => simp [hx, ih]
theorem hx_len (l : List Int) : (hx l).length = 2 * l.length := by induction l with
  | nil => rfl
  | cons x l ih => simp [hx, ih]; omega
theorem hx_rng {l : List Int} (h : ∀ x ∈ l, 0 ≤ x ∧ x ≤ 255) : ∀ x ∈ hx l, 0 ≤ x ∧ x ≤ 255 := by
  induction l with
  | nil => intro x hxm; simp [hx] at hxm
  | cons y l ih =>
    intro x hxm
    have hy := h y (by simp)
    simp only [hx, List.mem_cons] at hxm
    rcases hxm with rfl | rfl | hxm
    · exact hd_bd _ (by omega) (by omega)
    · exact hd_bd _ (by omega) (by omega)
    · exact ih (fun z hz => h z (by simp [hz])) x hxm
theorem hx_step (xs : List Int) (k : Nat) (hk : k < xs.length) : hx (xs.take (k + 1)) = hx (xs.take k) ++ [hd (xs.getD k 0 / 16), hd (xs.getD k 0 % 16)] := by
  rw [List.take_succ_eq_append_getElem hk, hx_append]
  simp [hx, List.getD_eq_getElem?_getD, List.getElem?_eq_getElem hk]

/-- The bytes of a text of pairs, if all are digits. -/
def unh : List Int → Option (List Int)
  | a :: b :: l => if dg a < 0 ∨ dg b < 0 then none else (unh l).map ((dg a * 16 + dg b) :: ·)
  | _ => some []
theorem unh_hx (l : List Int) (h : ∀ x ∈ l, 0 ≤ x ∧ x ≤ 255) : unh (hx l) = some l := by
  induction l with
  | nil => rfl
  | cons x l ih =>
    have hy := h x (by simp)
    rw [hx, unh, dg_hd _ (by omega) (by omega), dg_hd _ (by omega) (by omega), if_neg (by omega), ih (fun z hz => h z (by simp [hz]))]
    simp
    omega
theorem unh_step (L : List Int) (j : Nat) (ys : List Int) (hj : j + 1 < L.length) (h : unh L = (unh (L.drop j)).map (ys ++ ·)) :
    (dg (L.getD j 0) < 0 ∨ dg (L.getD (j + 1) 0) < 0 → unh L = none) ∧
    (¬ (dg (L.getD j 0) < 0 ∨ dg (L.getD (j + 1) 0) < 0) → unh L = (unh (L.drop (j + 2))).map ((ys ++ [dg (L.getD j 0) * 16 + dg (L.getD (j + 1) 0)]) ++ ·)) := by
  have e1 : L.getD j 0 = L[j] := by simp [List.getD_eq_getElem?_getD, List.getElem?_eq_getElem (show j < L.length by omega)]
  have e2 : L.getD (j + 1) 0 = L[j + 1] := by simp [List.getD_eq_getElem?_getD, List.getElem?_eq_getElem hj]
  rw [e1, e2, h, List.drop_eq_getElem_cons (show j < L.length by omega), List.drop_eq_getElem_cons hj, unh]
  constructor
  · intro hb
    rw [if_pos hb]
    rfl
  · intro hb
    rw [if_neg hb]
    cases unh (L.drop (j + 1 + 1)) <;> simp
theorem unh_end (L : List Int) (ys : List Int) (j : Nat) (hj : L.length ≤ j) (h : unh L = (unh (L.drop j)).map (ys ++ ·)) : unh L = some ys := by
  rw [h, List.drop_eq_nil_of_le hj]
  simp [unh]
theorem unh_rng : ∀ (L ys : List Int), unh L = some ys → ∀ y ∈ ys, 0 ≤ y ∧ y ≤ 255
  | [], ys, h => by simp [unh] at h; subst h; intro y hy; simp at hy
  | [_], ys, h => by simp [unh] at h; subst h; intro y hy; simp at hy
  | a :: b :: l, ys, h => by
    unfold unh at h
    split at h
    · simp at h
    · rename_i hb
      cases hu : unh l with
      | none => rw [hu] at h; simp at h
      | some zs =>
        rw [hu] at h
        simp at h
        subst h
        intro y hy
        rcases List.mem_cons.1 hy with rfl | hy
        · have h1 := dg_bd a
          have h2 := dg_bd b
          omega
        · exact unh_rng l zs hu y hy

/-- The letters of a string as numbers. -/
def letters (s : ByteArray) : List Int := s.data.toList.map fun c => (c.toNat : Int)
theorem letters_len (s : ByteArray) : (letters s).length = s.size := by
  rw [letters, List.length_map, Array.length_toList]
  rfl
theorem letters_rng (s : ByteArray) : ∀ x ∈ letters s, 0 ≤ x ∧ x ≤ 255 := by
  intro x hx
  obtain ⟨c, _, rfl⟩ := List.mem_map.1 hx
  have := c.toNat_lt
  omega
theorem letters_at (s : ByteArray) (j : Nat) (hj : j < s.size) : (letters s).getD j 0 = (s[j].toNat : Int) := by
  have h1 : j < s.data.toList.length := by
    rw [Array.length_toList]
    exact hj
  simp [letters, List.getD_eq_getElem?_getD, List.getElem?_map, List.getElem?_eq_getElem h1]
  rfl
theorem letters_nums (xs : List Int) (h : ∀ x ∈ xs, 0 ≤ x ∧ x ≤ 255) : letters (strOfNums xs) = xs := by
  unfold letters
  rw [strOfNums_data, List.map_map]
  conv => rhs; rw [← List.map_id xs]
  apply List.map_congr_left
  intro x hx
  have := h x hx
  simp only [Function.comp, UInt8.toNat_ofNat', id]
  omega

/-- Where a digit stands in the row of the small digits. -/
theorem first_small : ∀ c : Fin 256, firstIdx ⟨#[48, 49, 50, 51, 52, 53, 54, 55, 56, 57, 97, 98, 99, 100, 101, 102]⟩ (UInt8.ofNat c.val) =
    (if 48 ≤ c.val ∧ c.val ≤ 57 then (c.val : Int) - 48 else if 97 ≤ c.val ∧ c.val ≤ 102 then (c.val : Int) - 87 else -1) := by
  decide +kernel
theorem or_nib (a b : Int) (h0 : 0 ≤ a) (h1 : a ≤ 15) (h2 : 0 ≤ b) (h3 : b ≤ 15) : bits .or .i64 (a * 16) b = a * 16 + b :=
  bits_join .i64 63 (by decide) (fun n h0 h1 => by rw [IntKind.wrap_i64]; omega) 4 _ _ (by omega) (by omega) (by omega) h2 (by omega) (by omega)
/-- The letter at a place of the row of the small digits. -/
theorem row_at : ∀ n : Fin 16, (((⟨#[48, 49, 50, 51, 52, 53, 54, 55, 56, 57, 97, 98, 99, 100, 101, 102]⟩ : ByteArray).data.toList.getD n.val 0).toNat : Int) = hd n.val := by decide +kernel
theorem row_hd (n : Int) (h0 : 0 ≤ n) (h1 : n < 16) (hp : n.toNat < (⟨#[48, 49, 50, 51, 52, 53, 54, 55, 56, 57, 97, 98, 99, 100, 101, 102]⟩ : ByteArray).size) :
    (((⟨#[48, 49, 50, 51, 52, 53, 54, 55, 56, 57, 97, 98, 99, 100, 101, 102]⟩ : ByteArray)[n.toNat]'hp).toNat : Int) = hd n := by
  have h := row_at ⟨n.toNat, by omega⟩
  have e : ((n.toNat : Nat) : Int) = n := by omega
  simp only [e] at h
  rw [← h, List.getD_eq_getElem?_getD, List.getElem?_eq_getElem (show n.toNat < _ by simp; omega)]
  rfl
end Go.Proofs.Ytnbpangegegccaa
