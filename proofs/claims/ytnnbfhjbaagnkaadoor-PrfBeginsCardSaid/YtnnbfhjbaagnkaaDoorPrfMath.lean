/-
  The keyed hash of the document, as functions on lists of numbers.
-/
import Derived.Test.YtnnbfhjbaagnkaaDoorShaMath
namespace Go.Proofs.YtnnbfhjbaagnkaaDoor
open Go.RowKit
set_option linter.unusedVariables false

theorem xor8_comm (a b : Int) : bits .xor .u8 a b = bits .xor .u8 b a := by
  show IntKind.u8.wrap ((BitVec.ofInt 8 a ^^^ BitVec.ofInt 8 b).toNat : Int) = IntKind.u8.wrap ((BitVec.ofInt 8 b ^^^ BitVec.ofInt 8 a).toNat : Int)
  rw [BitVec.xor_comm]
theorem xor8_rng (a b : Int) : 0 ≤ bits .xor .u8 a b ∧ bits .xor .u8 a b ≤ 255 := by
  show 0 ≤ IntKind.u8.wrap _ ∧ IntKind.u8.wrap _ ≤ _
  rw [IntKind.wrap_u8]; omega
theorem xor8_zero (m : Int) (h : 0 ≤ m ∧ m ≤ 255) : bits .xor .u8 0 m = m := by
  show IntKind.u8.wrap ((BitVec.ofInt 8 0 ^^^ BitVec.ofInt 8 m).toNat : Int) = m
  rw [IntKind.wrap_u8, show BitVec.ofInt 8 0 = 0#8 from rfl, BitVec.zero_xor, BitVec.toNat_ofInt]
  omega
/-- The key that is used: a long one is replaced by its hash. -/
def keyS (key : List Int) : List Int := if 64 < key.length then shaS key else key
theorem keyS_len (key : List Int) : (keyS key).length ≤ 64 := by
  unfold keyS
  split
  · rw [shaS_len]; omega
  · omega
theorem keyS_rng {key : List Int} (h : ∀ x ∈ key, 0 ≤ x ∧ x ≤ 255) : ∀ x ∈ keyS key, 0 ≤ x ∧ x ≤ 255 := by
  unfold keyS
  split
  · exact shaS_rng _
  · exact h
/-- The bytes of a block that a key is padded to. -/
def padK (key : List Int) : List Int := keyS key ++ List.replicate (64 - (keyS key).length) 0
theorem padK_len (key : List Int) : (padK key).length = 64 := by
  have := keyS_len key
  simp [padK]; omega
theorem rng_zeros (n : Nat) : ∀ x ∈ List.replicate n (0 : Int), 0 ≤ x ∧ x ≤ 255 := fun x hx => by
  have := List.eq_of_mem_replicate hx
  omega
theorem padK_rng {key : List Int} (h : ∀ x ∈ key, 0 ≤ x ∧ x ≤ 255) : ∀ x ∈ padK key, 0 ≤ x ∧ x ≤ 255 := rng_append (keyS_rng h) (rng_zeros _)
def maskL (m : Int) (l : List Int) : List Int := l.map (fun x => bits .xor .u8 x m)
theorem maskL_len (m : Int) (l : List Int) : (maskL m l).length = l.length := by simp [maskL]
theorem maskL_rng (m : Int) (l : List Int) : ∀ x ∈ maskL m l, 0 ≤ x ∧ x ≤ 255 := by
  intro x hx
  obtain ⟨y, _, rfl⟩ := List.mem_map.1 hx
  exact xor8_rng _ _
theorem maskL_take (m : Int) (l : List Int) (j : Nat) (hj : j < l.length) : maskL m (l.take (j + 1)) = maskL m (l.take j) ++ [bits .xor .u8 (l.getD j 0) m] := by
  rw [List.take_succ_eq_append_getElem hj, maskL, maskL, List.map_append]
  simp [List.getD_eq_getElem?_getD, hj]
def maskS (m : Int) (key : List Int) : List Int := maskL m (padK key)
theorem maskS_len (m : Int) (key : List Int) : (maskS m key).length = 64 := by rw [maskS, maskL_len, padK_len]
theorem maskS_in (m : Int) (key : List Int) (j : Nat) (hj : j < (keyS key).length) : (maskS m key).getD j 0 = bits .xor .u8 m ((keyS key).getD j 0) := by
  have hl := keyS_len key
  rw [xor8_comm, maskS, maskL, padK, List.getD_eq_getElem?_getD, List.getElem?_map, List.getElem?_append_left hj, List.getElem?_eq_getElem hj, List.getD_eq_getElem?_getD, List.getElem?_eq_getElem hj]
  rfl
theorem maskS_out (m : Int) (hm : 0 ≤ m ∧ m ≤ 255) (key : List Int) (j : Nat) (hj : ¬ j < (keyS key).length) (h64 : j < 64) : (maskS m key).getD j 0 = m := by
  have hl := keyS_len key
  rw [maskS, maskL, padK, List.getD_eq_getElem?_getD, List.getElem?_map, List.getElem?_append_right (by omega), List.getElem?_replicate, if_pos (by omega)]
  exact xor8_zero m hm
theorem take_getD (l : List Int) (j : Nat) (hj : j < l.length) : l.take (j + 1) = l.take j ++ [l.getD j 0] := by
  rw [List.take_succ_eq_append_getElem hj]
  simp [List.getD_eq_getElem?_getD, hj]
/-- The keyed hash. -/
def hmacS (key b : List Int) : List Int := shaS (maskS 92 key ++ shaS (maskS 54 key ++ b))
theorem hmacS_len (key b : List Int) : (hmacS key b).length = 32 := shaS_len _
theorem hmacS_rng (key b : List Int) : ∀ x ∈ hmacS key b, 0 ≤ x ∧ x ≤ 255 := shaS_rng _
theorem padK_zeros (key : List Int) (h : key.length ≤ 64) (n : Nat) (hn : key.length + n ≤ 64) : padK (key ++ List.replicate n 0) = padK key := by
  have h1 : keyS key = key := by unfold keyS; rw [if_neg (by omega)]
  have h2 : keyS (key ++ List.replicate n 0) = key ++ List.replicate n 0 := by unfold keyS; rw [if_neg (by simp; omega)]
  rw [padK, padK, h1, h2, List.append_assoc, List.replicate_append_replicate]
  congr 2
  simp; omega
theorem hmacS_zeros (key b : List Int) (h : key.length ≤ 64) (n : Nat) (hn : key.length + n ≤ 64) : hmacS (key ++ List.replicate n 0) b = hmacS key b := by
  unfold hmacS maskS
  rw [padK_zeros key h n hn]
theorem jefe : hmacS [74, 101, 102, 101] [119, 104, 97, 116, 32, 100, 111, 32, 121, 97, 32, 119, 97, 110, 116, 32, 102, 111, 114, 32, 110, 111, 116, 104, 105, 110, 103, 63] =
    [0x5b, 0xdc, 0xc1, 0x46, 0xbf, 0x60, 0x75, 0x4e, 0x6a, 0x04, 0x24, 0x26, 0x08, 0x95, 0x75, 0xc7, 0x5a, 0x00, 0x3f, 0x08, 0x9d, 0x27, 0x39, 0x83, 0x9d, 0xec, 0x58, 0xb9, 0x64, 0xec, 0x38, 0x43] := by
  kernel_rfl
/-- T_i: the i-th piece. -/
def plusT (key seed : List Int) : Nat → List Int
  | 0 => []
  | i + 1 => hmacS key (plusT key seed i ++ (seed ++ [((i + 1 : Nat) : Int) % 256]))
/-- The first i pieces. -/
def plusO (key seed : List Int) : Nat → List Int
  | 0 => []
  | i + 1 => plusO key seed i ++ plusT key seed (i + 1)
theorem plusT_len (key seed : List Int) (i : Nat) : (plusT key seed (i + 1)).length = 32 := hmacS_len _ _
theorem plusT_le (key seed : List Int) (i : Nat) : (plusT key seed i).length ≤ 32 := by
  cases i with
  | zero => simp [plusT]
  | succ i => rw [plusT_len]; exact Nat.le_refl _
theorem plusT_rng (key seed : List Int) (i : Nat) : ∀ x ∈ plusT key seed i, 0 ≤ x ∧ x ≤ 255 := by
  cases i with
  | zero => intro x hx; cases hx
  | succ i => exact hmacS_rng _ _
theorem plusO_len (key seed : List Int) (i : Nat) : (plusO key seed i).length = 32 * i := by
  induction i with
  | zero => rfl
  | succ i ih => rw [plusO, List.length_append, ih, plusT_len]; omega
theorem plusO_rng (key seed : List Int) (i : Nat) : ∀ x ∈ plusO key seed i, 0 ≤ x ∧ x ≤ 255 := by
  induction i with
  | zero => intro x hx; cases hx
  | succ i ih => exact rng_append ih (plusT_rng _ _ _)
theorem plusO_take (key seed : List Int) (i d n : Nat) (h : n ≤ 32 * i) : (plusO key seed (i + d)).take n = (plusO key seed i).take n := by
  induction d with
  | zero => rfl
  | succ d ih => rw [← Nat.add_assoc, plusO, List.take_append_of_le_length (by rw [plusO_len]; omega), ih]
/-- The first n bytes. -/
def plusS (key seed : List Int) (n : Nat) : List Int := (plusO key seed ((n + 31) / 32)).take n
theorem plusS_of (key seed : List Int) (i n : Nat) (h : n ≤ 32 * i) : (plusO key seed i).take n = plusS key seed n := by
  unfold plusS
  obtain ⟨d, hd⟩ : ∃ d, i = (n + 31) / 32 + d := ⟨i - (n + 31) / 32, by omega⟩
  rw [hd]
  exact plusO_take _ _ _ _ _ (by omega)
theorem plusS_len (key seed : List Int) (n : Nat) : (plusS key seed n).length = n := by
  rw [plusS, List.length_take, plusO_len]; omega
theorem plusS_rng (key seed : List Int) (n : Nat) : ∀ x ∈ plusS key seed n, 0 ≤ x ∧ x ≤ 255 := rng_take (plusO_rng _ _ _) _
theorem plusS_take (key seed : List Int) (m n : Nat) (h : m ≤ n) : (plusS key seed n).take m = plusS key seed m := by
  rw [plusS, List.take_take, Nat.min_eq_left h]
  exact plusS_of _ _ _ _ (by omega)
theorem plusT_zeros (key seed : List Int) (h : key.length ≤ 64) (n : Nat) (hn : key.length + n ≤ 64) (i : Nat) : plusT (key ++ List.replicate n 0) seed i = plusT key seed i := by
  induction i with
  | zero => rfl
  | succ i ih => rw [plusT, plusT, ih, hmacS_zeros key _ h n hn]
theorem plusO_zeros (key seed : List Int) (h : key.length ≤ 64) (n : Nat) (hn : key.length + n ≤ 64) (i : Nat) : plusO (key ++ List.replicate n 0) seed i = plusO key seed i := by
  induction i with
  | zero => rfl
  | succ i ih => rw [plusO, plusO, ih, plusT_zeros key seed h n hn]
theorem plusS_zeros (key seed : List Int) (h : key.length ≤ 64) (n : Nat) (hn : key.length + n ≤ 64) (k : Nat) : plusS (key ++ List.replicate n 0) seed k = plusS key seed k := by
  rw [plusS, plusS, plusO_zeros key seed h n hn]
/-- The pieces of bytes, by their sizes. -/
def splitS (b : List Int) : List Int → Option (List (List Int))
  | [] => some []
  | n :: l => if 0 ≤ n ∧ n ≤ b.length then (splitS (b.drop n.toNat) l).map (b.take n.toNat :: ·) else none
theorem splitS_step (b : List Int) (sizes : List Int) (j at_ : Nat) (L : List (List Int)) (R : Option (List (List Int))) (hj : j < sizes.length) (hat : at_ ≤ b.length)
    (h : R = (splitS (b.drop at_) (sizes.drop j)).map (L ++ ·)) (h0 : 0 ≤ sizes.getD j 0) (h1 : at_ + (sizes.getD j 0).toNat ≤ b.length) :
    R = (splitS (b.drop (at_ + (sizes.getD j 0).toNat)) (sizes.drop (j + 1))).map ((L ++ [(b.drop at_).take (sizes.getD j 0).toNat]) ++ ·) := by
  rw [List.drop_eq_getElem_cons hj] at h
  have e : sizes[j] = sizes.getD j 0 := by simp [List.getD_eq_getElem?_getD, hj]
  rw [e] at h
  generalize sizes.getD j 0 = z at h h0 h1 ⊢
  rw [splitS, if_pos (by rw [List.length_drop]; omega), List.drop_drop, Option.map_map] at h
  rw [h]
  congr 1
  funext x
  simp
theorem splitS_fail (b : List Int) (sizes : List Int) (j at_ : Nat) (L : List (List Int)) (R : Option (List (List Int))) (hj : j < sizes.length) (hat : at_ ≤ b.length)
    (h : R = (splitS (b.drop at_) (sizes.drop j)).map (L ++ ·)) (h0 : ¬ (0 ≤ sizes.getD j 0 ∧ (at_ : Int) + sizes.getD j 0 ≤ b.length)) : R = none := by
  rw [List.drop_eq_getElem_cons hj] at h
  have e : sizes[j] = sizes.getD j 0 := by simp [List.getD_eq_getElem?_getD, hj]
  rw [e] at h
  generalize sizes.getD j 0 = z at h h0
  rw [splitS, if_neg (by rw [List.length_drop]; omega)] at h
  rw [h]
  rfl
theorem splitS_end (b : List Int) (sizes : List Int) (j at_ : Nat) (L : List (List Int)) (R : Option (List (List Int))) (hj : sizes.length ≤ j)
    (h : R = (splitS (b.drop at_) (sizes.drop j)).map (L ++ ·)) : R = some L := by
  rw [List.drop_eq_nil_of_le hj, splitS] at h
  simpa using h
end Go.Proofs.YtnnbfhjbaagnkaaDoor
