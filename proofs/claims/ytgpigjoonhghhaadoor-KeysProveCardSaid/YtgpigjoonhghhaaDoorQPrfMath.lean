/-
  The keyed hash of the document, as functions on lists of numbers.
-/
import Derived.Test.YtgpigjoonhghhaaDoorQShaMath
namespace Go.Proofs.YtgpigjoonhghhaaDoor
open Go.RowKit
set_option linter.unusedVariables false
theorem xor8_comm (a b : Int) : bits .xor .u8 a b = bits .xor .u8 b a := by
  show IntKind.u8.wrap ((BitVec.ofInt 8 a ^^^ BitVec.ofInt 8 b).toNat : Int) = IntKind.u8.wrap ((BitVec.ofInt 8 b ^^^ BitVec.ofInt 8 a).toNat : Int)
  rw [BitVec.xor_comm]
theorem xor8_rng (a b : Int) : 0 ≤ bits .xor .u8 a b ∧ bits .xor .u8 a b ≤ 255 := by
  show 0 ≤ IntKind.u8.wrap _ ∧ IntKind.u8.wrap _ ≤ _
  rw [IntKind.wrap_u8]; omega
theorem xor8_zero (m : Int) (h : 0 ≤ m ∧ m ≤ 255) : bits .xor .u8 0 m = m := by
  show IntKind.u8.wrap ((BitVec.ofInt 8 0 ^^^ BitVec.ofInt 8 m).toNat : Int) = m
  rw [IntKind.wrap_u8, show BitVec.ofInt 8 0 = 0#8 from rfl, BitVec.zero_xor, BitVec.toNat_ofInt]
  omega
def keyS (key : List Int) : List Int := if 64 < key.length then shaS key else key
theorem keyS_len (key : List Int) : (keyS key).length ≤ 64 := by
  unfold keyS
  split
  · rw [shaS_len]; omega
  · omega
def padK (key : List Int) : List Int := keyS key ++ List.replicate (64 - (keyS key).length) 0
theorem padK_len (key : List Int) : (padK key).length = 64 := by
  have := keyS_len key
  simp [padK]; omega
def maskL (m : Int) (l : List Int) : List Int := l.map (fun x => bits .xor .u8 x m)
theorem maskL_len (m : Int) (l : List Int) : (maskL m l).length = l.length := by simp [maskL]
theorem maskL_rng (m : Int) (l : List Int) : ∀ x ∈ maskL m l, 0 ≤ x ∧ x ≤ 255 := by
  intro x hx
  obtain ⟨y, _, rfl⟩ := List.mem_map.1 hx
  exact xor8_rng _ _
theorem maskL_take (m : Int) (l : List Int) (j : Nat) (hj : j < l.length) : maskL m (l.take (j + 1)) = maskL m (l.take j) ++ [bits .xor .u8 (l.getD j 0) m] := by
  rw [List.take_succ_eq_append_getElem hj, maskL, maskL, List.map_append]
  simp [List.getD_eq_getElem?_getD, hj]
def maskS (m : Int) (key : List Int) : List Int := maskL m (padK key)
theorem maskS_len (m : Int) (key : List Int) : (maskS m key).length = 64 := by rw [maskS, maskL_len, padK_len]
theorem maskS_in (m : Int) (key : List Int) (j : Nat) (hj : j < (keyS key).length) : (maskS m key).getD j 0 = bits .xor .u8 m ((keyS key).getD j 0) := by
  have hl := keyS_len key
  rw [xor8_comm, maskS, maskL, padK, List.getD_eq_getElem?_getD, List.getElem?_map, List.getElem?_append_left hj, List.getElem?_eq_getElem hj, List.getD_eq_getElem?_getD, List.getElem?_eq_getElem hj]
  rfl
theorem maskS_out (m : Int) (hm : 0 ≤ m ∧ m ≤ 255) (key : List Int) (j : Nat) (hj : ¬ j < (keyS key).length) (h64 : j < 64) : (maskS m key).getD j 0 = m := by
  have hl := keyS_len key
  rw [maskS, maskL, padK, List.getD_eq_getElem?_getD, List.getElem?_map, List.getElem?_append_right (by omega), List.getElem?_replicate, if_pos (by omega)]
  exact xor8_zero m hm
theorem take_getD (l : List Int) (j : Nat) (hj : j < l.length) : l.take (j + 1) = l.take j ++ [l.getD j 0] := by
  rw [List.take_succ_eq_append_getElem hj]
  simp [List.getD_eq_getElem?_getD, hj]
def hmacS (key b : List Int) : List Int := shaS (maskS 92 key ++ shaS (maskS 54 key ++ b))
theorem hmacS_len (key b : List Int) : (hmacS key b).length = 32 := shaS_len _
theorem hmacS_rng (key b : List Int) : ∀ x ∈ hmacS key b, 0 ≤ x ∧ x ≤ 255 := shaS_rng _
def plusT (key seed : List Int) : Nat → List Int
  | 0 => []
  | i + 1 => hmacS key (plusT key seed i ++ (seed ++ [((i + 1 : Nat) : Int) % 256]))
def plusO (key seed : List Int) : Nat → List Int
  | 0 => []
  | i + 1 => plusO key seed i ++ plusT key seed (i + 1)
def plusS (key seed : List Int) (n : Nat) : List Int := (plusO key seed ((n + 31) / 32)).take n
def splitS (b : List Int) : List Int → Option (List (List Int))
  | [] => some []
  | n :: l => if 0 ≤ n ∧ n ≤ b.length then (splitS (b.drop n.toNat) l).map (b.take n.toNat :: ·) else none
end Go.Proofs.YtgpigjoonhghhaaDoor
