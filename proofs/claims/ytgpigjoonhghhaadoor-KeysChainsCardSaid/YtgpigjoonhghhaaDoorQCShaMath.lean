/-
  The hash of the document, as functions on numbers and lists of numbers.
-/
import Derived.Test.YtgpigjoonhghhaaDoorRows
import Derived.Test.YtgpigjoonhghhaaDoorQCBytes
import Derived.Test.YtgpigjoonhghhaaDoorQCNum
namespace Go.Proofs.YtgpigjoonhghhaaDoor
open Go.RowKit
set_option linter.unusedVariables false
def rotr (x k : Int) : Int := bits .or .u32 (x / 2 ^ k.toNat) (x * 2 ^ (32 - k).toNat % 4294967296)
theorem or32_comm (a b : Int) : bits .or .u32 a b = bits .or .u32 b a := by
  show IntKind.u32.wrap ((BitVec.ofInt 32 a ||| BitVec.ofInt 32 b).toNat : Int) = IntKind.u32.wrap ((BitVec.ofInt 32 b ||| BitVec.ofInt 32 a).toNat : Int)
  rw [BitVec.or_comm]
def sig (x a b c : Int) : Int := bits .xor .u32 (bits .xor .u32 (rotr x a) (rotr x b)) (rotr x c)
def nxt (x y u v : Int) : Int :=
  (bits .xor .u32 (bits .xor .u32 (rotr x 17) (rotr x 19)) (x / 1024) + u + bits .xor .u32 (bits .xor .u32 (rotr y 7) (rotr y 18)) (y / 8) + v) % 4294967296
def nextW (l : List Int) : Int := nxt (l.getD (l.length - 2) 0) (l.getD (l.length - 15) 0) (l.getD (l.length - 7) 0) (l.getD (l.length - 16) 0)
def sched : Nat → List Int → List Int
  | 0, l => l
  | n + 1, l => sched n (l ++ [nextW l])
theorem sched_len (n : Nat) (l : List Int) : (sched n l).length = n + l.length := by
  induction n generalizing l with
  | zero => simp [sched]
  | succ n ih => rw [sched, ih]; simp; omega
structure H8 where
  a : Int
  b : Int
  c : Int
  d : Int
  e : Int
  f : Int
  g : Int
  h : Int
def rX (s : H8) (k w : Int) : Int :=
  ((((s.h + sig s.e 6 11 25) % 4294967296 + bits .xor .u32 (bits .and .u32 s.e s.f) (bits .and .u32 (bits .xor .u32 4294967295 s.e) s.g)) % 4294967296 + k) % 4294967296 + w) % 4294967296
def rY (s : H8) : Int := (sig s.a 2 13 22 + bits .xor .u32 (bits .xor .u32 (bits .and .u32 s.a s.b) (bits .and .u32 s.a s.c)) (bits .and .u32 s.b s.c)) % 4294967296
def step (s : H8) (k w : Int) : H8 := ⟨(rX s k w + rY s) % 4294967296, s.a, s.b, s.c, (s.d + rX s k w) % 4294967296, s.e, s.f, s.g⟩
def rounds : List Int → List Int → H8 → H8
  | k :: ks, w :: ws, s => rounds ks ws (step s k w)
  | _, _, s => s
theorem rounds_step (ks ws : List Int) (j : Nat) (s : H8) (hk : j < ks.length) (hw : j < ws.length) : rounds (ks.drop j) (ws.drop j) s = rounds (ks.drop (j + 1)) (ws.drop (j + 1)) (step s (ks.getD j 0) (ws.getD j 0)) := by
  rw [List.drop_eq_getElem_cons hk, List.drop_eq_getElem_cons hw, rounds]
  simp [List.getD_eq_getElem?_getD, hk, hw]
def add8 (s t : H8) : H8 :=
  ⟨(s.a + t.a) % 4294967296, (s.b + t.b) % 4294967296, (s.c + t.c) % 4294967296, (s.d + t.d) % 4294967296, (s.e + t.e) % 4294967296, (s.f + t.f) % 4294967296, (s.g + t.g) % 4294967296, (s.h + t.h) % 4294967296⟩
def kTab : List Int := [
  0x428a2f98, 0x71374491, 0xb5c0fbcf, 0xe9b5dba5, 0x3956c25b, 0x59f111f1, 0x923f82a4, 0xab1c5ed5,
  0xd807aa98, 0x12835b01, 0x243185be, 0x550c7dc3, 0x72be5d74, 0x80deb1fe, 0x9bdc06a7, 0xc19bf174,
  0xe49b69c1, 0xefbe4786, 0x0fc19dc6, 0x240ca1cc, 0x2de92c6f, 0x4a7484aa, 0x5cb0a9dc, 0x76f988da,
  0x983e5152, 0xa831c66d, 0xb00327c8, 0xbf597fc7, 0xc6e00bf3, 0xd5a79147, 0x06ca6351, 0x14292967,
  0x27b70a85, 0x2e1b2138, 0x4d2c6dfc, 0x53380d13, 0x650a7354, 0x766a0abb, 0x81c2c92e, 0x92722c85,
  0xa2bfe8a1, 0xa81a664b, 0xc24b8b70, 0xc76c51a3, 0xd192e819, 0xd6990624, 0xf40e3585, 0x106aa070,
  0x19a4c116, 0x1e376c08, 0x2748774c, 0x34b0bcb5, 0x391c0cb3, 0x4ed8aa4a, 0x5b9cca4f, 0x682e6ff3,
  0x748f82ee, 0x78a5636f, 0x84c87814, 0x8cc70208, 0x90befffa, 0xa4506ceb, 0xbef9a3f7, 0xc67178f2]
theorem kTab_len : kTab.length = 64 := rfl
def words (b : List Int) : Nat → List Int
  | 0 => []
  | n + 1 => words b n ++ [val ((b.drop (4 * n)).take 4)]
theorem words_len (b : List Int) (n : Nat) : (words b n).length = n := by
  induction n with
  | zero => rfl
  | succ n ih => simp [words, ih]
def blockS (s : H8) (b : List Int) : H8 := add8 s (rounds kTab (sched 48 (words b 16)) s)
def blocksS : Nat → H8 → List Int → H8
  | 0, s, _ => s
  | n + 1, s, b => blocksS n (blockS s (b.take 64)) (b.drop 64)
def H8.list (s : H8) : List Int := [s.a, s.b, s.c, s.d, s.e, s.f, s.g, s.h]
def H8.ok (s : H8) : Prop := ∀ x ∈ s.list, 0 ≤ x ∧ x < 4294967296
theorem add8_ok (s t : H8) : (add8 s t).ok := by
  intro x hx
  simp only [H8.list, add8, List.mem_cons, List.not_mem_nil, or_false] at hx
  omega
theorem blocksS_ok (n : Nat) (s : H8) (b : List Int) (h : s.ok) : (blocksS n s b).ok := by
  induction n generalizing s b with
  | zero => exact h
  | succ n ih => exact ih _ _ (add8_ok _ _)
def bytes8 : List Int → List Int
  | [] => []
  | x :: l => be 4 x ++ bytes8 l
def initS : H8 := ⟨0x6a09e667, 0xbb67ae85, 0x3c6ef372, 0xa54ff53a, 0x510e527f, 0x9b05688c, 0x1f83d9ab, 0x5be0cd19⟩
theorem initS_ok : initS.ok := by
  intro x hx
  simp only [H8.list, initS, List.mem_cons, List.not_mem_nil, or_false] at hx
  omega
def padZ (n : Nat) : Nat := (64 - (n % 64 + 9) % 64) % 64
def padS (n : Nat) : List Int := 128 :: (List.replicate (padZ n) 0 ++ be 8 ((n : Int) * 8))
theorem padS_len (n : Nat) : (padS n).length = padZ n + 9 := by simp [padS, be_len]
theorem padS_div (n : Nat) : (n + (padS n).length) % 64 = 0 := by rw [padS_len]; unfold padZ; omega
theorem padZ_lt (n : Nat) : padZ n < 64 := by unfold padZ; omega
theorem padS_rng (n : Nat) : ∀ x ∈ padS n, 0 ≤ x ∧ x ≤ 255 := by
  intro x hx
  simp only [padS, List.mem_cons, List.mem_append, List.mem_replicate] at hx
  rcases hx with rfl | ⟨_, rfl⟩ | hx
  · omega
  · omega
  · exact be_rng _ _ x hx
def shaS (b : List Int) : List Int := bytes8 (blocksS ((b ++ padS b.length).length / 64) initS (b ++ padS b.length)).list
theorem bytes8_len (l : List Int) : (bytes8 l).length = 4 * l.length := by
  induction l with
  | nil => rfl
  | cons x l ih => simp [bytes8, be_len, ih]; omega
theorem bytes8_rng (l : List Int) : ∀ x ∈ bytes8 l, 0 ≤ x ∧ x ≤ 255 := by
  induction l with
  | nil => intro x hx; cases hx
  | cons y l ih => exact rng_append (be_rng _ _) ih
theorem shaS_len (b : List Int) : (shaS b).length = 32 := by simp [shaS, bytes8_len, H8.list]
theorem shaS_rng (b : List Int) : ∀ x ∈ shaS b, 0 ≤ x ∧ x ≤ 255 := bytes8_rng _
theorem blocksS_append (m n : Nat) (s : H8) (a b : List Int) (h : a.length = 64 * m) : blocksS (m + n) s (a ++ b) = blocksS n (blocksS m s a) b := by
  induction m generalizing s a with
  | zero =>
    obtain rfl : a = [] := List.eq_nil_of_length_eq_zero (by omega)
    simp [blocksS]
  | succ m ih =>
    rw [show m + 1 + n = (m + n) + 1 by omega, blocksS, blocksS, List.take_append_of_le_length (by omega), List.drop_append_of_le_length (by omega)]
    exact ih _ _ (by simp; omega)
theorem shaS_split (b : List Int) (k : Nat) (hk : k = b.length / 64) : shaS b = bytes8 (blocksS ((b.drop (64 * k) ++ padS b.length).length / 64) (blocksS k initS (b.take (64 * k))) (b.drop (64 * k) ++ padS b.length)).list := by
  have h1 : (b.take (64 * k)).length = 64 * k := by simp; omega
  have h2 : b ++ padS b.length = b.take (64 * k) ++ (b.drop (64 * k) ++ padS b.length) := by rw [← List.append_assoc, List.take_append_drop]
  have h3 : (b.take (64 * k) ++ (b.drop (64 * k) ++ padS b.length)).length / 64 = k + (b.drop (64 * k) ++ padS b.length).length / 64 := by
    rw [List.length_append, h1]; omega
  unfold shaS
  rw [h2, h3, blocksS_append k _ _ _ _ h1]
end Go.Proofs.YtgpigjoonhghhaaDoor
