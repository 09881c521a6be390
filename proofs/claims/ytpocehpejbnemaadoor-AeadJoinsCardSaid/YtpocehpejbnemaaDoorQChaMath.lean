/-
  The cipher of the document, as functions on numbers and lists of numbers.
-/
import Derived.Test.YtpocehpejbnemaaDoorRows
import Derived.Test.YtpocehpejbnemaaDoorQZ0
namespace Go.Proofs.YtpocehpejbnemaaDoor
open Go.RowKit
set_option linter.unusedVariables false

/-- x turned to the left by k bits. -/
def rotl (x k : Int) : Int := bits .or .u32 (x * 2 ^ k.toNat % 4294967296) (x / 2 ^ (32 - k).toNat)
theorem orc_comm (a b : Int) : bits .or .u32 a b = bits .or .u32 b a := by
  show IntKind.u32.wrap ((BitVec.ofInt 32 a ||| BitVec.ofInt 32 b).toNat : Int) = IntKind.u32.wrap ((BitVec.ofInt 32 b ||| BitVec.ofInt 32 a).toNat : Int)
  rw [BitVec.or_comm]
theorem bitc_rng (o : BinOp) (a b : Int) (h : o = .or ∨ o = .and ∨ o = .xor) : 0 ≤ bits o .u32 a b ∧ bits o .u32 a b < 4294967296 := by
  rcases h with rfl | rfl | rfl
  · show 0 ≤ IntKind.u32.wrap _ ∧ IntKind.u32.wrap _ < _
    rw [IntKind.wrap_u32']; omega
  · show 0 ≤ IntKind.u32.wrap _ ∧ IntKind.u32.wrap _ < _
    rw [IntKind.wrap_u32']; omega
  · show 0 ≤ IntKind.u32.wrap _ ∧ IntKind.u32.wrap _ < _
    rw [IntKind.wrap_u32']; omega
/-- Four words. -/
structure W4 where
  a : Int
  b : Int
  c : Int
  d : Int
/-- Four words mixed. -/
def quarter (s : W4) : W4 :=
  let d1 := rotl (bits .xor .u32 s.d ((s.a + s.b) % 4294967296)) 16
  let b1 := rotl (bits .xor .u32 s.b ((s.c + d1) % 4294967296)) 12
  let a2 := (s.a + s.b + b1) % 4294967296
  let d2 := rotl (bits .xor .u32 d1 a2) 8
  let c2 := (s.c + d1 + d2) % 4294967296
  ⟨a2, rotl (bits .xor .u32 b1 c2) 7, c2, d2⟩
theorem rotl_rng (x k : Int) : 0 ≤ rotl x k ∧ rotl x k < 4294967296 := bitc_rng _ _ _ (Or.inl rfl)
structure W4.Ok (s : W4) : Prop where
  a : 0 ≤ s.a ∧ s.a < 4294967296
  b : 0 ≤ s.b ∧ s.b < 4294967296
  c : 0 ≤ s.c ∧ s.c < 4294967296
  d : 0 ≤ s.d ∧ s.d < 4294967296
theorem quarter_ok (s : W4) : (quarter s).Ok := by
  refine ⟨?_, rotl_rng _ _, ?_, rotl_rng _ _⟩
  · show 0 ≤ (s.a + s.b + _) % 4294967296 ∧ (s.a + s.b + _) % 4294967296 < _
    omega
  · show 0 ≤ (s.c + _ + _) % 4294967296 ∧ (s.c + _ + _) % 4294967296 < _
    omega
/-- A disjunction of numbers whose bits are apart is their sum. -/
theorem or_sum (i : Nat) (a b : Int) (ha : 0 ≤ a) (hb : 0 ≤ b) (hb2 : b < 2 ^ i) (hs : 2 ^ i * a + b < 4294967296) : bits .or .u32 (2 ^ i * a) b = 2 ^ i * a + b := by
  obtain ⟨m, rfl⟩ := Int.eq_ofNat_of_zero_le ha
  obtain ⟨n, rfl⟩ := Int.eq_ofNat_of_zero_le hb
  have hn : n < 2 ^ i := by exact_mod_cast hb2
  have e1 : ((2 : Int) ^ i * (m : Int)) = ((2 ^ i * m : Nat) : Int) := by simp
  have e2 : ((2 : Int) ^ i * (m : Int) + (n : Int)) = ((2 ^ i * m + n : Nat) : Int) := by simp
  have hs' : 2 ^ i * m + n < 4294967296 := by
    rw [e2] at hs
    generalize 2 ^ i * m + n = z at hs
    omega
  rw [e2, e1]
  show IntKind.u32.wrap (((BitVec.ofInt 32 ((2 ^ i * m : Nat) : Int)) ||| BitVec.ofInt 32 (n : Int)).toNat : Int) = _
  rw [IntKind.wrap_u32']
  simp only [BitVec.ofInt_natCast, BitVec.toNat_or, BitVec.toNat_ofNat]
  generalize hP : 2 ^ i * m = Pm at *
  have h1 : Pm % 2 ^ 32 = Pm := Nat.mod_eq_of_lt (by omega)
  have h2 : n % 2 ^ 32 = n := Nat.mod_eq_of_lt (by omega)
  rw [h1, h2, ← hP, ← Nat.two_pow_add_eq_or_of_lt hn, hP]
  omega
theorem rotl7 (v : Int) (h : 0 ≤ v ∧ v < 4294967296) : rotl v 7 = 128 * (v % 33554432) + v / 33554432 := by
  have := or_sum 7 (v % 33554432) (v / 33554432) (by omega) (by omega) (by omega) (by omega)
  unfold rotl
  rw [show (7 : Int).toNat = 7 from rfl, show (32 - (7 : Int)).toNat = 25 from rfl, show v * 2 ^ 7 % 4294967296 = 2 ^ 7 * (v % 33554432) by omega]
  exact this
theorem rotl8 (v : Int) (h : 0 ≤ v ∧ v < 4294967296) : rotl v 8 = 256 * (v % 16777216) + v / 16777216 := by
  have := or_sum 8 (v % 16777216) (v / 16777216) (by omega) (by omega) (by omega) (by omega)
  unfold rotl
  rw [show (8 : Int).toNat = 8 from rfl, show (32 - (8 : Int)).toNat = 24 from rfl, show v * 2 ^ 8 % 4294967296 = 2 ^ 8 * (v % 16777216) by omega]
  exact this
theorem rotl12 (v : Int) (h : 0 ≤ v ∧ v < 4294967296) : rotl v 12 = 4096 * (v % 1048576) + v / 1048576 := by
  have := or_sum 12 (v % 1048576) (v / 1048576) (by omega) (by omega) (by omega) (by omega)
  unfold rotl
  rw [show (12 : Int).toNat = 12 from rfl, show (32 - (12 : Int)).toNat = 20 from rfl, show v * 2 ^ 12 % 4294967296 = 2 ^ 12 * (v % 1048576) by omega]
  exact this
theorem rotl16 (v : Int) (h : 0 ≤ v ∧ v < 4294967296) : rotl v 16 = 65536 * (v % 65536) + v / 65536 := by
  have := or_sum 16 (v % 65536) (v / 65536) (by omega) (by omega) (by omega) (by omega)
  unfold rotl
  rw [show (16 : Int).toNat = 16 from rfl, show (32 - (16 : Int)).toNat = 16 from rfl, show v * 2 ^ 16 % 4294967296 = 2 ^ 16 * (v % 65536) by omega]
  exact this
/-- Turned back. -/
theorem back7 (v : Int) (h : 0 ≤ v ∧ v < 4294967296) : bits .or .u32 (rotl v 7 / 128) (rotl v 7 * 33554432 % 4294967296) = v := by
  have := or_sum 25 (v / 33554432) (v % 33554432) (by omega) (by omega) (by omega) (by omega)
  rw [orc_comm, rotl7 v h, show (128 * (v % 33554432) + v / 33554432) * 33554432 % 4294967296 = 2 ^ 25 * (v / 33554432) by omega, show (128 * (v % 33554432) + v / 33554432) / 128 = v % 33554432 by omega, this]
  omega
theorem back8 (v : Int) (h : 0 ≤ v ∧ v < 4294967296) : bits .or .u32 (rotl v 8 / 256) (rotl v 8 * 16777216 % 4294967296) = v := by
  have := or_sum 24 (v / 16777216) (v % 16777216) (by omega) (by omega) (by omega) (by omega)
  rw [orc_comm, rotl8 v h, show (256 * (v % 16777216) + v / 16777216) * 16777216 % 4294967296 = 2 ^ 24 * (v / 16777216) by omega, show (256 * (v % 16777216) + v / 16777216) / 256 = v % 16777216 by omega, this]
  omega
theorem back12 (v : Int) (h : 0 ≤ v ∧ v < 4294967296) : bits .or .u32 (rotl v 12 / 4096) (rotl v 12 * 1048576 % 4294967296) = v := by
  have := or_sum 20 (v / 1048576) (v % 1048576) (by omega) (by omega) (by omega) (by omega)
  rw [orc_comm, rotl12 v h, show (4096 * (v % 1048576) + v / 1048576) * 1048576 % 4294967296 = 2 ^ 20 * (v / 1048576) by omega, show (4096 * (v % 1048576) + v / 1048576) / 4096 = v % 1048576 by omega, this]
  omega
theorem back16 (v : Int) (h : 0 ≤ v ∧ v < 4294967296) : bits .or .u32 (rotl v 16 / 65536) (rotl v 16 * 65536 % 4294967296) = v := by
  have := or_sum 16 (v / 65536) (v % 65536) (by omega) (by omega) (by omega) (by omega)
  rw [orc_comm, rotl16 v h, show (65536 * (v % 65536) + v / 65536) * 65536 % 4294967296 = 2 ^ 16 * (v / 65536) by omega, show (65536 * (v % 65536) + v / 65536) / 65536 = v % 65536 by omega, this]
  omega
theorem xorc_rng (a b : Int) : 0 ≤ bits .xor .u32 a b ∧ bits .xor .u32 a b < 4294967296 := bitc_rng _ _ _ (Or.inr (Or.inr rfl))
theorem xorc_back (v y : Int) (h : 0 ≤ v ∧ v < 4294967296) : bits .xor .u32 (bits .xor .u32 v y) y = v := by
  show IntKind.u32.wrap ((BitVec.ofInt 32 (IntKind.u32.wrap ((BitVec.ofInt 32 v ^^^ BitVec.ofInt 32 y).toNat : Int)) ^^^ BitVec.ofInt 32 y).toNat : Int) = v
  rw [IntKind.wrap_u32', IntKind.wrap_u32']
  have e : BitVec.ofInt 32 (((BitVec.ofInt 32 v ^^^ BitVec.ofInt 32 y).toNat : Int) % 4294967296) = BitVec.ofInt 32 v ^^^ BitVec.ofInt 32 y := by
    have hl : (BitVec.ofInt 32 v ^^^ BitVec.ofInt 32 y).toNat < 4294967296 := (BitVec.ofInt 32 v ^^^ BitVec.ofInt 32 y).isLt
    rw [Int.emod_eq_of_lt (by omega) (by omega), BitVec.ofInt_natCast, BitVec.ofNat_toNat, BitVec.setWidth_eq]
  rw [e, BitVec.xor_assoc, BitVec.xor_self, BitVec.xor_zero, BitVec.toNat_ofInt]
  omega
theorem sub_back (a b : Int) (h : 0 ≤ a ∧ a < 4294967296) : ((a + b) % 4294967296 - b) % 4294967296 = a := by omega
/-- Which words of the state are mixed. -/
def qT : List Nat := [0, 4, 8, 12, 1, 5, 9, 13, 2, 6, 10, 14, 3, 7, 11, 15, 0, 5, 10, 15, 1, 6, 11, 12, 2, 7, 8, 13, 3, 4, 9, 14]
def mixL (s : List Int) (i j k l : Nat) : List Int :=
  let r := quarter ⟨s.getD i 0, s.getD j 0, s.getD k 0, s.getD l 0⟩
  (((s.set i r.a).set j r.b).set k r.c).set l r.d
theorem mixL_len (s : List Int) (i j k l : Nat) : (mixL s i j k l).length = s.length := by simp [mixL]
def mixN (n : Nat) (s : List Int) : List Int := mixL s (qT.getD (4 * n) 0) (qT.getD (4 * n + 1) 0) (qT.getD (4 * n + 2) 0) (qT.getD (4 * n + 3) 0)
def eight : Nat → List Int → List Int
  | 0, s => s
  | n + 1, s => mixN n (eight n s)
theorem eight_len (n : Nat) (s : List Int) : (eight n s).length = s.length := by
  induction n with
  | zero => rfl
  | succ n ih => rw [eight, mixN, mixL_len, ih]
def rndsC : Nat → List Int → List Int
  | 0, s => s
  | k + 1, s => eight 8 (rndsC k s)
theorem rndsC_len (n : Nat) (s : List Int) : (rndsC n s).length = s.length := by
  induction n with
  | zero => rfl
  | succ n ih => rw [rndsC, eight_len, ih]
/-- Every number of the list is a word. -/
def AllW (l : List Int) : Prop := ∀ j, j < l.length → 0 ≤ l.getD j 0 ∧ l.getD j 0 < 4294967296
/-- The four bytes of a word, the lowest one first. -/
def le4 (v : Int) : List Int := [v % 256, v / 256 % 256, v / 65536 % 256, v / 16777216 % 256]
def bytesLE : List Int → List Int
  | [] => []
  | v :: l => le4 v ++ bytesLE l
theorem bytesLE_len (l : List Int) : (bytesLE l).length = 4 * l.length := by
  induction l with
  | nil => rfl
  | cons v l ih => simp [bytesLE, le4, ih]; omega
theorem bytesLE_append (l m : List Int) : bytesLE (l ++ m) = bytesLE l ++ bytesLE m := by
  induction l with
  | nil => rfl
  | cons v l ih => simp [bytesLE, ih]
theorem bytesLE_rng (l : List Int) : ∀ x ∈ bytesLE l, 0 ≤ x ∧ x ≤ 255 := by
  induction l with
  | nil => intro x hx; cases hx
  | cons y l ih =>
    refine rng_append ?_ ih
    intro x hx
    simp only [le4, List.mem_cons, List.not_mem_nil, or_false] at hx
    omega
/-- The sums of the words of two lists, as far as the first n. -/
def sums (s t : List Int) : Nat → List Int
  | 0 => []
  | n + 1 => sums s t n ++ [(s.getD n 0 + t.getD n 0) % 4294967296]
theorem sums_len (s t : List Int) (n : Nat) : (sums s t n).length = n := by
  induction n with
  | zero => rfl
  | succ n ih => simp [sums, ih]
/-- The word i of bytes. -/
def leW (b : List Int) (i : Nat) : Int :=
  bits .or .u32 (bits .or .u32 (bits .or .u32 (b.getD (4 * i) 0) (b.getD (4 * i + 1) 0 * 256)) (b.getD (4 * i + 2) 0 * 65536)) (b.getD (4 * i + 3) 0 * 16777216)
def wordsLE (b : List Int) : Nat → List Int
  | 0 => []
  | n + 1 => wordsLE b n ++ [leW b n]
theorem wordsLE_len (b : List Int) (n : Nat) : (wordsLE b n).length = n := by
  induction n with
  | zero => rfl
  | succ n ih => simp [wordsLE, ih]
/-- The state at the beginning of a block. -/
def initC (key : List Int) (c : Int) (nonce : List Int) : List Int := [0x61707865, 0x3320646e, 0x79622d32, 0x6b206574] ++ (wordsLE key 8 ++ ([c] ++ wordsLE nonce 3))
theorem initC_len (key : List Int) (c : Int) (nonce : List Int) : (initC key c nonce).length = 16 := by simp [initC, wordsLE_len]
theorem initC_at (key : List Int) (c : Int) (nonce : List Int) : (initC key c nonce).getD 12 0 = c := by
  have h1 := wordsLE_len key 8
  simp [initC, List.getD_eq_getElem?_getD, h1]
theorem initC_set (key : List Int) (c d : Int) (nonce : List Int) : (initC key c nonce).set 12 d = initC key d nonce := by
  have h1 := wordsLE_len key 8
  unfold initC
  rw [List.set_append_right _ _ (by simp), List.set_append_right _ _ (by simp [h1]), h1]
  simp
def mixedC (s : List Int) : List Int := bytesLE (sums (rndsC 10 s) s 16)
theorem mixedC_len (s : List Int) : (mixedC s).length = 64 := by rw [mixedC, bytesLE_len, sums_len]
theorem mixedC_rng (s : List Int) : ∀ x ∈ mixedC s, 0 ≤ x ∧ x ≤ 255 := bytesLE_rng _
/-- A block of the key stream. -/
def blockC (key : List Int) (c : Int) (nonce : List Int) : List Int := mixedC (initC key c nonce)
theorem blockC_len (key : List Int) (c : Int) (nonce : List Int) : (blockC key c nonce).length = 64 := mixedC_len _
theorem blockC_rng (key : List Int) (c : Int) (nonce : List Int) : ∀ x ∈ blockC key c nonce, 0 ≤ x ∧ x ≤ 255 := mixedC_rng _
/-- The byte i of the key stream. -/
def ksC (key : List Int) (c : Int) (nonce : List Int) (i : Nat) : Int := (blockC key ((c + ((i / 64 : Nat) : Int)) % 4294967296) nonce).getD (i % 64) 0
theorem xorb_rng (a b : Int) : 0 ≤ bits .xor .u8 a b ∧ bits .xor .u8 a b ≤ 255 := by
  show 0 ≤ IntKind.u8.wrap _ ∧ IntKind.u8.wrap _ ≤ _
  rw [IntKind.wrap_u8]; omega
theorem xorb_back (v y : Int) (h : 0 ≤ v ∧ v ≤ 255) : bits .xor .u8 (bits .xor .u8 v y) y = v := by
  show IntKind.u8.wrap ((BitVec.ofInt 8 (IntKind.u8.wrap ((BitVec.ofInt 8 v ^^^ BitVec.ofInt 8 y).toNat : Int)) ^^^ BitVec.ofInt 8 y).toNat : Int) = v
  rw [IntKind.wrap_u8, IntKind.wrap_u8]
  have e : BitVec.ofInt 8 (((BitVec.ofInt 8 v ^^^ BitVec.ofInt 8 y).toNat : Int) % 256) = BitVec.ofInt 8 v ^^^ BitVec.ofInt 8 y := by
    have hl : (BitVec.ofInt 8 v ^^^ BitVec.ofInt 8 y).toNat < 256 := (BitVec.ofInt 8 v ^^^ BitVec.ofInt 8 y).isLt
    rw [Int.emod_eq_of_lt (by omega) (by omega), BitVec.ofInt_natCast, BitVec.ofNat_toNat, BitVec.setWidth_eq]
  rw [e, BitVec.xor_assoc, BitVec.xor_self, BitVec.xor_zero, BitVec.toNat_ofInt]
  omega
theorem xorb_zero (m : Int) (h : 0 ≤ m ∧ m ≤ 255) : bits .xor .u8 0 m = m := by
  show IntKind.u8.wrap ((BitVec.ofInt 8 0 ^^^ BitVec.ofInt 8 m).toNat : Int) = m
  rw [IntKind.wrap_u8, show BitVec.ofInt 8 0 = 0#8 from rfl, BitVec.zero_xor, BitVec.toNat_ofInt]
  omega
/-- The bytes of a list, from place i on, each one xor that of the stream. -/
def xorL (f : Nat → Int) : Nat → List Int → List Int
  | _, [] => []
  | i, x :: l => bits .xor .u8 x (f i) :: xorL f (i + 1) l
theorem xorL_len (f : Nat → Int) (i : Nat) (l : List Int) : (xorL f i l).length = l.length := by
  induction l generalizing i with
  | nil => rfl
  | cons x l ih => simp [xorL, ih]
theorem xorL_rng (f : Nat → Int) (i : Nat) (l : List Int) : ∀ x ∈ xorL f i l, 0 ≤ x ∧ x ≤ 255 := by
  induction l generalizing i with
  | nil => intro x hx; cases hx
  | cons y l ih =>
    intro x hx
    rcases List.mem_cons.1 hx with rfl | hx
    · exact xorb_rng _ _
    · exact ih _ x hx
theorem xorL_append (f : Nat → Int) (i : Nat) (l m : List Int) : xorL f i (l ++ m) = xorL f i l ++ xorL f (i + l.length) m := by
  induction l generalizing i with
  | nil => simp [xorL]
  | cons x l ih => simp [xorL, ih, Nat.add_comm, Nat.add_left_comm]
theorem xorL_take (f : Nat → Int) (i : Nat) (l : List Int) (k : Nat) : (xorL f i l).take k = xorL f i (l.take k) := by
  induction l generalizing i k with
  | nil => simp [xorL]
  | cons x l ih =>
    cases k with
    | zero => simp [xorL]
    | succ k => simp [xorL, ih]
theorem xorL_drop (f : Nat → Int) (i : Nat) (l : List Int) (k : Nat) (hk : k ≤ l.length) : (xorL f i l).drop k = xorL f (i + k) (l.drop k) := by
  induction l generalizing i k with
  | nil => simp [xorL]
  | cons x l ih =>
    cases k with
    | zero => simp
    | succ k =>
      simp only [List.length_cons] at hk
      simp only [xorL, List.drop_succ_cons]
      rw [ih (i + 1) k (by omega)]
      congr 1
      omega
theorem xorL_next (f : Nat → Int) (l : List Int) (j : Nat) (hj : j < l.length) : xorL f 0 (l.take (j + 1)) = xorL f 0 (l.take j) ++ [bits .xor .u8 (l.getD j 0) (f j)] := by
  rw [List.take_succ_eq_append_getElem hj, xorL_append]
  simp [xorL, List.getD_eq_getElem?_getD, hj]
  congr 1
  congr 1
  omega
theorem xorL_twice (f : Nat → Int) (i : Nat) (l : List Int) (h : ∀ x ∈ l, 0 ≤ x ∧ x ≤ 255) : xorL f i (xorL f i l) = l := by
  induction l generalizing i with
  | nil => rfl
  | cons x l ih =>
    rw [xorL, xorL, xorb_back _ _ (h x (by simp)), ih _ (fun y hy => h y (by simp [hy]))]
theorem xorL_shift (f g : Nat → Int) (m i : Nat) (l : List Int) (h : ∀ j, g j = f (m + j)) : xorL g i l = xorL f (m + i) l := by
  induction l generalizing i with
  | nil => rfl
  | cons x l ih => rw [xorL, xorL, h, ih, Nat.add_assoc]
/-- Encrypted bytes. -/
def xorC (key : List Int) (c : Int) (nonce : List Int) (b : List Int) : List Int := xorL (ksC key c nonce) 0 b
theorem xorC_len (key : List Int) (c : Int) (nonce : List Int) (b : List Int) : (xorC key c nonce b).length = b.length := xorL_len _ _ _
theorem xorC_rng (key : List Int) (c : Int) (nonce : List Int) (b : List Int) : ∀ x ∈ xorC key c nonce b, 0 ≤ x ∧ x ≤ 255 := xorL_rng _ _ _
theorem xorC_twice (key : List Int) (c : Int) (nonce : List Int) (b : List Int) (h : ∀ x ∈ b, 0 ≤ x ∧ x ≤ 255) : xorC key c nonce (xorC key c nonce b) = b := xorL_twice _ _ _ h
theorem xorC_take (key : List Int) (c : Int) (nonce : List Int) (b : List Int) (m : Nat) : xorC key c nonce (b.take m) = (xorC key c nonce b).take m := (xorL_take _ _ _ _).symm
theorem ksC_shift (key : List Int) (c : Int) (nonce : List Int) (k j : Nat) : ksC key ((c + k) % 4294967296) nonce j = ksC key c nonce (64 * k + j) := by
  unfold ksC
  rw [show (64 * k + j) / 64 = k + j / 64 by omega, show (64 * k + j) % 64 = j % 64 by omega]
  congr 2
  push_cast
  omega
theorem xorC_drop (key : List Int) (c : Int) (nonce : List Int) (b : List Int) (k : Nat) (hk : 64 * k ≤ b.length) : xorC key ((c + k) % 4294967296) nonce (b.drop (64 * k)) = (xorC key c nonce b).drop (64 * k) := by
  unfold xorC
  rw [xorL_drop _ _ _ _ hk, xorL_shift (ksC key c nonce) _ (64 * k) 0 _ (fun j => ksC_shift key c nonce k j)]
  congr 1
  omega
/-- The first k blocks of the stream. -/
def streamC (key : List Int) (c : Int) (nonce : List Int) : Nat → List Int
  | 0 => []
  | k + 1 => streamC key c nonce k ++ blockC key ((c + k) % 4294967296) nonce
theorem streamC_len (key : List Int) (c : Int) (nonce : List Int) (k : Nat) : (streamC key c nonce k).length = 64 * k := by
  induction k with
  | zero => rfl
  | succ k ih => rw [streamC, List.length_append, ih, blockC_len]; omega
theorem streamC_rng (key : List Int) (c : Int) (nonce : List Int) (k : Nat) : ∀ x ∈ streamC key c nonce k, 0 ≤ x ∧ x ≤ 255 := by
  induction k with
  | zero => intro x hx; cases hx
  | succ k ih => exact rng_append ih (blockC_rng _ _ _)
theorem streamC_at (key : List Int) (c : Int) (nonce : List Int) (k i : Nat) (h : i < 64 * k) : (streamC key c nonce k).getD i 0 = ksC key c nonce i := by
  induction k with
  | zero => omega
  | succ k ih =>
    rw [streamC, List.getD_eq_getElem?_getD, List.getElem?_append]
    have hl := streamC_len key c nonce k
    by_cases hi : i < 64 * k
    · rw [if_pos (by omega), ← List.getD_eq_getElem?_getD, ih hi]
    · rw [if_neg (by omega), ← List.getD_eq_getElem?_getD, hl]
      unfold ksC
      rw [show i / 64 = k by omega, show i % 64 = i - 64 * k by omega]
theorem xorC_zeros (key : List Int) (c : Int) (nonce : List Int) (n k : Nat) (h : n ≤ 64 * k) : xorC key c nonce (List.replicate n 0) = (streamC key c nonce k).take n := by
  have hl := streamC_len key c nonce k
  unfold xorC
  induction n with
  | zero => rfl
  | succ n ih =>
    rw [List.replicate_succ', xorL_append, ih (by omega), List.take_succ_eq_append_getElem (by omega)]
    congr 1
    rw [xorL, xorL]
    congr 1
    have h1 := streamC_at key c nonce k n (by omega)
    have h2 := streamC_rng key c nonce k
    rw [List.getD_eq_getElem?_getD, List.getElem?_eq_getElem (by omega), Option.getD_some] at h1
    have h3 := h2 _ (List.getElem_mem (by omega : n < (streamC key c nonce k).length))
    rw [h1] at h3 ⊢
    rw [List.length_replicate, Nat.zero_add]
    exact xorb_zero _ h3
end Go.Proofs.YtpocehpejbnemaaDoor
