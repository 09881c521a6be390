/-
  What wire.Number returns, for every slice of bytes, place and width.
  The hash of the document, as functions on numbers and lists of numbers.
  A block of words of 32 bits.
  Rotations: math/bits.RotateLeft32, sha256.right, sha256.turned and the document's turn.
-/
import Derived.Test.YtkniifopfgeopaaDoorRows
import Derived.Test.YtkniifopfgeopaaDoorHZ0
import Derived.WalkKit
namespace Go.Proofs.YtkniifopfgeopaaDoor
open Go.RowKit
set_option linter.unusedVariables false

theorem isWidth_yes (v : Int) (w : World) (h1 : 1 ≤ v) (h8 : v ≤ 8) : Calls Tryd.prog 67 #[.int .i64 v] w fun e w' => e = .returned (.bool true) ∧ w = w' := by
  go_enter Tryd.func67, Tryd.ntmps67
  go_wp2
  go_ret
  exact ⟨by simp <;> omega, rfl⟩
theorem inside_yes (p : Option Addr) (n c : Nat) (a k : Int) (w : World) (hn : n ≤ 9223372036854775807) (h1 : 0 ≤ a) (h2 : 0 ≤ k) (h3 : k ≤ n - a) :
    Calls Tryd.prog 79 #[.slice p n c, .int .i64 a, .int .i64 k] w fun e w' => e = .returned (.bool true) ∧ w = w' := by
  go_enter Tryd.func79, Tryd.ntmps79
  go_wp2
  go_ret
  exact ⟨by simp <;> omega, rfl⟩
theorem inside_no (p : Option Addr) (n c : Nat) (a k : Int) (w : World) (hn : n ≤ 9223372036854775807) (ha : a ≤ 9223372036854775807) (h : a < 0 ∨ k < 0 ∨ n - a < k) :
    Calls Tryd.prog 79 #[.slice p n c, .int .i64 a, .int .i64 k] w fun e w' => e = .returned (.bool false) ∧ w = w' := by
  by_cases h1 : 0 ≤ a
  · by_cases h2 : 0 ≤ k
    · have h3 : (n : Int) - a < k := by omega
      go_enter Tryd.func79, Tryd.ntmps79
      go_wp2
      all_goals go_ret
      all_goals exact ⟨by simp <;> omega, rfl⟩
    · go_enter Tryd.func79, Tryd.ntmps79
      go_wp2
      all_goals go_ret
      all_goals exact ⟨by simp <;> omega, rfl⟩
  · go_enter Tryd.func79, Tryd.ntmps79
    go_wp2
    all_goals go_ret
    all_goals exact ⟨by simp <;> omega, rfl⟩

set_option maxHeartbeats 400000 in
theorem number_yes (p : Option Addr) (n c : Nat) (xs : List Int) (w : World) (h : Byt w p n c xs) (a k : Nat) (h1 : 1 ≤ k) (h8 : k ≤ 8) (hin : a + k ≤ n) :
    Calls Tryd.prog 70 #[.slice p n c, .int .i64 a, .int .i64 k] w fun e w' => e = .returned (.tuple #[.int .u64 (val ((xs.drop a).take k)), .bool true]) ∧ w = w' := by
  have hn := h.le
  have hcap := h.cap
  obtain ⟨b, o, rfl, hc⟩ := h.at_ (by omega)
  have hl : ((xs.drop a).take k).length = k := by have := h.len; simp; omega
  have hr : ∀ x ∈ (xs.drop a).take k, 0 ≤ x ∧ x ≤ 255 := rng_take (rng_drop h.rng _) _
  have hcc : ∀ j, j < k → w.cell? ⟨b, o + a + j, none⟩ = some (.int .u8 (((xs.drop a).take k).getD j 0)) := fun j hj => by
    rw [Nat.add_assoc, hc (a + j) (by omega)]
    simp [List.getD_eq_getElem?_getD, List.getElem?_take_of_lt hj]
  generalize (xs.drop a).take k = ys at hl hr hcc
  clear hc h
  go_enter Tryd.func70, Tryd.ntmps70
  go_wp2_with (first | (go_at_call 67; refine (isWidth_yes _ _ (by omega) (by omega)).mono ?_; rintro e w' ⟨rfl, rfl⟩) | (go_at_call 79; refine (inside_yes _ _ _ _ _ _ (by omega) (by omega) (by omega) (by omega)).mono ?_; rintro e w' ⟨rfl, rfl⟩))
  go_loop [8, 10, 28] (fun v x i => ∃ j : Nat, j ≤ k ∧ i = .int .i64 j ∧ v = .int .u64 (val (ys.take j))) (fun _ _ i => k - (intOf i).toNat)
  case atStart => exact ⟨0, by omega, rfl, rfl⟩
  case round =>
    obtain ⟨j, hj, rfl, rfl⟩ := hrel
    by_cases hlt : j < k
    · have hcell := hcc j hlt
      have hb := rng_getD hr j
      have hv := val_56 (ys.take j) (rng_take hr j) (by simp; omega)
      have hs := hidden (val_step ys j (by omega))
      have ho := or_byte (val (ys.take j)) (ys.getD j 0) hv.1 hv.2 hb.1 hb.2
      generalize val (ys.take j) = v at *
      generalize ys.getD j 0 = x at *
      clear hcc hr hl
      go_wp2
      go_round
      case rel => exact ⟨j + 1, by omega, by go_num, by rw [hs.out]⟩
      case measure => simp [intOf]; omega
    · obtain rfl : j = k := by omega
      have hy : ys.take j = ys := List.take_of_length_le (by omega)
      clear hcc hr
      go_wp2
      go_ret2
      exact ⟨rfl, rfl⟩

end Go.Proofs.YtkniifopfgeopaaDoor

namespace Go.Proofs.YtkniifopfgeopaaDoor
open Go.RowKit
set_option linter.unusedVariables false

/-- x turned to the right by k bits. -/
def rotr (x k : Int) : Int := bits .or .u32 (x / 2 ^ k.toNat) (x * 2 ^ (32 - k).toNat % 4294967296)
theorem or32_comm (a b : Int) : bits .or .u32 a b = bits .or .u32 b a := by
  show IntKind.u32.wrap ((BitVec.ofInt 32 a ||| BitVec.ofInt 32 b).toNat : Int) = IntKind.u32.wrap ((BitVec.ofInt 32 b ||| BitVec.ofInt 32 a).toNat : Int)
  rw [BitVec.or_comm]
def sig (x a b c : Int) : Int := bits .xor .u32 (bits .xor .u32 (rotr x a) (rotr x b)) (rotr x c)
/-- The next word of the schedule. -/
def nxt (x y u v : Int) : Int :=
  (bits .xor .u32 (bits .xor .u32 (rotr x 17) (rotr x 19)) (x / 1024) + u + bits .xor .u32 (bits .xor .u32 (rotr y 7) (rotr y 18)) (y / 8) + v) % 4294967296
def nextW (l : List Int) : Int := nxt (l.getD (l.length - 2) 0) (l.getD (l.length - 15) 0) (l.getD (l.length - 7) 0) (l.getD (l.length - 16) 0)
def sched : Nat → List Int → List Int
  | 0, l => l
  | n + 1, l => sched n (l ++ [nextW l])
theorem sched_len (n : Nat) (l : List Int) : (sched n l).length = n + l.length := by
  induction n generalizing l with
  | zero => simp [sched]
  | succ n ih => rw [sched, ih]; simp; omega
/-- Eight words. -/
structure H8 where
  a : Int
  b : Int
  c : Int
  d : Int
  e : Int
  f : Int
  g : Int
  h : Int
def rX (s : H8) (k w : Int) : Int :=
  ((((s.h + sig s.e 6 11 25) % 4294967296 + bits .xor .u32 (bits .and .u32 s.e s.f) (bits .and .u32 (bits .xor .u32 4294967295 s.e) s.g)) % 4294967296 + k) % 4294967296 + w) % 4294967296
def rY (s : H8) : Int := (sig s.a 2 13 22 + bits .xor .u32 (bits .xor .u32 (bits .and .u32 s.a s.b) (bits .and .u32 s.a s.c)) (bits .and .u32 s.b s.c)) % 4294967296
def step (s : H8) (k w : Int) : H8 := ⟨(rX s k w + rY s) % 4294967296, s.a, s.b, s.c, (s.d + rX s k w) % 4294967296, s.e, s.f, s.g⟩
def rounds : List Int → List Int → H8 → H8
  | k :: ks, w :: ws, s => rounds ks ws (step s k w)
  | _, _, s => s
theorem rounds_step (ks ws : List Int) (j : Nat) (s : H8) (hk : j < ks.length) (hw : j < ws.length) : rounds (ks.drop j) (ws.drop j) s = rounds (ks.drop (j + 1)) (ws.drop (j + 1)) (step s (ks.getD j 0) (ws.getD j 0)) := by
  rw [List.drop_eq_getElem_cons hk, List.drop_eq_getElem_cons hw, rounds]
  simp [List.getD_eq_getElem?_getD, hk, hw]
def add8 (s t : H8) : H8 :=
  ⟨(s.a + t.a) % 4294967296, (s.b + t.b) % 4294967296, (s.c + t.c) % 4294967296, (s.d + t.d) % 4294967296, (s.e + t.e) % 4294967296, (s.f + t.f) % 4294967296, (s.g + t.g) % 4294967296, (s.h + t.h) % 4294967296⟩
def kTab : List Int := [
  0x428a2f98, 0x71374491, 0xb5c0fbcf, 0xe9b5dba5, 0x3956c25b, 0x59f111f1, 0x923f82a4, 0xab1c5ed5,
  0xd807aa98, 0x12835b01, 0x243185be, 0x550c7dc3, 0x72be5d74, 0x80deb1fe, 0x9bdc06a7, 0xc19bf174,
  0xe49b69c1, 0xefbe4786, 0x0fc19dc6, 0x240ca1cc, 0x2de92c6f, 0x4a7484aa, 0x5cb0a9dc, 0x76f988da,
  0x983e5152, 0xa831c66d, 0xb00327c8, 0xbf597fc7, 0xc6e00bf3, 0xd5a79147, 0x06ca6351, 0x14292967,
  0x27b70a85, 0x2e1b2138, 0x4d2c6dfc, 0x53380d13, 0x650a7354, 0x766a0abb, 0x81c2c92e, 0x92722c85,
  0xa2bfe8a1, 0xa81a664b, 0xc24b8b70, 0xc76c51a3, 0xd192e819, 0xd6990624, 0xf40e3585, 0x106aa070,
  0x19a4c116, 0x1e376c08, 0x2748774c, 0x34b0bcb5, 0x391c0cb3, 0x4ed8aa4a, 0x5b9cca4f, 0x682e6ff3,
  0x748f82ee, 0x78a5636f, 0x84c87814, 0x8cc70208, 0x90befffa, 0xa4506ceb, 0xbef9a3f7, 0xc67178f2]
theorem kTab_len : kTab.length = 64 := rfl
def words (b : List Int) : Nat → List Int
  | 0 => []
  | n + 1 => words b n ++ [val ((b.drop (4 * n)).take 4)]
theorem words_len (b : List Int) (n : Nat) : (words b n).length = n := by
  induction n with
  | zero => rfl
  | succ n ih => simp [words, ih]
/-- A block hashed. -/
def blockS (s : H8) (b : List Int) : H8 := add8 s (rounds kTab (sched 48 (words b 16)) s)
def blocksS : Nat → H8 → List Int → H8
  | 0, s, _ => s
  | n + 1, s, b => blocksS n (blockS s (b.take 64)) (b.drop 64)
def H8.list (s : H8) : List Int := [s.a, s.b, s.c, s.d, s.e, s.f, s.g, s.h]
def H8.ok (s : H8) : Prop := ∀ x ∈ s.list, 0 ≤ x ∧ x < 4294967296
theorem add8_ok (s t : H8) : (add8 s t).ok := by
  intro x hx
  simp only [H8.list, add8, List.mem_cons, List.not_mem_nil, or_false] at hx
  omega
theorem blocksS_ok (n : Nat) (s : H8) (b : List Int) (h : s.ok) : (blocksS n s b).ok := by
  induction n generalizing s b with
  | zero => exact h
  | succ n ih => exact ih _ _ (add8_ok _ _)
def bytes8 : List Int → List Int
  | [] => []
  | x :: l => be 4 x ++ bytes8 l
def initS : H8 := ⟨0x6a09e667, 0xbb67ae85, 0x3c6ef372, 0xa54ff53a, 0x510e527f, 0x9b05688c, 0x1f83d9ab, 0x5be0cd19⟩
theorem initS_ok : initS.ok := by
  intro x hx
  simp only [H8.list, initS, List.mem_cons, List.not_mem_nil, or_false] at hx
  omega
/-- How many zeros stand behind the first byte of what follows a message of n bytes. -/
def padZ (n : Nat) : Nat := (64 - (n % 64 + 9) % 64) % 64
def padS (n : Nat) : List Int := 128 :: (List.replicate (padZ n) 0 ++ be 8 ((n : Int) * 8))
theorem padS_len (n : Nat) : (padS n).length = padZ n + 9 := by simp [padS, be_len]
theorem padS_div (n : Nat) : (n + (padS n).length) % 64 = 0 := by rw [padS_len]; unfold padZ; omega
theorem padZ_lt (n : Nat) : padZ n < 64 := by unfold padZ; omega
theorem padS_rng (n : Nat) : ∀ x ∈ padS n, 0 ≤ x ∧ x ≤ 255 := by
  intro x hx
  simp only [padS, List.mem_cons, List.mem_append, List.mem_replicate] at hx
  rcases hx with rfl | ⟨_, rfl⟩ | hx
  · omega
  · omega
  · exact be_rng _ _ x hx
def shaS (b : List Int) : List Int := bytes8 (blocksS ((b ++ padS b.length).length / 64) initS (b ++ padS b.length)).list
theorem bytes8_len (l : List Int) : (bytes8 l).length = 4 * l.length := by
  induction l with
  | nil => rfl
  | cons x l ih => simp [bytes8, be_len, ih]; omega
theorem bytes8_rng (l : List Int) : ∀ x ∈ bytes8 l, 0 ≤ x ∧ x ≤ 255 := by
  induction l with
  | nil => intro x hx; cases hx
  | cons y l ih => exact rng_append (be_rng _ _) ih
theorem shaS_len (b : List Int) : (shaS b).length = 32 := by simp [shaS, bytes8_len, H8.list]
theorem shaS_rng (b : List Int) : ∀ x ∈ shaS b, 0 ≤ x ∧ x ≤ 255 := bytes8_rng _
theorem blocksS_append (m n : Nat) (s : H8) (a b : List Int) (h : a.length = 64 * m) : blocksS (m + n) s (a ++ b) = blocksS n (blocksS m s a) b := by
  induction m generalizing s a with
  | zero =>
    obtain rfl : a = [] := List.eq_nil_of_length_eq_zero (by omega)
    simp [blocksS]
  | succ m ih =>
    rw [show m + 1 + n = (m + n) + 1 by omega, blocksS, blocksS, List.take_append_of_le_length (by omega), List.drop_append_of_le_length (by omega)]
    exact ih _ _ (by simp; omega)
/-- The bytes of a whole part, then the rest with what follows the message. -/
theorem shaS_split (b : List Int) (k : Nat) (hk : k = b.length / 64) : shaS b = bytes8 (blocksS ((b.drop (64 * k) ++ padS b.length).length / 64) (blocksS k initS (b.take (64 * k))) (b.drop (64 * k) ++ padS b.length)).list := by
  have h1 : (b.take (64 * k)).length = 64 * k := by simp; omega
  have h2 : b ++ padS b.length = b.take (64 * k) ++ (b.drop (64 * k) ++ padS b.length) := by rw [← List.append_assoc, List.take_append_drop]
  have h3 : (b.take (64 * k) ++ (b.drop (64 * k) ++ padS b.length)).length / 64 = k + (b.drop (64 * k) ++ padS b.length).length / 64 := by
    rw [List.length_append, h1]; omega
  unfold shaS
  rw [h2, h3, blocksS_append k _ _ _ _ h1]
end Go.Proofs.YtkniifopfgeopaaDoor

namespace Go.Proofs.YtkniifopfgeopaaDoor
open Go.RowKit
set_option linter.unusedVariables false

/-- The block g holds just these words. -/
structure Wd (w : World) (g : Nat) (t : TypeId) (l : List Int) : Prop where
  heap : w.heap[g]? = some (.cells (l.map (Value.int .u32)).toArray t (0, 0))
variable {w : World} {g : Nat} {t : TypeId} {l : List Int}
theorem Wd.lt (h : Wd w g t l) : g < w.heap.size := (Array.getElem?_eq_some_iff.1 h.heap).1
theorem Wd.cell (h : Wd w g t l) (j : Nat) (hj : j < l.length) : w.cell? ⟨g, j, none⟩ = some (.int .u32 (l.getD j 0)) := by
  rw [cell_of_row w g j _ _ _ h.heap]
  simp [List.getD_eq_getElem?_getD, hj]
theorem Wd.fr (h : Wd w g t l) (j : Nat) : w.frozen? ⟨g, j, none⟩ = false := frozen_of_row w g j _ _ h.heap
theorem Wd.set (h : Wd w g t l) (j : Nat) (v : Int) : Wd (w.setCell ⟨g, j, none⟩ (.int .u32 v)) g t (l.set j v) := by
  constructor
  rw [heap_setCell_same w g j _ _ _ h.heap]
  simp [List.map_set]
theorem Wd.other (h : Wd w g t l) (a : Addr) (v : Value) (hn : g ≠ a.block) : Wd (w.setCell a v) g t l := ⟨by rw [Below.heap_setCell w a v g hn]; exact h.heap⟩
theorem Wd.row (h : Wd w g t l) (m : List Int) : Wd (w.setRow g (m.map (Value.int .u32)).toArray) g t m := ⟨setRow_heap w g _ _ _ _ h.heap⟩
theorem Wd.rowOther (h : Wd w g t l) (k : Nat) (cs : Array Value) (hn : g ≠ k) : Wd (w.setRow k cs) g t l := ⟨by rw [setRow_other w k g cs hn]; exact h.heap⟩
theorem Wd.alloc (h : Wd w g t l) (o : Obj) : Wd (w.alloc o) g t l := ⟨by rw [Below.heap_alloc w o g h.lt]; exact h.heap⟩
theorem Wd.drew (h : Wd w g t l) : Wd w.drew g t l := ⟨h.heap⟩
theorem Wd.below {w' : World} (h : Wd w g t l) (hb : Below w.heap.size w w') : Wd w' g t l := ⟨by rw [hb.block g h.lt]; exact h.heap⟩
theorem Wd.new (w : World) (t : TypeId) (l : List Int) (cs : Array Value) (hc : cs = (l.map (Value.int .u32)).toArray) : Wd (w.alloc (.cells cs t)) w.heap.size t l := ⟨by rw [heap_alloc_new]; rw [hc]⟩
theorem cell_set_other (w : World) (g i k : Nat) (z : Value) (h : ¬ i = k) : (w.setCell ⟨g, k, none⟩ z).cell? ⟨g, i, none⟩ = w.cell? ⟨g, i, none⟩ := by
  go_simp
theorem keep_two {w : World} {g i j k : Nat} {z u v : Value} (hu : w.cell? ⟨g, i, none⟩ = some u) (hv : w.cell? ⟨g, j, none⟩ = some v) (hi : ¬ i = k) (hj : ¬ j = k) :
    (w.setCell ⟨g, k, none⟩ z).cell? ⟨g, i, none⟩ = some u ∧ (w.setCell ⟨g, k, none⟩ z).cell? ⟨g, j, none⟩ = some v :=
  ⟨by rw [cell_set_other w g i k z hi]; exact hu, by rw [cell_set_other w g j k z hj]; exact hv⟩
theorem one32 (l : List Int) : ((l.map (Value.int .u32)).toArray).all (·.oneCell') = true := by
  simp [Value.oneCell']
theorem set_fill (l : List Int) (n k : Nat) (v : Int) (hl : l.length = k) (hk : k < n) : (l ++ List.replicate (n - k) 0).set k v = (l ++ [v]) ++ List.replicate (n - (k + 1)) 0 := by
  subst hl
  obtain ⟨m, hm⟩ : ∃ m, n - l.length = m + 1 := ⟨n - l.length - 1, by omega⟩
  rw [List.set_append_right _ _ (Nat.le_refl _), hm, show n - (l.length + 1) = m by omega]
  simp [List.replicate_succ]
theorem Wd.fill {w : World} {g : Nat} {t : TypeId} {L : List Int} {n k : Nat} (h : Wd w g t (L ++ List.replicate (n - k) 0)) (hl : L.length = k) (hk : k < n) {z z' : Int} (e : z' = z) :
    Wd (w.setCell ⟨g, k, none⟩ (.int .u32 z)) g t ((L ++ [z']) ++ List.replicate (n - (k + 1)) 0) := by
  subst e
  have := h.set k z'
  rw [set_fill _ _ _ _ hl hk] at this
  exact this
theorem getD_fill (l m : List Int) (j : Nat) (hj : j < l.length) : (l ++ m).getD j 0 = l.getD j 0 := by
  simp [List.getD_eq_getElem?_getD, List.getElem?_append_left hj]
end Go.Proofs.YtkniifopfgeopaaDoor

namespace Go.Proofs.YtkniifopfgeopaaDoor
open Go.RowKit
set_option linter.unusedVariables false

theorem and31 : ∀ n : Fin 31, bits .and .u64 (IntKind.u64.wrap (-((n.val : Int) + 1))) 31 = 32 - ((n.val : Int) + 1) := by decide +kernel
theorem and31' (k : Int) (h1 : 1 ≤ k) (h2 : k ≤ 31) : bits .and .u64 (IntKind.u64.wrap (-k)) 31 = 32 - k := by
  have := and31 ⟨(k - 1).toNat, by omega⟩
  have e : (((k - 1).toNat : Nat) : Int) + 1 = k := by omega
  simp only [e] at this
  exact this
theorem rotl_any (x k : Int) (h1 : 1 ≤ k) (h2 : k ≤ 31) (w : World) :
    Calls Tryd.prog 97 #[.int .u32 x, .int .i64 (-k)] w fun e w' => e = .returned (.int .u32 (rotr x k)) ∧ w = w' := by
  have h := and31' k h1 h2
  go_enter Tryd.func97, Tryd.ntmps97
  go_wp2
  go_ret
  refine ⟨?_, rfl⟩
  show Ending.returned (.int .u32 _) = _
  rw [or32_comm, show (32 - (32 - k)) = k by omega]
  rfl
theorem right_any (x k : Int) (h1 : 1 ≤ k) (h2 : k ≤ 31) (w : World) :
    Calls Tryd.prog 96 #[.int .u32 x, .int .i64 k] w fun e w' => e = .returned (.int .u32 (rotr x k)) ∧ w = w' := by
  go_enter Tryd.func96, Tryd.ntmps96
  go_wp2_with (go_at_call 97; (with_reducible refine (rotl_any _ _ h1 h2 _).mono ?_); rintro e w' ⟨rfl, rfl⟩)
  go_ret
  exact ⟨rfl, rfl⟩
theorem turned_any (x a b c : Int) (ha : 1 ≤ a ∧ a ≤ 31) (hb : 1 ≤ b ∧ b ≤ 31) (hc : 1 ≤ c ∧ c ≤ 31) (w : World) :
    Calls Tryd.prog 94 #[.int .u32 x, .int .i64 a, .int .i64 b, .int .i64 c] w fun e w' => e = .returned (.int .u32 (sig x a b c)) ∧ w = w' := by
  go_enter Tryd.func94, Tryd.ntmps94
  go_wp2_with (first
    | (go_at_call 96; (with_reducible refine (right_any _ a ha.1 ha.2 _).mono ?_); rintro e w' ⟨rfl, rfl⟩)
    | (go_at_call 96; (with_reducible refine (right_any _ b hb.1 hb.2 _).mono ?_); rintro e w' ⟨rfl, rfl⟩)
    | (go_at_call 96; (with_reducible refine (right_any _ c hc.1 hc.2 _).mono ?_); rintro e w' ⟨rfl, rfl⟩))
  go_ret
  exact ⟨rfl, rfl⟩
theorem turn_any (x k : Int) (h1 : 1 ≤ k) (h2 : k ≤ 31) (w : World) :
    Calls Tryd.prog 90 #[.int .u32 x, .int .u64 k] w fun e w' => e = .returned (.int .u32 (rotr x k)) ∧ w = w' := by
  go_enter Tryd.func90, Tryd.ntmps90
  go_wp2
  go_ret
  exact ⟨rfl, rfl⟩
end Go.Proofs.YtkniifopfgeopaaDoor
