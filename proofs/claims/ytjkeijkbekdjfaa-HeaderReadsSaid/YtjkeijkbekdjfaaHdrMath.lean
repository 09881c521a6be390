/-
  Plain mathematics, no program: what is read of the bytes of a header.
-/
import Derived.Test.YtjkeijkbekdjfaaAwake02
namespace Go.Proofs.Ytjkeijkbekdjfaa
open Go.RowKit
set_option linter.unusedVariables false

/-- A message: a header with its version byte and its flag byte, and what follows. -/
def msg (i r n z x g m len : Int) (zs : List Int) : List Int := be 8 i ++ (be 8 r ++ ([n, z, x, g] ++ (be 4 m ++ (be 4 len ++ zs))))

theorem numAt_at (u v w : List Int) (a d : Nat) (ha : u.length = a) (hd : v.length = d) : numAt (u ++ (v ++ w)) a d = val v := by
  subst ha hd
  rw [numAt, List.drop_left, List.take_left]
theorem msg_len (i r n z x g m len : Int) (zs : List Int) : (msg i r n z x g m len zs).length = 28 + zs.length := by
  simp [msg, be_len]
  omega
theorem be_val8 (v : Int) (h : 0 ≤ v ∧ v ≤ 18446744073709551615) : val (be 8 v) = v := by
  have e : (2 : Int) ^ (8 * 8) = 18446744073709551616 := by decide
  rw [val_be, e]
  omega
theorem be_val4 (v : Int) (h : 0 ≤ v ∧ v ≤ 4294967295) : val (be 4 v) = v := by
  have e : (2 : Int) ^ (8 * 4) = 4294967296 := by decide
  rw [val_be, e]
  omega
theorem val_one (v : Int) : val [v] = v := by simp [val]
theorem msg_0 (i r n z x g m len : Int) (zs : List Int) (h : 0 ≤ i ∧ i ≤ 18446744073709551615) : numAt (msg i r n z x g m len zs) 0 8 = i :=
  (numAt_at [] (be 8 i) _ 0 8 rfl (be_len _ _)).trans (be_val8 i h)
theorem msg_8 (i r n z x g m len : Int) (zs : List Int) (h : 0 ≤ r ∧ r ≤ 18446744073709551615) : numAt (msg i r n z x g m len zs) 8 8 = r :=
  (numAt_at (be 8 i) (be 8 r) _ 8 8 (be_len _ _) (be_len _ _)).trans (be_val8 r h)
theorem msg_split (i r n z x g m len : Int) (zs u v : List Int) (h : [n, z, x, g] ++ (be 4 m ++ (be 4 len ++ zs)) = u ++ v) : msg i r n z x g m len zs = (be 8 i ++ (be 8 r ++ u)) ++ v := by
  rw [msg, h]
  simp
theorem pre_len (i r : Int) (u : List Int) (a : Nat) (h : 16 + u.length = a) : (be 8 i ++ (be 8 r ++ u)).length = a := by
  simp only [List.length_append, be_len]
  omega
theorem msg_16 (i r n z x g m len : Int) (zs : List Int) : numAt (msg i r n z x g m len zs) 16 1 = n := by
  rw [msg_split i r n z x g m len zs [] ([n] ++ ([z, x, g] ++ (be 4 m ++ (be 4 len ++ zs)))) rfl]
  exact (numAt_at _ [n] _ 16 1 (pre_len _ _ _ _ rfl) rfl).trans (val_one n)
theorem msg_17 (i r n z x g m len : Int) (zs : List Int) : numAt (msg i r n z x g m len zs) 17 1 = z := by
  rw [msg_split i r n z x g m len zs [n] ([z] ++ ([x, g] ++ (be 4 m ++ (be 4 len ++ zs)))) rfl]
  exact (numAt_at _ [z] _ 17 1 (pre_len _ _ _ _ rfl) rfl).trans (val_one z)
theorem msg_18 (i r n z x g m len : Int) (zs : List Int) : numAt (msg i r n z x g m len zs) 18 1 = x := by
  rw [msg_split i r n z x g m len zs [n, z] ([x] ++ ([g] ++ (be 4 m ++ (be 4 len ++ zs)))) rfl]
  exact (numAt_at _ [x] _ 18 1 (pre_len _ _ _ _ rfl) rfl).trans (val_one x)
theorem msg_19 (i r n z x g m len : Int) (zs : List Int) : numAt (msg i r n z x g m len zs) 19 1 = g := by
  rw [msg_split i r n z x g m len zs [n, z, x] ([g] ++ (be 4 m ++ (be 4 len ++ zs))) rfl]
  exact (numAt_at _ [g] _ 19 1 (pre_len _ _ _ _ rfl) rfl).trans (val_one g)
theorem msg_20 (i r n z x g m len : Int) (zs : List Int) (h : 0 ≤ m ∧ m ≤ 4294967295) : numAt (msg i r n z x g m len zs) 20 4 = m := by
  rw [msg_split i r n z x g m len zs [n, z, x, g] (be 4 m ++ (be 4 len ++ zs)) rfl]
  exact (numAt_at _ (be 4 m) _ 20 4 (pre_len _ _ _ _ rfl) (be_len _ _)).trans (be_val4 m h)
theorem msg_24 (i r n z x g m len : Int) (zs : List Int) (h : 0 ≤ len ∧ len ≤ 4294967295) : numAt (msg i r n z x g m len zs) 24 4 = len := by
  rw [msg_split i r n z x g m len zs ([n, z, x, g] ++ be 4 m) (be 4 len ++ zs) (by simp)]
  exact (numAt_at _ (be 4 len) _ 24 4 (pre_len _ _ _ _ (by simp [be_len])) (be_len _ _)).trans (be_val4 len h)

/-- A whole message is read. -/
theorem msg_read (i r n z x g f m len : Int) (zs : List Int) (hi : 0 ≤ i ∧ i ≤ 18446744073709551615) (hr : 0 ≤ r ∧ r ≤ 18446744073709551615) (hm : 0 ≤ m ∧ m ≤ 4294967295) (hl : 0 ≤ len ∧ len ≤ 4294967295)
    (hz : z / 16 = 2) (hg : bits .and .i64 g 56 = f) (hc : checkR i r n x f m = 0) (hlen : len = 28 + zs.length) : parseR (msg i r n z x g m len zs) = (⟨i, r, n, x, f, m⟩, 0) := by
  rw [parseR, if_neg (by rw [msg_len]; omega), msg_0 _ _ _ _ _ _ _ _ _ hi, msg_8 _ _ _ _ _ _ _ _ _ hr, msg_16, msg_17, msg_18, msg_19, msg_20 _ _ _ _ _ _ _ _ _ hm, msg_24 _ _ _ _ _ _ _ _ _ hl, msg_len,
    parseV, if_neg (by omega), if_neg (by omega), hg, if_neg (by rw [hc]; simp)]
/-- A message of another length than its header says is refused. -/
theorem msg_refused (i r n z x g m len : Int) (zs : List Int) (hl : 0 ≤ len ∧ len ≤ 4294967295) (hz : z / 16 = 2) (hlen : len ≠ 28 + zs.length) : parseR (msg i r n z x g m len zs) = (Hdr.zero, 2) := by
  rw [parseR, if_neg (by rw [msg_len]; omega), msg_17, msg_24 _ _ _ _ _ _ _ _ _ hl, msg_len, parseV, if_neg (by omega), if_pos (by omega)]
theorem short_read (xs : List Int) (h : xs.length < 28) : parseR xs = (Hdr.zero, 1) := by rw [parseR, if_pos h]

theorem hdr_msg (i r n x f m len : Int) (zs : List Int) : hdrL i r n x f m len ++ zs = msg i r (n % 256) 32 (x % 256) (f % 256) m len zs := by
  simp [hdrL, msg]

theorem Good.check {i r n x f m : Int} (h : Good i r n x f m) : checkR i r n x f m = 0 := by
  have hn := h.gn
  subst hn
  have hf : (bits BinOp.andNot IntKind.i64 f 56 == 0) = true := by rcases h.gf with rfl | rfl | rfl | rfl <;> decide
  have hr : rangeR 0 x f = true := by
    rw [rangeR, hf]
    simp
    exact h.gx
  have h1 := h.gi
  have h2 := h.later
  have h3 := h.first
  rw [checkR, if_neg (by omega), if_neg (by rw [hr]; simp), if_neg (by omega), if_neg (by omega)]
theorem Good.built {i r n x f m : Int} (h : Good i r n x f m) (len : Int) (hl : 28 ≤ len ∧ len ≤ 8192) : buildR i r n x f m len = (hdrL i r n x f m len, 0) := by
  rw [buildR, if_neg (by rw [h.check]; simp), if_neg (by omega)]
theorem Good.bytes {i r n x f m : Int} (h : Good i r n x f m) (len : Int) (zs : List Int) : hdrL i r n x f m len ++ zs = msg i r n 32 x f m len zs := by
  have h1 := h.gn
  have h2 := h.gx
  have h3 := h.gf
  rw [hdr_msg, show n % 256 = n by omega, show x % 256 = x by omega, show f % 256 = f by omega]

/-- The bits of the version byte that do not count. -/
theorem minor_any (k : Int) (h : 0 ≤ k ∧ k ≤ 255) : bits .or .u8 32 (k % 16) / 16 = 2 := by
  obtain ⟨k, rfl⟩ := Int.eq_ofNat_of_zero_le h.1
  have : ∀ j : Fin 256, bits .or .u8 32 (((j.val : Nat) : Int) % 16) / 16 = 2 := by decide +kernel
  exact this ⟨k, by omega⟩
/-- The flags that do not count. -/
theorem flags_any (f k : Int) (hf : f = 8 ∨ f = 32 ∨ f = 40 ∨ f = 0) (h : 0 ≤ k ∧ k ≤ 255) : bits .and .i64 (bits .or .u8 f (bits .andNot .u8 k 56)) 56 = f := by
  obtain ⟨k, rfl⟩ := Int.eq_ofNat_of_zero_le h.1
  have h0 : ∀ j : Fin 256, bits .and .i64 (bits .or .u8 8 (bits .andNot .u8 ((j.val : Nat) : Int) 56)) 56 = 8 := by decide +kernel
  have h1 : ∀ j : Fin 256, bits .and .i64 (bits .or .u8 32 (bits .andNot .u8 ((j.val : Nat) : Int) 56)) 56 = 32 := by decide +kernel
  have h2 : ∀ j : Fin 256, bits .and .i64 (bits .or .u8 40 (bits .andNot .u8 ((j.val : Nat) : Int) 56)) 56 = 40 := by decide +kernel
  have h3 : ∀ j : Fin 256, bits .and .i64 (bits .or .u8 0 (bits .andNot .u8 ((j.val : Nat) : Int) 56)) 56 = 0 := by decide +kernel
  rcases hf with rfl | rfl | rfl | rfl
  · exact h0 ⟨k, by omega⟩
  · exact h1 ⟨k, by omega⟩
  · exact h2 ⟨k, by omega⟩
  · exact h3 ⟨k, by omega⟩
theorem flags_same (f : Int) (hf : f = 8 ∨ f = 32 ∨ f = 40 ∨ f = 0) : bits .and .i64 f 56 = f := by
  rcases hf with rfl | rfl | rfl | rfl <;> decide

theorem msg_set17 (i r n z x g m len y : Int) (zs : List Int) : (msg i r n z x g m len zs).set 17 y = msg i r n y x g m len zs := by
  rw [msg_split i r n z x g m len zs [n] (z :: ([x, g] ++ (be 4 m ++ (be 4 len ++ zs)))) rfl, msg_split i r n y x g m len zs [n] (y :: ([x, g] ++ (be 4 m ++ (be 4 len ++ zs)))) rfl,
    List.set_append_right _ _ (by simp [be_len])]
  simp [be_len]
theorem msg_set19 (i r n z x g m len y : Int) (zs : List Int) : (msg i r n z x g m len zs).set 19 y = msg i r n z x y m len zs := by
  rw [msg_split i r n z x g m len zs [n, z, x] (g :: (be 4 m ++ (be 4 len ++ zs))) rfl, msg_split i r n z x y m len zs [n, z, x] (y :: (be 4 m ++ (be 4 len ++ zs))) rfl,
    List.set_append_right _ _ (by simp [be_len])]
  simp [be_len]
end Go.Proofs.Ytjkeijkbekdjfaa
