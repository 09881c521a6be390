/-
  The keyed hash of the document, as functions on lists of numbers.
  A block of bytes of the call's own; copying a shorter slice into one; an element of an array of bytes.
  Numbers: powers modulo a number, Fermat's little theorem, and that the modulus of the small group and its order are primes.
-/
import Derived.Test.YtgpigjoonhghhaaDoorQAShaMath
import Derived.Test.YtgpigjoonhghhaaDoorQAShaWd
import Derived.Test.YtgpigjoonhghhaaDoorQAInfoB
import Derived.Test.YtgpigjoonhghhaaDoorQAOwnB
import Derived.Test.YtgpigjoonhghhaaDoorQABytes
import Derived.Laws.CopyOwn
namespace Go.Proofs.YtgpigjoonhghhaaDoor
open Go.RowKit
set_option linter.unusedVariables false
theorem xor8_rng (a b : Int) : 0 ≤ bits .xor .u8 a b ∧ bits .xor .u8 a b ≤ 255 := by
  show 0 ≤ IntKind.u8.wrap _ ∧ IntKind.u8.wrap _ ≤ _
  rw [IntKind.wrap_u8]; omega
def keyS (key : List Int) : List Int := if 64 < key.length then shaS key else key
theorem keyS_len (key : List Int) : (keyS key).length ≤ 64 := by
  unfold keyS
  split
  · rw [shaS_len]; omega
  · omega
def padK (key : List Int) : List Int := keyS key ++ List.replicate (64 - (keyS key).length) 0
theorem padK_len (key : List Int) : (padK key).length = 64 := by
  have := keyS_len key
  simp [padK]; omega
def maskL (m : Int) (l : List Int) : List Int := l.map (fun x => bits .xor .u8 x m)
theorem maskL_len (m : Int) (l : List Int) : (maskL m l).length = l.length := by simp [maskL]
theorem maskL_rng (m : Int) (l : List Int) : ∀ x ∈ maskL m l, 0 ≤ x ∧ x ≤ 255 := by
  intro x hx
  obtain ⟨y, _, rfl⟩ := List.mem_map.1 hx
  exact xor8_rng _ _
theorem maskL_take (m : Int) (l : List Int) (j : Nat) (hj : j < l.length) : maskL m (l.take (j + 1)) = maskL m (l.take j) ++ [bits .xor .u8 (l.getD j 0) m] := by
  rw [List.take_succ_eq_append_getElem hj, maskL, maskL, List.map_append]
  simp [List.getD_eq_getElem?_getD, hj]
def maskS (m : Int) (key : List Int) : List Int := maskL m (padK key)
def hmacS (key b : List Int) : List Int := shaS (maskS 92 key ++ shaS (maskS 54 key ++ b))
theorem hmacS_len (key b : List Int) : (hmacS key b).length = 32 := shaS_len _
theorem hmacS_rng (key b : List Int) : ∀ x ∈ hmacS key b, 0 ≤ x ∧ x ≤ 255 := shaS_rng _
def plusT (key seed : List Int) : Nat → List Int
  | 0 => []
  | i + 1 => hmacS key (plusT key seed i ++ (seed ++ [((i + 1 : Nat) : Int) % 256]))
def plusO (key seed : List Int) : Nat → List Int
  | 0 => []
  | i + 1 => plusO key seed i ++ plusT key seed (i + 1)
theorem plusT_len (key seed : List Int) (i : Nat) : (plusT key seed (i + 1)).length = 32 := hmacS_len _ _
theorem plusT_le (key seed : List Int) (i : Nat) : (plusT key seed i).length ≤ 32 := by
  cases i with
  | zero => simp [plusT]
  | succ i => rw [plusT_len]; exact Nat.le_refl _
theorem plusT_rng (key seed : List Int) (i : Nat) : ∀ x ∈ plusT key seed i, 0 ≤ x ∧ x ≤ 255 := by
  cases i with
  | zero => intro x hx; cases hx
  | succ i => exact hmacS_rng _ _
theorem plusO_len (key seed : List Int) (i : Nat) : (plusO key seed i).length = 32 * i := by
  induction i with
  | zero => rfl
  | succ i ih => rw [plusO, List.length_append, ih, plusT_len]; omega
theorem plusO_rng (key seed : List Int) (i : Nat) : ∀ x ∈ plusO key seed i, 0 ≤ x ∧ x ≤ 255 := by
  induction i with
  | zero => intro x hx; cases hx
  | succ i ih => exact rng_append ih (plusT_rng _ _ _)
theorem plusO_take (key seed : List Int) (i d n : Nat) (h : n ≤ 32 * i) : (plusO key seed (i + d)).take n = (plusO key seed i).take n := by
  induction d with
  | zero => rfl
  | succ d ih => rw [← Nat.add_assoc, plusO, List.take_append_of_le_length (by rw [plusO_len]; omega), ih]
def plusS (key seed : List Int) (n : Nat) : List Int := (plusO key seed ((n + 31) / 32)).take n
theorem plusS_of (key seed : List Int) (i n : Nat) (h : n ≤ 32 * i) : (plusO key seed i).take n = plusS key seed n := by
  unfold plusS
  obtain ⟨d, hd⟩ : ∃ d, i = (n + 31) / 32 + d := ⟨i - (n + 31) / 32, by omega⟩
  rw [hd]
  exact plusO_take _ _ _ _ _ (by omega)
theorem plusS_len (key seed : List Int) (n : Nat) : (plusS key seed n).length = n := by
  rw [plusS, List.length_take, plusO_len]; omega
def splitS (b : List Int) : List Int → Option (List (List Int))
  | [] => some []
  | n :: l => if 0 ≤ n ∧ n ≤ b.length then (splitS (b.drop n.toNat) l).map (b.take n.toNat :: ·) else none
theorem splitS_step (b : List Int) (sizes : List Int) (j at_ : Nat) (L : List (List Int)) (R : Option (List (List Int))) (hj : j < sizes.length) (hat : at_ ≤ b.length)
    (h : R = (splitS (b.drop at_) (sizes.drop j)).map (L ++ ·)) (h0 : 0 ≤ sizes.getD j 0) (h1 : at_ + (sizes.getD j 0).toNat ≤ b.length) :
    R = (splitS (b.drop (at_ + (sizes.getD j 0).toNat)) (sizes.drop (j + 1))).map ((L ++ [(b.drop at_).take (sizes.getD j 0).toNat]) ++ ·) := by
  rw [List.drop_eq_getElem_cons hj] at h
  have e : sizes[j] = sizes.getD j 0 := by simp [List.getD_eq_getElem?_getD, hj]
  rw [e] at h
  generalize sizes.getD j 0 = z at h h0 h1 ⊢
  rw [splitS, if_pos (by rw [List.length_drop]; omega), List.drop_drop, Option.map_map] at h
  rw [h]
  congr 1
  funext x
  simp
theorem splitS_fail (b : List Int) (sizes : List Int) (j at_ : Nat) (L : List (List Int)) (R : Option (List (List Int))) (hj : j < sizes.length) (hat : at_ ≤ b.length)
    (h : R = (splitS (b.drop at_) (sizes.drop j)).map (L ++ ·)) (h0 : ¬ (0 ≤ sizes.getD j 0 ∧ (at_ : Int) + sizes.getD j 0 ≤ b.length)) : R = none := by
  rw [List.drop_eq_getElem_cons hj] at h
  have e : sizes[j] = sizes.getD j 0 := by simp [List.getD_eq_getElem?_getD, hj]
  rw [e] at h
  generalize sizes.getD j 0 = z at h h0
  rw [splitS, if_neg (by rw [List.length_drop]; omega)] at h
  rw [h]
  rfl
theorem splitS_end (b : List Int) (sizes : List Int) (j at_ : Nat) (L : List (List Int)) (R : Option (List (List Int))) (hj : sizes.length ≤ j)
    (h : R = (splitS (b.drop at_) (sizes.drop j)).map (L ++ ·)) : R = some L := by
  rw [List.drop_eq_nil_of_le hj, splitS] at h
  simpa using h
end Go.Proofs.YtgpigjoonhghhaaDoor

namespace Go.Proofs.YtgpigjoonhghhaaDoor
open Go.RowKit
set_option linter.unusedVariables false
structure Wb (w : World) (g : Nat) (t : TypeId) (l : List Int) : Prop where
  heap : w.heap[g]? = some (.cells (l.map (Value.int .u8)).toArray t (0, 0))
section
variable {w : World} {g : Nat} {t : TypeId} {l : List Int}
theorem Wb.lt (h : Wb w g t l) : g < w.heap.size := (Array.getElem?_eq_some_iff.1 h.heap).1
theorem Wb.cell (h : Wb w g t l) (j : Nat) (hj : j < l.length) : w.cell? ⟨g, j, none⟩ = some (.int .u8 (l.getD j 0)) := by
  rw [cell_of_row w g j _ _ _ h.heap]
  simp [List.getD_eq_getElem?_getD, hj]
theorem Wb.fr (h : Wb w g t l) (j : Nat) : w.frozen? ⟨g, j, none⟩ = false := frozen_of_row w g j _ _ h.heap
theorem Wb.alloc (h : Wb w g t l) (o : Obj) : Wb (w.alloc o) g t l := ⟨by rw [Below.heap_alloc w o g h.lt]; exact h.heap⟩
theorem Wb.drew (h : Wb w g t l) : Wb w.drew g t l := ⟨h.heap⟩
theorem Wb.below {w' : World} (h : Wb w g t l) (hb : Below w.heap.size w w') : Wb w' g t l := ⟨by rw [hb.block g h.lt]; exact h.heap⟩
theorem Wb.row (h : Wb w g t l) (m : List Int) : Wb (w.setRow g (m.map (Value.int .u8)).toArray) g t m := ⟨setRow_heap w g _ _ _ _ h.heap⟩
theorem Wb.new (w : World) (t : TypeId) (l : List Int) (cs : Array Value) (hc : cs = (l.map (Value.int .u8)).toArray) : Wb (w.alloc (.cells cs t)) w.heap.size t l := ⟨by rw [heap_alloc_new]; rw [hc]⟩
theorem one8 (l : List Int) : ((l.map (Value.int .u8)).toArray).all (·.oneCell') = true := by
  simp [Value.oneCell']
theorem Wb.byt (h : Wb w g t l) (n : Nat) (hn : l.length = n) (hb : n ≤ maxLen) (hr : ∀ x ∈ l, 0 ≤ x ∧ x ≤ 255) : Byt w (some ⟨g, 0, none⟩) n n l :=
  ⟨hn, Nat.le_refl _, hb, hr, fun _ => ⟨g, 0, rfl, fun i hi => by rw [Nat.zero_add]; exact h.cell i hi⟩⟩
end
theorem run_index8 {P : Program} {t e : TypeId} {n : Nat} (ht : P.underlying t = some (.array n e)) (he : P.underlying e = some (.int .u8)) {i : TypeInfo} (hi : P.info? e = some i) (hs : i.size = 1) (l : List Int) (hl : l.length = n) (j : Nat) (hj : j < n) (w : World) :
    (Instr.index t (.agg (l.map (Value.int .u8)).toArray) (.int .i64 j)).run P w = .ok (.int .u8 (l.getD j 0)) w := by
  subst hl
  have h1 : (0 : Int) ≤ (j : Int) ∧ (j : Int) < (l.length : Int) := by omega
  have h2 : (Option.map (Value.int IntKind.u8) l[j]?) = some (.int .u8 (l.getD j 0)) := by
    simp [List.getD_eq_getElem?_getD, hj]
  unfold Instr.index
  simp [asIntOf, run_underlying ht, run_underlying he, part, isAgg, sizeOf, typeInfo, hi, hs, h2, Result.andThen]
  intro h
  omega
theorem wpList_copy_row {P : Program} {w : World} {ops : Array Oper} {rest : List Oper} {o : Oper} {a : Act} {Q : Exit → Act → World → Prop} (hgd : o.guard = none) (d s : Operand) (dT sT : TypeId)
    (ho : o.op = .call { callee := .builtin .copy, args := #[d, s], argTypes := #[dT, sT] }) (elem : TypeId) (hu : P.underlying dT = some (.slice elem)) (hsz : (P.info? elem).map (·.size) = some 1)
    (g n m : Nat) (hd : a.eval d = .slice (some ⟨g, 0, none⟩) n m) (zs : List Int) (t : TypeId) (hg : w.heap[g]? = some (.cells (zs.map (Value.int .u8)).toArray t (0, 0))) (hzn : n ≤ zs.length)
    (p : Option Addr) (k c : Nat) (ys : List Int) (hs : a.eval s = .slice p k c) (hy : Byt w p k c ys) (hk : k ≤ n)
    (R : List Int) (hR : ys ++ zs.drop k = R) (h : ∀ w', Hid (Wb w' g t R) → Hid (w.grownBy w' (some g)) → wpList P ops Q rest (a.put o.dst (goInt k)) w') : wpList P ops Q (o :: rest) a w := by
  subst hR
  have hlen := hy.len
  rcases Nat.eq_zero_or_pos k with h0 | h0
  · subst h0
    obtain rfl : ys = [] := List.eq_nil_of_length_eq_zero hlen
    refine wpList_copy_nothing hgd d s dT sT ho elem hu hsz _ _ _ _ _ _ hd hs (by simp) ?_
    exact h w ⟨by simpa using hg⟩ (World.grownBy.refl w _)
  · obtain ⟨b, off, rfl, hc⟩ := hy.at_ h0
    refine wpList_copy_own hgd d s dT sT ho elem hu hsz g 0 _ _ _ _ _ hd hs _ t hg (ys.map (Value.int .u8)) (by simp [hlen]; exact (Nat.min_eq_left hk).symm) (fun j u hj => hy.src j u hj) (by simp [hlen]; omega) (u8_one ys) ?_
    have := h (w.setRow g ((zs.map (Value.int .u8)).toArray.toList.take 0 ++ (ys.map (Value.int .u8) ++ (zs.map (Value.int .u8)).toArray.toList.drop (0 + (ys.map (Value.int .u8)).length))).toArray)
      ⟨by rw [setRow_heap w g _ _ t _ hg]; simp [hlen, List.map_drop]⟩
      ⟨rfl, rfl, rfl, by simp, fun k hk hne => setRow_other w g k _ (fun e => hne (by rw [e]))⟩
    simpa [hlen] using this
end Go.Proofs.YtgpigjoonhghhaaDoor

namespace Go.Proofs.YtgpigjoonhghhaaDoor
set_option linter.unusedVariables false
def IsP (n : Nat) : Prop := 2 ≤ n ∧ ∀ d, d ∣ n → d = 1 ∨ d = n
theorem dvd_of_mods {a b m : Nat} (h : b ≤ a) (e : a % m = b % m) : m ∣ a - b := Nat.dvd_of_mod_eq_zero (Nat.sub_mod_eq_zero_of_mod_eq e)
theorem mods_of_dvd {a b m : Nat} (h : b ≤ a) (e : m ∣ a - b) : a % m = b % m := by
  obtain ⟨c, hc⟩ := e
  obtain rfl : a = b + m * c := by omega
  rw [Nat.add_mul_mod_self_left]
theorem dvd_pow' {r a n : Nat} (h : r ∣ a) (hn : 0 < n) : r ∣ a ^ n := by
  obtain ⟨k, rfl⟩ : ∃ k, n = k + 1 := ⟨n - 1, by omega⟩
  rw [Nat.pow_succ]
  exact Nat.dvd_trans h (Nat.dvd_mul_left _ _)
theorem IsP.cop {r a : Nat} (h : IsP r) (ha : ¬ r ∣ a) : Nat.Coprime r a := by
  rcases h.2 _ (Nat.gcd_dvd_left r a) with h1 | h1
  · exact h1
  · exact absurd (h1 ▸ Nat.gcd_dvd_right r a) ha
theorem IsP.mul {r a b : Nat} (h : IsP r) (hd : r ∣ a * b) : r ∣ a ∨ r ∣ b := by
  by_cases ha : r ∣ a
  · exact Or.inl ha
  · exact Or.inr ((h.cop ha).dvd_of_dvd_mul_left hd)
theorem has_prime (n : Nat) : 2 ≤ n → ∃ r, IsP r ∧ r ∣ n := by
  induction n using Nat.strongRecOn with
  | ind n ih =>
    intro hn
    by_cases h : ∀ d, d ∣ n → d = 1 ∨ d = n
    · exact ⟨n, ⟨hn, h⟩, Nat.dvd_refl n⟩
    · have ⟨d, hd⟩ := Classical.not_forall.mp h
      have ⟨hd1, hd2⟩ := Classical.not_imp.mp hd
      have hne1 : d ≠ 1 := fun e => hd2 (Or.inl e)
      have hnen : d ≠ n := fun e => hd2 (Or.inr e)
      have hle := Nat.le_of_dvd (by omega) hd1
      have h0 : d ≠ 0 := by
        rintro rfl
        have := Nat.zero_dvd.mp hd1
        omega
      obtain ⟨r, hr, hrd⟩ := ih d (by omega) (by omega)
      exact ⟨r, hr, Nat.dvd_trans hrd hd1⟩
def choose : Nat → Nat → Nat
  | _, 0 => 1
  | 0, _ + 1 => 0
  | n + 1, k + 1 => choose n k + choose n (k + 1)
theorem choose_zero (n : Nat) : choose n 0 = 1 := by cases n <;> rfl
theorem choose_big : ∀ (n k : Nat), n < k → choose n k = 0 := by
  intro n
  induction n with
  | zero => intro k hk; cases k with | zero => omega | succ k => rfl
  | succ n ih =>
    intro k hk
    cases k with
    | zero => omega
    | succ k => show choose n k + choose n (k + 1) = 0; rw [ih k (by omega), ih (k + 1) (by omega)]
theorem choose_mul : ∀ (n k : Nat), (k + 1) * choose (n + 1) (k + 1) = (n + 1) * choose n k := by
  intro n
  induction n with
  | zero =>
    intro k
    cases k with
    | zero => rfl
    | succ k => show (k + 2) * (0 + 0) = 1 * 0; omega
  | succ n ih =>
    intro k
    cases k with
    | zero =>
      show (0 + 1) * (choose (n + 1) 0 + choose (n + 1) 1) = (n + 1 + 1) * choose (n + 1) 0
      have h := ih 0
      simp [choose_zero] at h ⊢
      omega
    | succ k =>
      show (k + 1 + 1) * (choose (n + 1) (k + 1) + choose (n + 1) (k + 2)) = (n + 1 + 1) * choose (n + 1) (k + 1)
      have h1 := ih k
      have h2 := ih (k + 1)
      have h3 : choose (n + 1) (k + 1) = choose n k + choose n (k + 1) := rfl
      have e1 : (k + 1 + 1) * choose (n + 1) (k + 1) = (k + 1) * choose (n + 1) (k + 1) + choose (n + 1) (k + 1) := by rw [Nat.succ_mul]
      have e2 : (n + 1 + 1) * choose (n + 1) (k + 1) = (n + 1) * choose (n + 1) (k + 1) + choose (n + 1) (k + 1) := by rw [Nat.succ_mul]
      have e3 : (n + 1) * choose (n + 1) (k + 1) = (n + 1) * choose n k + (n + 1) * choose n (k + 1) := by rw [h3, Nat.mul_add]
      rw [Nat.mul_add, h2, e1, h1, e2, e3]
      omega
def row (n a : Nat) : Nat → Nat
  | 0 => 0
  | m + 1 => row n a m + choose n m * a ^ m
theorem row_succ (n a m : Nat) : row (n + 1) a (m + 1) = row n a (m + 1) + a * row n a m := by
  induction m with
  | zero => simp [row, choose_zero]
  | succ m ih =>
    show row (n + 1) a (m + 1) + choose (n + 1) (m + 1) * a ^ (m + 1) = row n a (m + 1) + choose n (m + 1) * a ^ (m + 1) + a * (row n a m + choose n m * a ^ m)
    rw [ih]
    show row n a (m + 1) + a * row n a m + (choose n m + choose n (m + 1)) * a ^ (m + 1) = _
    rw [Nat.add_mul, Nat.mul_add, Nat.pow_succ]
    have : a * (choose n m * a ^ m) = choose n m * (a ^ m * a) := by rw [Nat.mul_left_comm, Nat.mul_comm a]
    rw [this]
    omega
theorem row_pow (a n : Nat) : (a + 1) ^ n = row n a (n + 1) := by
  induction n with
  | zero => simp [row, choose]
  | succ n ih =>
    rw [row_succ, Nat.pow_succ, ih]
    show row n a (n + 1) * (a + 1) = row n a (n + 1) + choose n (n + 1) * a ^ (n + 1) + a * row n a (n + 1)
    rw [choose_big n (n + 1) (by omega), Nat.mul_add, Nat.mul_comm a]
    omega
theorem choose_dvd {r : Nat} (h : IsP r) (k : Nat) (hk : k + 1 < r) : r ∣ choose r (k + 1) := by
  obtain ⟨n, rfl⟩ : ∃ n, r = n + 1 := ⟨r - 1, by have := h.1; omega⟩
  have h1 : (n + 1) ∣ (k + 1) * choose (n + 1) (k + 1) := by rw [choose_mul]; exact Nat.dvd_mul_right _ _
  rcases h.mul h1 with h2 | h2
  · exact absurd (Nat.le_of_dvd (by omega) h2) (by omega)
  · exact h2
theorem row_mod {r : Nat} (h : IsP r) (a : Nat) : ∀ m, m + 1 ≤ r → row r a (m + 1) % r = 1 := by
  intro m
  induction m with
  | zero =>
    intro _
    have := h.1
    simp [row, choose_zero]
    exact Nat.mod_eq_of_lt (by omega)
  | succ m ih =>
    intro hm
    show (row r a (m + 1) + choose r (m + 1) * a ^ (m + 1)) % r = 1
    obtain ⟨c, hc⟩ := choose_dvd h m (by omega)
    rw [hc, Nat.mul_assoc, Nat.add_mul_mod_self_left]
    exact ih (by omega)
theorem fermat_self {r : Nat} (h : IsP r) (a : Nat) : a ^ r % r = a % r := by
  have h2 := h.1
  induction a with
  | zero => rw [Nat.zero_pow (by omega)]
  | succ a ih =>
    rw [row_pow]
    show (row r a r + choose r r * a ^ r) % r = (a + 1) % r
    have hc : choose r r = 1 := by
      have key : ∀ n, choose n n = 1 := by
        intro n
        induction n with
        | zero => rfl
        | succ n ih => show choose n n + choose n (n + 1) = 1; rw [ih, choose_big n (n + 1) (by omega)]
      exact key r
    have hr := row_mod h a (r - 1) (by omega)
    rw [show r - 1 + 1 = r by omega] at hr
    rw [hc, Nat.one_mul, Nat.add_mod, hr, ih, Nat.add_comm a 1, Nat.add_mod 1 a, Nat.mod_eq_of_lt (show 1 < r by omega)]
theorem fermat {r : Nat} (h : IsP r) (a : Nat) (ha : ¬ r ∣ a) : a ^ (r - 1) % r = 1 := by
  have h2 := h.1
  have h1 := fermat_self h a
  obtain ⟨n, rfl⟩ : ∃ n, r = n + 1 := ⟨r - 1, by omega⟩
  rw [Nat.add_sub_cancel]
  have hpos : 0 < a := by
    rcases Nat.eq_zero_or_pos a with rfl | h
    · exact absurd (Nat.dvd_zero _) ha
    · exact h
  have hge : 1 ≤ a ^ n := Nat.one_le_pow n a hpos
  have hd : (n + 1) ∣ (a ^ n - 1) * a := by
    rw [Nat.sub_mul, ← Nat.pow_succ, Nat.one_mul]
    exact dvd_of_mods (by rw [Nat.pow_succ]; exact Nat.le_mul_of_pos_left _ hge) h1
  rcases h.mul hd with h3 | h3
  · rw [mods_of_dvd hge h3, Nat.mod_eq_of_lt (by omega)]
  · exact absurd h3 ha
theorem pow_gcd (r b m n : Nat) (hm : b ^ m % r = 1 % r) (hn : b ^ n % r = 1 % r) : b ^ Nat.gcd m n % r = 1 % r := by
  induction m, n using Nat.gcd.induction with
  | H0 n => rw [Nat.gcd_zero_left]; exact hn
  | H1 m n hpos ih =>
    rw [Nat.gcd_rec]
    refine ih ?_ hm
    have e : b ^ n = (b ^ m) ^ (n / m) * b ^ (n % m) := by rw [← Nat.pow_mul, ← Nat.pow_add, Nat.div_add_mod]
    rw [e, Nat.mul_mod, Nat.pow_mod, hm, ← Nat.pow_mod, Nat.one_pow, ← Nat.mul_mod, Nat.one_mul] at hn
    exact hn
theorem pock {N f R a i : Nat} (hf : IsP f) (hN : N = f * R + 1) (hR : 0 < R) (hbig : N ≤ f * f) (h1 : a ^ (f * R) % N = 1 % N) (h2 : a ^ R * i % N = (i + 1) % N) : IsP N := by
  have hf2 := hf.1
  have hfR : f ≤ f * R := Nat.le_mul_of_pos_right f hR
  have big : ∀ r, IsP r → r ∣ N → f + 1 ≤ r := by
    intro r hr hrN
    have hr2 := hr.1
    have m1 : a ^ (f * R) % r = 1 % r := by
      rw [← Nat.mod_mod_of_dvd _ hrN, h1, Nat.mod_mod_of_dvd _ hrN]
    have m2 : a ^ R * i % r = (i + 1) % r := by
      rw [← Nat.mod_mod_of_dvd _ hrN, h2, Nat.mod_mod_of_dvd _ hrN]
    have hra : ¬ r ∣ a := by
      intro h
      have : r ∣ a ^ (f * R) := dvd_pow' h (by omega)
      have := Nat.mod_eq_zero_of_dvd this
      rw [this, Nat.mod_eq_of_lt (by omega)] at m1
      omega
    have hrb : ¬ r ∣ a ^ R := fun h => by
      have : r ∣ a ^ (f * R) := by rw [Nat.mul_comm, Nat.pow_mul]; exact dvd_pow' h (by omega)
      have := Nat.mod_eq_zero_of_dvd this
      rw [this, Nat.mod_eq_of_lt (by omega)] at m1
      omega
    have k1 : (a ^ R) ^ f % r = 1 % r := by rw [← Nat.pow_mul, Nat.mul_comm]; exact m1
    have k2 : (a ^ R) ^ (r - 1) % r = 1 % r := by rw [fermat hr _ hrb, Nat.mod_eq_of_lt (by omega)]
    have k3 := pow_gcd r _ _ _ k1 k2
    rcases hf.2 _ (Nat.gcd_dvd_left f (r - 1)) with hg | hg
    · rw [hg, Nat.pow_one] at k3
      rw [Nat.mul_mod, k3, ← Nat.mul_mod, Nat.one_mul] at m2
      have := dvd_of_mods (by omega) m2.symm
      rw [Nat.add_sub_cancel_left] at this
      have := Nat.le_of_dvd (by omega) this
      omega
    · have : f ∣ r - 1 := hg ▸ Nat.gcd_dvd_right f (r - 1)
      have := Nat.le_of_dvd (by omega) this
      omega
  refine ⟨by omega, fun d hd => ?_⟩
  by_cases hd1 : d = 1
  · exact Or.inl hd1
  by_cases hdN : d = N
  · exact Or.inr hdN
  exfalso
  obtain ⟨e, he⟩ := hd
  have hd0 : d ≠ 0 := by rintro rfl; omega
  have he0 : e ≠ 0 := by rintro rfl; omega
  have he1 : e ≠ 1 := by rintro rfl; omega
  obtain ⟨r, hr, hrd⟩ := has_prime d (by omega)
  obtain ⟨s, hs, hse⟩ := has_prime e (by omega)
  have b1 := big r hr (Nat.dvd_trans hrd ⟨e, he⟩)
  have b2 := big s hs (Nat.dvd_trans hse ⟨d, by rw [he, Nat.mul_comm]⟩)
  have c1 := Nat.le_of_dvd (by omega) hrd
  have c2 := Nat.le_of_dvd (by omega) hse
  have : (f + 1) * (f + 1) ≤ d * e := Nat.mul_le_mul (by omega) (by omega)
  have : f * f < (f + 1) * (f + 1) := by rw [Nat.mul_add, Nat.add_mul]; omega
  omega
def pw (N : Nat) : Nat → Nat → Nat → Nat
  | 0, _, _ => 1
  | k + 1, a, e => if e % 2 = 1 then a * pw N k (a * a % N) (e / 2) % N else pw N k (a * a % N) (e / 2)
theorem pw_is (N : Nat) : ∀ (k a e : Nat), e < 2 ^ k → pw N k a e % N = a ^ e % N := by
  intro k
  induction k with
  | zero => intro a e he; obtain rfl : e = 0 := by omega
            rfl
  | succ k ih =>
    intro a e he
    have h := ih (a * a % N) (e / 2) (by rw [Nat.pow_succ] at he; omega)
    have hs : (a * a % N) ^ (e / 2) % N = a ^ (2 * (e / 2)) % N := by rw [← Nat.pow_mod, ← Nat.pow_two, ← Nat.pow_mul]
    unfold pw
    split
    · rw [Nat.mod_mod, Nat.mul_mod, h, hs, ← Nat.mul_mod, Nat.mul_comm, ← Nat.pow_succ]
      congr 2
      omega
    · rw [h, hs]
      congr 2
      omega
def noDiv (n : Nat) : Nat → Bool
  | 0 => true
  | k + 1 => n % (k + 2) != 0 && noDiv n k
theorem noDiv_out (n : Nat) : ∀ k, noDiv n k = true → ∀ d, 2 ≤ d → d ≤ k + 1 → ¬ d ∣ n := by
  intro k
  induction k with
  | zero => intro _ d h1 h2; omega
  | succ k ih =>
    intro h d h1 h2 hd
    simp only [noDiv, Bool.and_eq_true, bne_iff_ne, ne_eq] at h
    by_cases he : d = k + 2
    · subst he; exact h.1 (Nat.mod_eq_zero_of_dvd hd)
    · exact ih h.2 d h1 (by omega) hd
theorem trial (n k : Nat) (hn : 2 ≤ n) (hk : n < (k + 2) * (k + 2)) (h : noDiv n k = true) : IsP n := by
  have hno := noDiv_out n k h
  refine ⟨hn, fun d hd => ?_⟩
  by_cases hd1 : d = 1
  · exact Or.inl hd1
  by_cases hdn : d = n
  · exact Or.inr hdn
  exfalso
  obtain ⟨e, he⟩ := hd
  have hd0 : d ≠ 0 := by rintro rfl; omega
  have he0 : e ≠ 0 := by rintro rfl; omega
  have he1 : e ≠ 1 := by rintro rfl; omega
  have b1 : k + 2 ≤ d := by
    rcases Nat.lt_or_ge (k + 1) d with h | h
    · exact h
    · exact absurd ⟨e, he⟩ (hno d (by omega) h)
  have b2 : k + 2 ≤ e := by
    rcases Nat.lt_or_ge (k + 1) e with h | h
    · exact h
    · exact absurd ⟨d, by rw [he, Nat.mul_comm]⟩ (hno e (by omega) h)
  have := Nat.mul_le_mul b1 b2
  omega
theorem pock2 {N f R a i v : Nat} (hf : IsP f) (hN : N = f * R + 1) (hR : 0 < R) (hbig : N ≤ f * f) (hb : f * R < 2 ^ 64) (k1 : pw N 64 a (f * R) % N = 1 % N) (k2 : pw N 64 a R % N = v) (k3 : v * i % N = (i + 1) % N) : IsP N := by
  have h1 := pw_is N 64 a (f * R) hb
  have h2 := pw_is N 64 a R (Nat.lt_of_le_of_lt (Nat.le_mul_of_pos_left R (by have := hf.1; omega)) hb)
  refine pock (a := a) (i := i) hf hN hR hbig (by rw [← h1, k1]) ?_
  rw [Nat.mul_mod, ← h2, k2, ← k3, ← k2, Nat.mul_mod _ i, Nat.mod_mod]
theorem prime_7930907 : IsP 7930907 := trial _ 2816 (by decide) (by decide) (by decide +kernel)
theorem prime_11864636873 : IsP 11864636873 := pock2 (a := 2) (i := 6907564340) (R := 1496) (v := 409113128) prime_7930907 (by decide) (by decide) (by decide) (by decide) (by decide +kernel) (by decide +kernel) (by decide)
theorem prime_1732236983459 : IsP 1732236983459 := pock2 (a := 2) (i := 1404901753188) (R := 146) (v := 353522539148) prime_11864636873 (by decide) (by decide) (by decide) (by decide) (by decide +kernel) (by decide +kernel) (by decide)
theorem prime_249442125618097 : IsP 249442125618097 := pock2 (a := 2) (i := 26622085695439) (R := 144) (v := 117107719143424) prime_1732236983459 (by decide) (by decide) (by decide) (by decide) (by decide +kernel) (by decide +kernel) (by decide)
theorem prime_2305843009213688669 : IsP 2305843009213688669 := pock2 (a := 2) (i := 431763226906493065) (R := 9244) (v := 732368710688439132) prime_249442125618097 (by decide) (by decide) (by decide) (by decide) (by decide +kernel) (by decide +kernel) (by decide)
def gp : Nat := 4611686018427377339
def gq : Nat := 2305843009213688669
theorem gq_prime : IsP gq := prime_2305843009213688669
def gmul (a b : Nat) : Nat := a * b % gp
def gpow (a e : Nat) : Nat := a ^ e % gp
theorem gpow_def (a e : Nat) : gpow a e = a ^ e % gp := rfl
theorem gp_pos : 0 < gp := by decide
theorem gmul_lt (a b : Nat) : gmul a b < gp := Nat.mod_lt _ gp_pos
theorem gpow_lt (a e : Nat) : gpow a e < gp := Nat.mod_lt _ gp_pos
theorem gmul_comm (a b : Nat) : gmul a b = gmul b a := by unfold gmul; rw [Nat.mul_comm]
theorem gmul_assoc (a b c : Nat) : gmul (gmul a b) c = gmul a (gmul b c) := by
  unfold gmul
  rw [Nat.mod_mul_mod, Nat.mul_mod_mod, Nat.mul_assoc]
theorem gpow_pow (a d e : Nat) : gpow (gpow a d) e = gpow a (d * e) := by
  unfold gpow
  rw [← Nat.pow_mod, Nat.pow_mul]
theorem gpow_zero (a : Nat) : gpow a 0 = 1 := rfl
theorem gen_q : gpow 4 gq = 1 := by
  have h := pw_is gp 64 4 gq (by decide)
  rw [gpow_def, ← h]
  decide +kernel
def gel (a : Nat) : Bool := decide (2 ≤ a) && decide (a < gp) && gpow a gq == 1
theorem gpow_mul_q (s : Nat) : gpow (gpow 4 s) gq = 1 := by
  rw [gpow_pow, Nat.mul_comm, ← gpow_pow, gen_q, gpow_def, Nat.one_pow]
  rfl
theorem gpow4_pos (s : Nat) : gpow 4 s ≠ 0 := by
  intro h
  have h1 := gpow_mul_q s
  rw [h, gpow_def, Nat.zero_pow (by decide)] at h1
  revert h1
  decide
theorem gel_pow (s : Nat) (h : gpow 4 s ≠ 1) : gel (gpow 4 s) = true := by
  have h1 := gpow_mul_q s
  have h2 := gpow4_pos s
  have h3 := gpow_lt 4 s
  unfold gel
  simp only [Bool.and_eq_true, decide_eq_true_eq, beq_iff_eq]
  exact ⟨⟨by omega, h3⟩, h1⟩
theorem gpow4_ne (s : Nat) (h1 : 1 ≤ s) (h2 : s < gq) : gpow 4 s ≠ 1 := by
  intro h
  have hg : Nat.gcd s gq = 1 := by
    rcases gq_prime.2 _ (Nat.gcd_dvd_right s gq) with h3 | h3
    · exact h3
    · have := Nat.le_of_dvd (by omega) (h3 ▸ Nat.gcd_dvd_left s gq)
      omega
  have k := pow_gcd gp 4 s gq (by rw [← gpow_def, h]; rfl) (by rw [← gpow_def, gen_q]; rfl)
  rw [hg] at k
  revert k
  decide
theorem gel_secret (s : Nat) (h1 : 1 ≤ s) (h2 : s < gq) : gel (gpow 4 s) = true := gel_pow s (gpow4_ne s h1 h2)
theorem gmul_one (r : Nat) (h : r < gp) : gmul r 1 = r := by unfold gmul; rw [Nat.mul_one, Nat.mod_eq_of_lt h]
theorem one_gmul (r : Nat) (h : r < gp) : gmul 1 r = r := by rw [gmul_comm, gmul_one r h]
theorem gpow_sq (a k : Nat) : gpow (gmul a a) k = gpow a (2 * k) := by
  unfold gpow gmul
  rw [← Nat.pow_mod, ← Nat.pow_two, ← Nat.pow_mul]
theorem gmul_gpow (a k : Nat) : gmul a (gpow a k) = gpow a (k + 1) := by
  unfold gpow gmul
  rw [Nat.mul_mod_mod, Nat.pow_succ, Nat.mul_comm]
theorem pow_odd (r a e : Nat) (h : e % 2 = 1) : gmul (gmul r a) (gpow (gmul a a) (e / 2)) = gmul r (gpow a e) := by
  rw [gmul_assoc, gpow_sq, gmul_gpow]
  congr 2
  omega
theorem pow_even (r a e : Nat) (h : e % 2 = 0) : gmul r (gpow (gmul a a) (e / 2)) = gmul r (gpow a e) := by
  rw [gpow_sq]
  congr 2
  omega
theorem pow_end (r a : Nat) (h : r < gp) : gmul r (gpow a 0) = r := by rw [gpow_zero, gmul_one r h]
end Go.Proofs.YtgpigjoonhghhaaDoor
