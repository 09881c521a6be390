/-
  Numbers: powers modulo a number, Fermat's little theorem, and that the modulus of the small group and its order are primes.
  What the document's own Put returns, for every slice of bytes, number and width.
  A list of choices: a number of 64 bits.
  The keyed hash of the document, as functions on lists of numbers.
  A block of bytes of the call's own; copying a shorter slice into one; an element of an array of bytes.
  The document's Block.
  The document's Pad: what follows a message.
  Bytes that lie in a block of bytes of the call's own: they stay while rows of other things, or blocks of before, are written.
  A block of whole numbers of one kind; an element of such an array.
-/
import Derived.Test.YtkniifopfgeopaaDoorHZ0
import Derived.Test.YtkniifopfgeopaaDoorHZ4
import Derived.Test.YtkniifopfgeopaaDoorHZ5
import Derived.Test.YtkniifopfgeopaaDoorHZ3
import Derived.Test.YtkniifopfgeopaaDoorHShaBlock
import Derived.Test.YtkniifopfgeopaaDoorRows
import Derived.Laws.CopyOwn
import Derived.Deep.RegionWith
namespace Go.Proofs.YtkniifopfgeopaaDoor
set_option linter.unusedVariables false

/-- A prime number. -/
def IsP (n : Nat) : Prop := 2 ≤ n ∧ ∀ d, d ∣ n → d = 1 ∨ d = n

theorem dvd_of_mods {a b m : Nat} (h : b ≤ a) (e : a % m = b % m) : m ∣ a - b := Nat.dvd_of_mod_eq_zero (Nat.sub_mod_eq_zero_of_mod_eq e)
theorem mods_of_dvd {a b m : Nat} (h : b ≤ a) (e : m ∣ a - b) : a % m = b % m := by
  obtain ⟨c, hc⟩ := e
  obtain rfl : a = b + m * c := by omega
  rw [Nat.add_mul_mod_self_left]
theorem dvd_pow' {r a n : Nat} (h : r ∣ a) (hn : 0 < n) : r ∣ a ^ n := by
  obtain ⟨k, rfl⟩ : ∃ k, n = k + 1 := ⟨n - 1, by omega⟩
  rw [Nat.pow_succ]
  exact Nat.dvd_trans h (Nat.dvd_mul_left _ _)
theorem IsP.cop {r a : Nat} (h : IsP r) (ha : ¬ r ∣ a) : Nat.Coprime r a := by
  rcases h.2 _ (Nat.gcd_dvd_left r a) with h1 | h1
  · exact h1
  · exact absurd (h1 ▸ Nat.gcd_dvd_right r a) ha
theorem IsP.mul {r a b : Nat} (h : IsP r) (hd : r ∣ a * b) : r ∣ a ∨ r ∣ b := by
  by_cases ha : r ∣ a
  · exact Or.inl ha
  · exact Or.inr ((h.cop ha).dvd_of_dvd_mul_left hd)

/-- Every number from 2 on has a prime that divides it. -/
theorem has_prime (n : Nat) : 2 ≤ n → ∃ r, IsP r ∧ r ∣ n := by
  induction n using Nat.strongRecOn with
  | ind n ih =>
    intro hn
    by_cases h : ∀ d, d ∣ n → d = 1 ∨ d = n
    · exact ⟨n, ⟨hn, h⟩, Nat.dvd_refl n⟩
    · have ⟨d, hd⟩ := Classical.not_forall.mp h
      have ⟨hd1, hd2⟩ := Classical.not_imp.mp hd
      have hne1 : d ≠ 1 := fun e => hd2 (Or.inl e)
      have hnen : d ≠ n := fun e => hd2 (Or.inr e)
      have hle := Nat.le_of_dvd (by omega) hd1
      have h0 : d ≠ 0 := by
        rintro rfl
        have := Nat.zero_dvd.mp hd1
        omega
      obtain ⟨r, hr, hrd⟩ := ih d (by omega) (by omega)
      exact ⟨r, hr, Nat.dvd_trans hrd hd1⟩

/-- The numbers of Pascal's triangle. -/
def choose : Nat → Nat → Nat
  | _, 0 => 1
  | 0, _ + 1 => 0
  | n + 1, k + 1 => choose n k + choose n (k + 1)
theorem choose_zero (n : Nat) : choose n 0 = 1 := by cases n <;> rfl
theorem choose_big : ∀ (n k : Nat), n < k → choose n k = 0 := by
  intro n
  induction n with
  | zero => intro k hk; cases k with | zero => omega | succ k => rfl
  | succ n ih =>
    intro k hk
    cases k with
    | zero => omega
    | succ k => show choose n k + choose n (k + 1) = 0; rw [ih k (by omega), ih (k + 1) (by omega)]
theorem choose_mul : ∀ (n k : Nat), (k + 1) * choose (n + 1) (k + 1) = (n + 1) * choose n k := by
  intro n
  induction n with
  | zero =>
    intro k
    cases k with
    | zero => rfl
    | succ k => show (k + 2) * (0 + 0) = 1 * 0; omega
  | succ n ih =>
    intro k
    cases k with
    | zero =>
      show (0 + 1) * (choose (n + 1) 0 + choose (n + 1) 1) = (n + 1 + 1) * choose (n + 1) 0
      have h := ih 0
      simp [choose_zero] at h ⊢
      omega
    | succ k =>
      show (k + 1 + 1) * (choose (n + 1) (k + 1) + choose (n + 1) (k + 2)) = (n + 1 + 1) * choose (n + 1) (k + 1)
      have h1 := ih k
      have h2 := ih (k + 1)
      have h3 : choose (n + 1) (k + 1) = choose n k + choose n (k + 1) := rfl
      have e1 : (k + 1 + 1) * choose (n + 1) (k + 1) = (k + 1) * choose (n + 1) (k + 1) + choose (n + 1) (k + 1) := by rw [Nat.succ_mul]
      have e2 : (n + 1 + 1) * choose (n + 1) (k + 1) = (n + 1) * choose (n + 1) (k + 1) + choose (n + 1) (k + 1) := by rw [Nat.succ_mul]
      have e3 : (n + 1) * choose (n + 1) (k + 1) = (n + 1) * choose n k + (n + 1) * choose n (k + 1) := by rw [h3, Nat.mul_add]
      rw [Nat.mul_add, h2, e1, h1, e2, e3]
      omega

/-- The first m terms of (a + 1) ^ n. -/
def row (n a : Nat) : Nat → Nat
  | 0 => 0
  | m + 1 => row n a m + choose n m * a ^ m
theorem row_succ (n a m : Nat) : row (n + 1) a (m + 1) = row n a (m + 1) + a * row n a m := by
  induction m with
  | zero => simp [row, choose_zero]
  | succ m ih =>
    show row (n + 1) a (m + 1) + choose (n + 1) (m + 1) * a ^ (m + 1) = row n a (m + 1) + choose n (m + 1) * a ^ (m + 1) + a * (row n a m + choose n m * a ^ m)
    rw [ih]
    show row n a (m + 1) + a * row n a m + (choose n m + choose n (m + 1)) * a ^ (m + 1) = _
    rw [Nat.add_mul, Nat.mul_add, Nat.pow_succ]
    have : a * (choose n m * a ^ m) = choose n m * (a ^ m * a) := by rw [Nat.mul_left_comm, Nat.mul_comm a]
    rw [this]
    omega
theorem row_pow (a n : Nat) : (a + 1) ^ n = row n a (n + 1) := by
  induction n with
  | zero => simp [row, choose]
  | succ n ih =>
    rw [row_succ, Nat.pow_succ, ih]
    show row n a (n + 1) * (a + 1) = row n a (n + 1) + choose n (n + 1) * a ^ (n + 1) + a * row n a (n + 1)
    rw [choose_big n (n + 1) (by omega), Nat.mul_add, Nat.mul_comm a]
    omega
theorem choose_dvd {r : Nat} (h : IsP r) (k : Nat) (hk : k + 1 < r) : r ∣ choose r (k + 1) := by
  obtain ⟨n, rfl⟩ : ∃ n, r = n + 1 := ⟨r - 1, by have := h.1; omega⟩
  have h1 : (n + 1) ∣ (k + 1) * choose (n + 1) (k + 1) := by rw [choose_mul]; exact Nat.dvd_mul_right _ _
  rcases h.mul h1 with h2 | h2
  · exact absurd (Nat.le_of_dvd (by omega) h2) (by omega)
  · exact h2
theorem row_mod {r : Nat} (h : IsP r) (a : Nat) : ∀ m, m + 1 ≤ r → row r a (m + 1) % r = 1 := by
  intro m
  induction m with
  | zero =>
    intro _
    have := h.1
    simp [row, choose_zero]
    exact Nat.mod_eq_of_lt (by omega)
  | succ m ih =>
    intro hm
    show (row r a (m + 1) + choose r (m + 1) * a ^ (m + 1)) % r = 1
    obtain ⟨c, hc⟩ := choose_dvd h m (by omega)
    rw [hc, Nat.mul_assoc, Nat.add_mul_mod_self_left]
    exact ih (by omega)
theorem fermat_self {r : Nat} (h : IsP r) (a : Nat) : a ^ r % r = a % r := by
  have h2 := h.1
  induction a with
  | zero => rw [Nat.zero_pow (by omega)]
  | succ a ih =>
    rw [row_pow]
    show (row r a r + choose r r * a ^ r) % r = (a + 1) % r
    have hc : choose r r = 1 := by
      have key : ∀ n, choose n n = 1 := by
        intro n
        induction n with
        | zero => rfl
        | succ n ih => show choose n n + choose n (n + 1) = 1; rw [ih, choose_big n (n + 1) (by omega)]
      exact key r
    have hr := row_mod h a (r - 1) (by omega)
    rw [show r - 1 + 1 = r by omega] at hr
    rw [hc, Nat.one_mul, Nat.add_mod, hr, ih, Nat.add_comm a 1, Nat.add_mod 1 a, Nat.mod_eq_of_lt (show 1 < r by omega)]
/-- Fermat's little theorem. -/
theorem fermat {r : Nat} (h : IsP r) (a : Nat) (ha : ¬ r ∣ a) : a ^ (r - 1) % r = 1 := by
  have h2 := h.1
  have h1 := fermat_self h a
  obtain ⟨n, rfl⟩ : ∃ n, r = n + 1 := ⟨r - 1, by omega⟩
  rw [Nat.add_sub_cancel]
  have hpos : 0 < a := by
    rcases Nat.eq_zero_or_pos a with rfl | h
    · exact absurd (Nat.dvd_zero _) ha
    · exact h
  have hge : 1 ≤ a ^ n := Nat.one_le_pow n a hpos
  have hd : (n + 1) ∣ (a ^ n - 1) * a := by
    rw [Nat.sub_mul, ← Nat.pow_succ, Nat.one_mul]
    exact dvd_of_mods (by rw [Nat.pow_succ]; exact Nat.le_mul_of_pos_left _ hge) h1
  rcases h.mul hd with h3 | h3
  · rw [mods_of_dvd hge h3, Nat.mod_eq_of_lt (by omega)]
  · exact absurd h3 ha

/-- If two powers of b are 1, so is that of their greatest common divisor. -/
theorem pow_gcd (r b m n : Nat) (hm : b ^ m % r = 1 % r) (hn : b ^ n % r = 1 % r) : b ^ Nat.gcd m n % r = 1 % r := by
  induction m, n using Nat.gcd.induction with
  | H0 n => rw [Nat.gcd_zero_left]; exact hn
  | H1 m n hpos ih =>
    rw [Nat.gcd_rec]
    refine ih ?_ hm
    have e : b ^ n = (b ^ m) ^ (n / m) * b ^ (n % m) := by rw [← Nat.pow_mul, ← Nat.pow_add, Nat.div_add_mod]
    rw [e, Nat.mul_mod, Nat.pow_mod, hm, ← Nat.pow_mod, Nat.one_pow, ← Nat.mul_mod, Nat.one_mul] at hn
    exact hn

/-- Pocklington's criterion with one prime. -/
theorem pock {N f R a i : Nat} (hf : IsP f) (hN : N = f * R + 1) (hR : 0 < R) (hbig : N ≤ f * f) (h1 : a ^ (f * R) % N = 1 % N) (h2 : a ^ R * i % N = (i + 1) % N) : IsP N := by
  have hf2 := hf.1
  have hfR : f ≤ f * R := Nat.le_mul_of_pos_right f hR
  have big : ∀ r, IsP r → r ∣ N → f + 1 ≤ r := by
    intro r hr hrN
    have hr2 := hr.1
    have m1 : a ^ (f * R) % r = 1 % r := by
      rw [← Nat.mod_mod_of_dvd _ hrN, h1, Nat.mod_mod_of_dvd _ hrN]
    have m2 : a ^ R * i % r = (i + 1) % r := by
      rw [← Nat.mod_mod_of_dvd _ hrN, h2, Nat.mod_mod_of_dvd _ hrN]
    have hra : ¬ r ∣ a := by
      intro h
      have : r ∣ a ^ (f * R) := dvd_pow' h (by omega)
      have := Nat.mod_eq_zero_of_dvd this
      rw [this, Nat.mod_eq_of_lt (by omega)] at m1
      omega
    have hrb : ¬ r ∣ a ^ R := fun h => by
      have : r ∣ a ^ (f * R) := by rw [Nat.mul_comm, Nat.pow_mul]; exact dvd_pow' h (by omega)
      have := Nat.mod_eq_zero_of_dvd this
      rw [this, Nat.mod_eq_of_lt (by omega)] at m1
      omega
    have k1 : (a ^ R) ^ f % r = 1 % r := by rw [← Nat.pow_mul, Nat.mul_comm]; exact m1
    have k2 : (a ^ R) ^ (r - 1) % r = 1 % r := by rw [fermat hr _ hrb, Nat.mod_eq_of_lt (by omega)]
    have k3 := pow_gcd r _ _ _ k1 k2
    rcases hf.2 _ (Nat.gcd_dvd_left f (r - 1)) with hg | hg
    · rw [hg, Nat.pow_one] at k3
      rw [Nat.mul_mod, k3, ← Nat.mul_mod, Nat.one_mul] at m2
      have := dvd_of_mods (by omega) m2.symm
      rw [Nat.add_sub_cancel_left] at this
      have := Nat.le_of_dvd (by omega) this
      omega
    · have : f ∣ r - 1 := hg ▸ Nat.gcd_dvd_right f (r - 1)
      have := Nat.le_of_dvd (by omega) this
      omega
  refine ⟨by omega, fun d hd => ?_⟩
  by_cases hd1 : d = 1
  · exact Or.inl hd1
  by_cases hdN : d = N
  · exact Or.inr hdN
  exfalso
  obtain ⟨e, he⟩ := hd
  have hd0 : d ≠ 0 := by rintro rfl; omega
  have he0 : e ≠ 0 := by rintro rfl; omega
  have he1 : e ≠ 1 := by rintro rfl; omega
  obtain ⟨r, hr, hrd⟩ := has_prime d (by omega)
  obtain ⟨s, hs, hse⟩ := has_prime e (by omega)
  have b1 := big r hr (Nat.dvd_trans hrd ⟨e, he⟩)
  have b2 := big s hs (Nat.dvd_trans hse ⟨d, by rw [he, Nat.mul_comm]⟩)
  have c1 := Nat.le_of_dvd (by omega) hrd
  have c2 := Nat.le_of_dvd (by omega) hse
  have : (f + 1) * (f + 1) ≤ d * e := Nat.mul_le_mul (by omega) (by omega)
  have : f * f < (f + 1) * (f + 1) := by rw [Nat.mul_add, Nat.add_mul]; omega
  omega

/-- Powers modulo N by squaring, at most k bits. -/
def pw (N : Nat) : Nat → Nat → Nat → Nat
  | 0, _, _ => 1
  | k + 1, a, e => if e % 2 = 1 then a * pw N k (a * a % N) (e / 2) % N else pw N k (a * a % N) (e / 2)
theorem pw_is (N : Nat) : ∀ (k a e : Nat), e < 2 ^ k → pw N k a e % N = a ^ e % N := by
  intro k
  induction k with
  | zero => intro a e he; obtain rfl : e = 0 := by omega
            rfl
  | succ k ih =>
    intro a e he
    have h := ih (a * a % N) (e / 2) (by rw [Nat.pow_succ] at he; omega)
    have hs : (a * a % N) ^ (e / 2) % N = a ^ (2 * (e / 2)) % N := by rw [← Nat.pow_mod, ← Nat.pow_two, ← Nat.pow_mul]
    unfold pw
    split
    · rw [Nat.mod_mod, Nat.mul_mod, h, hs, ← Nat.mul_mod, Nat.mul_comm, ← Nat.pow_succ]
      congr 2
      omega
    · rw [h, hs]
      congr 2
      omega

/-- None of the numbers from 2 to k + 1 divides n. -/
def noDiv (n : Nat) : Nat → Bool
  | 0 => true
  | k + 1 => n % (k + 2) != 0 && noDiv n k
theorem noDiv_out (n : Nat) : ∀ k, noDiv n k = true → ∀ d, 2 ≤ d → d ≤ k + 1 → ¬ d ∣ n := by
  intro k
  induction k with
  | zero => intro _ d h1 h2; omega
  | succ k ih =>
    intro h d h1 h2 hd
    simp only [noDiv, Bool.and_eq_true, bne_iff_ne, ne_eq] at h
    by_cases he : d = k + 2
    · subst he; exact h.1 (Nat.mod_eq_zero_of_dvd hd)
    · exact ih h.2 d h1 (by omega) hd
theorem trial (n k : Nat) (hn : 2 ≤ n) (hk : n < (k + 2) * (k + 2)) (h : noDiv n k = true) : IsP n := by
  have hno := noDiv_out n k h
  refine ⟨hn, fun d hd => ?_⟩
  by_cases hd1 : d = 1
  · exact Or.inl hd1
  by_cases hdn : d = n
  · exact Or.inr hdn
  exfalso
  obtain ⟨e, he⟩ := hd
  have hd0 : d ≠ 0 := by rintro rfl; omega
  have he0 : e ≠ 0 := by rintro rfl; omega
  have he1 : e ≠ 1 := by rintro rfl; omega
  have b1 : k + 2 ≤ d := by
    rcases Nat.lt_or_ge (k + 1) d with h | h
    · exact h
    · exact absurd ⟨e, he⟩ (hno d (by omega) h)
  have b2 : k + 2 ≤ e := by
    rcases Nat.lt_or_ge (k + 1) e with h | h
    · exact h
    · exact absurd ⟨d, by rw [he, Nat.mul_comm]⟩ (hno e (by omega) h)
  have := Nat.mul_le_mul b1 b2
  omega
theorem pock2 {N f R a i v : Nat} (hf : IsP f) (hN : N = f * R + 1) (hR : 0 < R) (hbig : N ≤ f * f) (hb : f * R < 2 ^ 64) (k1 : pw N 64 a (f * R) % N = 1 % N) (k2 : pw N 64 a R % N = v) (k3 : v * i % N = (i + 1) % N) : IsP N := by
  have h1 := pw_is N 64 a (f * R) hb
  have h2 := pw_is N 64 a R (Nat.lt_of_le_of_lt (Nat.le_mul_of_pos_left R (by have := hf.1; omega)) hb)
  refine pock (a := a) (i := i) hf hN hR hbig (by rw [← h1, k1]) ?_
  rw [Nat.mul_mod, ← h2, k2, ← k3, ← k2, Nat.mul_mod _ i, Nat.mod_mod]
theorem prime_7930907 : IsP 7930907 := trial _ 2816 (by decide) (by decide) (by decide +kernel)
theorem prime_11864636873 : IsP 11864636873 := pock2 (a := 2) (i := 6907564340) (R := 1496) (v := 409113128) prime_7930907 (by decide) (by decide) (by decide) (by decide) (by decide +kernel) (by decide +kernel) (by decide)
theorem prime_1732236983459 : IsP 1732236983459 := pock2 (a := 2) (i := 1404901753188) (R := 146) (v := 353522539148) prime_11864636873 (by decide) (by decide) (by decide) (by decide) (by decide +kernel) (by decide +kernel) (by decide)
theorem prime_249442125618097 : IsP 249442125618097 := pock2 (a := 2) (i := 26622085695439) (R := 144) (v := 117107719143424) prime_1732236983459 (by decide) (by decide) (by decide) (by decide) (by decide +kernel) (by decide +kernel) (by decide)
theorem prime_2305843009213688669 : IsP 2305843009213688669 := pock2 (a := 2) (i := 431763226906493065) (R := 9244) (v := 732368710688439132) prime_249442125618097 (by decide) (by decide) (by decide) (by decide) (by decide +kernel) (by decide +kernel) (by decide)
/-- The modulus of the small group, and its order. -/
def gp : Nat := 4611686018427377339
def gq : Nat := 2305843009213688669
theorem gq_prime : IsP gq := prime_2305843009213688669
/-- Products and powers in the small group. -/
def gmul (a b : Nat) : Nat := a * b % gp
def gpow (a e : Nat) : Nat := a ^ e % gp
theorem gpow_def (a e : Nat) : gpow a e = a ^ e % gp := rfl
theorem gp_pos : 0 < gp := by decide
theorem gmul_lt (a b : Nat) : gmul a b < gp := Nat.mod_lt _ gp_pos
theorem gpow_lt (a e : Nat) : gpow a e < gp := Nat.mod_lt _ gp_pos
theorem gmul_comm (a b : Nat) : gmul a b = gmul b a := by unfold gmul; rw [Nat.mul_comm]
theorem gmul_assoc (a b c : Nat) : gmul (gmul a b) c = gmul a (gmul b c) := by
  unfold gmul
  rw [Nat.mod_mul_mod, Nat.mul_mod_mod, Nat.mul_assoc]
theorem gpow_add (a d e : Nat) : gmul (gpow a d) (gpow a e) = gpow a (d + e) := by
  unfold gmul gpow
  rw [← Nat.mul_mod, Nat.pow_add]
theorem gpow_pow (a d e : Nat) : gpow (gpow a d) e = gpow a (d * e) := by
  unfold gpow
  rw [← Nat.pow_mod, Nat.pow_mul]
theorem gpow_zero (a : Nat) : gpow a 0 = 1 := rfl
theorem gen_q : gpow 4 gq = 1 := by
  have h := pw_is gp 64 4 gq (by decide)
  rw [gpow_def, ← h]
  decide +kernel
/-- A number is an element of the group. -/
def gel (a : Nat) : Bool := decide (2 ≤ a) && decide (a < gp) && gpow a gq == 1
theorem gpow_mul_q (s : Nat) : gpow (gpow 4 s) gq = 1 := by
  rw [gpow_pow, Nat.mul_comm, ← gpow_pow, gen_q, gpow_def, Nat.one_pow]
  rfl
theorem gpow4_pos (s : Nat) : gpow 4 s ≠ 0 := by
  intro h
  have h1 := gpow_mul_q s
  rw [h, gpow_def, Nat.zero_pow (by decide)] at h1
  revert h1
  decide
/-- A power of the generator is an element, or 1. -/
theorem gel_pow (s : Nat) (h : gpow 4 s ≠ 1) : gel (gpow 4 s) = true := by
  have h1 := gpow_mul_q s
  have h2 := gpow4_pos s
  have h3 := gpow_lt 4 s
  unfold gel
  simp only [Bool.and_eq_true, decide_eq_true_eq, beq_iff_eq]
  exact ⟨⟨by omega, h3⟩, h1⟩
theorem gpow4_ne (s : Nat) (h1 : 1 ≤ s) (h2 : s < gq) : gpow 4 s ≠ 1 := by
  intro h
  have hg : Nat.gcd s gq = 1 := by
    rcases gq_prime.2 _ (Nat.gcd_dvd_right s gq) with h3 | h3
    · exact h3
    · have := Nat.le_of_dvd (by omega) (h3 ▸ Nat.gcd_dvd_left s gq)
      omega
  have k := pow_gcd gp 4 s gq (by rw [← gpow_def, h]; rfl) (by rw [← gpow_def, gen_q]; rfl)
  rw [hg] at k
  revert k
  decide
theorem gel_secret (s : Nat) (h1 : 1 ≤ s) (h2 : s < gq) : gel (gpow 4 s) = true := gel_pow s (gpow4_ne s h1 h2)
theorem gmul_one (r : Nat) (h : r < gp) : gmul r 1 = r := by unfold gmul; rw [Nat.mul_one, Nat.mod_eq_of_lt h]
theorem one_gmul (r : Nat) (h : r < gp) : gmul 1 r = r := by rw [gmul_comm, gmul_one r h]
theorem gpow_sq (a k : Nat) : gpow (gmul a a) k = gpow a (2 * k) := by
  unfold gpow gmul
  rw [← Nat.pow_mod, ← Nat.pow_two, ← Nat.pow_mul]
theorem gpow_mod (a e : Nat) : gpow (a % gp) e = gpow a e := by unfold gpow; rw [← Nat.pow_mod]
theorem gmul_gpow (a k : Nat) : gmul a (gpow a k) = gpow a (k + 1) := by
  unfold gpow gmul
  rw [Nat.mul_mod_mod, Nat.pow_succ, Nat.mul_comm]
/-- A round of the powers, with the bit 1 or 0. -/
theorem pow_odd (r a e : Nat) (h : e % 2 = 1) : gmul (gmul r a) (gpow (gmul a a) (e / 2)) = gmul r (gpow a e) := by
  rw [gmul_assoc, gpow_sq, gmul_gpow]
  congr 2
  omega
theorem pow_even (r a e : Nat) (h : e % 2 = 0) : gmul r (gpow (gmul a a) (e / 2)) = gmul r (gpow a e) := by
  rw [gpow_sq]
  congr 2
  omega
theorem pow_end (r a : Nat) (h : r < gp) : gmul r (gpow a 0) = r := by rw [gpow_zero, gmul_one r h]
/-- A round of the product by doubling. -/
theorem dbl_odd (o x B z : Nat) (h : B % 2 = 1) (hz : (o + x * B) % gp = z) : ((o + x) % gp + 2 * x % gp * (B / 2)) % gp = z := by
  rw [← hz]
  have e : B = 2 * (B / 2) + 1 := by omega
  have e2 : x * B = 2 * x * (B / 2) + x := by
    conv => lhs; rw [e]
    rw [Nat.mul_add, Nat.mul_one, Nat.mul_left_comm, Nat.mul_assoc]
  rw [e2, Nat.mod_add_mod, Nat.add_mod (o + x), Nat.mod_mul_mod, ← Nat.add_mod]
  congr 1
  omega
theorem dbl_even (o x B z : Nat) (h : B % 2 = 0) (hz : (o + x * B) % gp = z) : (o + 2 * x % gp * (B / 2)) % gp = z := by
  rw [← hz]
  have e : B = 2 * (B / 2) := by omega
  have e2 : x * B = 2 * x * (B / 2) := by
    conv => lhs; rw [e]
    rw [Nat.mul_left_comm, Nat.mul_assoc]
  rw [e2, Nat.add_mod, Nat.mod_mul_mod, ← Nat.add_mod]
end Go.Proofs.YtkniifopfgeopaaDoor

namespace Go.Proofs.YtkniifopfgeopaaDoor
open Go.RowKit
set_option linter.unusedVariables false

/-- The result of a function that returns bytes of its own. -/
def BytesNew (w : World) (xs : List Int) (e : Ending) (w' : World) : Prop := ∃ v, e = .returned v ∧ Own w' w.heap.size 5 v xs ∧ Below w.heap.size w w'

set_option maxHeartbeats 400000 in
set_option maxRecDepth 100000 in
theorem rput_yes (p : Option Addr) (n c : Nat) (xs : List Int) (w : World) (h : Byt w p n c xs) (hb : n ≤ 140737488355000) (v : Int) (hv : 0 ≤ v ∧ v ≤ 18446744073709551615) (k : Nat) (h1 : 1 ≤ k) (h8 : k ≤ 8) :
    Calls Tryd.prog 45 #[.slice p n c, .int .u64 v, .int .i64 k] w (BytesNew w (xs ++ be k v)) := by
  have hn := h.le
  have hl := h.len
  obtain ⟨i0, hi, hz0, hz1, hz2⟩ := info_parts Tryd.infoByte
  have H := hidden h
  clear h
  go_enter Tryd.func45, Tryd.ntmps45
  go_wp2_with (at_builtin; refine wpList_append_byt _ rfl _ _ 22 rfl w.heap.size 5 i0 (.int .u8 0) Tryd.underlying22 hi hz0 hz1 hz2 rfl _ _ rfl (Own.nil w w.heap.size 5) _ _ _ _ _ rfl H.out rfl ?c1 (Nat.le_refl _) ?_)
  case c1 => first | omega | (simp; omega)
  intro u w1 hown hg
  have hbel := (Below.refl w.heap.size w).grown hg (Nat.le_refl _) (by intro k hk; simp [Value.ownBlock] at hk)
  clear hg
  go_wp2
  go_loopw [7, 8] (fun u i wr => ∃ j : Nat, j ≤ k ∧ i = .int .i64 ((j : Int) - 1) ∧ ∃ ys, ys ++ be j v = xs ++ be k v ∧ Own wr w.heap.size 5 u ys ∧ Below w.heap.size w wr) (fun _ i _ => (intOf i + 1).toNat)
  case atStart => exact ⟨k, Nat.le_refl _, rfl, xs, rfl, hown, hbel⟩
  case round =>
    obtain ⟨j, hj, rfl, ys, hys, ho, hbl⟩ := hrel
    by_cases hpos : 1 ≤ j
    · obtain ⟨j, rfl⟩ : ∃ m, j = m + 1 := ⟨j - 1, by omega⟩
      have hlen : ys.length ≤ n + 8 := by
        have := congrArg List.length hys
        simp only [List.length_append, be_len] at this
        omega
      have HY := hidden hys
      have HO := hidden ho
      clear hys ho H
      go_wp2_with (at_builtin; go_loud (refine wpList_append_byt _ rfl _ _ 22 rfl w.heap.size 5 i0 (.int .u8 0) Tryd.underlying22 hi hz0 hz1 hz2 rfl _ _ rfl (HO.out.alloc _) _ _ _ _ _ rfl (one_byte _ _ (v / 2 ^ (8 * j) % 256) ?c0 ?c1) rfl ?c2 ?c3 ?_))
      case c0 => exact byte_rng _
      case c1 => rw [World.cell?_alloc_at _ _ _ _ rfl]; rfl
      case c2 => omega
      case c3 => have := hbl.size; simp; omega
      intro u' w2 hown2 hg2
      have HB2 := hidden ((hbl.alloc hbl.size _).grown hg2 (by have := hbl.size; simp; omega) (fun g hg => (HO.out.lt g hg).1))
      clear hbl hg2 hbel
      go_wp2
      go_roundw
      case rel => exact ⟨j, by omega, rfl, _, be_next _ _ _ _ HY.out, hown2, HB2.out⟩
      case measure => simp [intOf] <;> omega
    · obtain rfl : j = 0 := by omega
      have e1 : ys = xs ++ be k v := by simpa [be] using hys
      subst e1
      have HO := hidden ho
      have HB := hidden hbl
      clear ho hbl hys H hbel hown
      go_wp2
      go_ret
      exact ⟨_, rfl, HO.out, HB.out⟩

end Go.Proofs.YtkniifopfgeopaaDoor

namespace Go.Proofs.YtkniifopfgeopaaDoor
open Go.RowKit
set_option linter.unusedVariables false

set_option maxHeartbeats 400000 in
theorem word_any (W w : World) (k : Nat) (h : Cod W w k) :
    Calls Tryd.prog 10 #[.pointer (some ⟨k, 0, none⟩)] w fun e w' => ∃ r : Int, e = .returned (.int .u64 r) ∧ 0 ≤ r ∧ r ≤ 18446744073709551615 ∧ Cod W w' k ∧ w.grownBy w' (some k) := by
  have H := hidden h
  clear h
  go_enter Tryd.func10, Tryd.ntmps10
  go_wp2_with (go_at_call 28; refine (next_any W _ k H.out _ ?_).mono ?_; omega)
  rintro e w1 ⟨r, rfl, r0, r1, hc, hg⟩
  have HC := hidden hc
  have HG := hidden hg
  clear hc hg H
  by_cases h0 : r = 0
  · subst h0
    go_wp2_with (go_at_call 28; refine (next_any W _ k HC.out _ ?_).mono ?_; omega; rintro e w2 ⟨r2, rfl, r3, r4, hc2, hg2⟩; have HC2 := hidden hc2; have HG2 := hidden (grown_trans HG.out hg2); clear hc2 hg2)
    go_ret
    exact ⟨r2, rfl, r3, by omega, HC2.out, HG2.out⟩
  by_cases h1 : r = 1
  · subst h1
    go_wp2_with (go_at_call 28; refine (next_any W _ k HC.out _ ?_).mono ?_; omega; rintro e w2 ⟨r2, rfl, r3, r4, hc2, hg2⟩; have HC2 := hidden hc2; have HG2 := hidden (grown_trans HG.out hg2); clear hc2 hg2)
    go_ret
    exact ⟨18446744073709551615 - r2, rfl, by omega, by omega, HC2.out, HG2.out⟩
  have e0 : (r == 0) = false := by simpa using h0
  have e1 : (r == 1) = false := by simpa using h1
  go_wp2
  go_loopw [3, 4] (fun v i wr => ∃ j : Nat, j ≤ 8 ∧ i = .int .i64 j ∧ ∃ z : Int, v = .int .u64 z ∧ 0 ≤ z ∧ z ≤ 18446744073709551615 ∧ Cod W wr k ∧ w.grownBy wr (some k)) (fun _ i _ => 8 - (intOf i).toNat)
  case atStart => exact ⟨0, by omega, rfl, 0, rfl, by omega, by omega, HC.out, HG.out⟩
  case round =>
    obtain ⟨j, hj, rfl, z, rfl, z0, z1, hc, hg⟩ := hrel
    have HC1 := hidden hc
    have HG1 := hidden hg
    clear hc hg HC HG
    by_cases hlt : j < 8
    · go_wp2_with (go_at_call 28; refine (next_any W _ k HC1.out _ ?_).mono ?_; omega; rintro e w2 ⟨r2, rfl, r3, r4, hc2, hg2⟩; have HC2 := hidden hc2; have HG2 := hidden (grown_trans HG1.out hg2); clear hc2 hg2)
      go_roundw
      case rel => exact ⟨j + 1, by omega, by go_num, _, rfl, bits_lo_u64 _ _ _, bits_hi_u64 _ _ _, HC2.out, HG2.out⟩
      case measure => simp [intOf]; omega
    · obtain rfl : j = 8 := by omega
      go_wp2
      go_ret
      exact ⟨z, rfl, z0, z1, HC1.out, HG1.out⟩
end Go.Proofs.YtkniifopfgeopaaDoor

namespace Go.Proofs.YtkniifopfgeopaaDoor
open Go.RowKit
set_option linter.unusedVariables false

theorem xor8_comm (a b : Int) : bits .xor .u8 a b = bits .xor .u8 b a := by
  show IntKind.u8.wrap ((BitVec.ofInt 8 a ^^^ BitVec.ofInt 8 b).toNat : Int) = IntKind.u8.wrap ((BitVec.ofInt 8 b ^^^ BitVec.ofInt 8 a).toNat : Int)
  rw [BitVec.xor_comm]
theorem xor8_rng (a b : Int) : 0 ≤ bits .xor .u8 a b ∧ bits .xor .u8 a b ≤ 255 := by
  show 0 ≤ IntKind.u8.wrap _ ∧ IntKind.u8.wrap _ ≤ _
  rw [IntKind.wrap_u8]; omega
theorem xor8_zero (m : Int) (h : 0 ≤ m ∧ m ≤ 255) : bits .xor .u8 0 m = m := by
  show IntKind.u8.wrap ((BitVec.ofInt 8 0 ^^^ BitVec.ofInt 8 m).toNat : Int) = m
  rw [IntKind.wrap_u8, show BitVec.ofInt 8 0 = 0#8 from rfl, BitVec.zero_xor, BitVec.toNat_ofInt]
  omega
/-- The key that is used: a long one is replaced by its hash. -/
def keyS (key : List Int) : List Int := if 64 < key.length then shaS key else key
theorem keyS_len (key : List Int) : (keyS key).length ≤ 64 := by
  unfold keyS
  split
  · rw [shaS_len]; omega
  · omega
/-- The bytes of a block that a key is padded to. -/
def padK (key : List Int) : List Int := keyS key ++ List.replicate (64 - (keyS key).length) 0
theorem padK_len (key : List Int) : (padK key).length = 64 := by
  have := keyS_len key
  simp [padK]; omega
def maskL (m : Int) (l : List Int) : List Int := l.map (fun x => bits .xor .u8 x m)
theorem maskL_len (m : Int) (l : List Int) : (maskL m l).length = l.length := by simp [maskL]
theorem maskL_rng (m : Int) (l : List Int) : ∀ x ∈ maskL m l, 0 ≤ x ∧ x ≤ 255 := by
  intro x hx
  obtain ⟨y, _, rfl⟩ := List.mem_map.1 hx
  exact xor8_rng _ _
theorem maskL_take (m : Int) (l : List Int) (j : Nat) (hj : j < l.length) : maskL m (l.take (j + 1)) = maskL m (l.take j) ++ [bits .xor .u8 (l.getD j 0) m] := by
  rw [List.take_succ_eq_append_getElem hj, maskL, maskL, List.map_append]
  simp [List.getD_eq_getElem?_getD, hj]
def maskS (m : Int) (key : List Int) : List Int := maskL m (padK key)
theorem maskS_len (m : Int) (key : List Int) : (maskS m key).length = 64 := by rw [maskS, maskL_len, padK_len]
theorem maskS_in (m : Int) (key : List Int) (j : Nat) (hj : j < (keyS key).length) : (maskS m key).getD j 0 = bits .xor .u8 m ((keyS key).getD j 0) := by
  have hl := keyS_len key
  rw [xor8_comm, maskS, maskL, padK, List.getD_eq_getElem?_getD, List.getElem?_map, List.getElem?_append_left hj, List.getElem?_eq_getElem hj, List.getD_eq_getElem?_getD, List.getElem?_eq_getElem hj]
  rfl
theorem maskS_out (m : Int) (hm : 0 ≤ m ∧ m ≤ 255) (key : List Int) (j : Nat) (hj : ¬ j < (keyS key).length) (h64 : j < 64) : (maskS m key).getD j 0 = m := by
  have hl := keyS_len key
  rw [maskS, maskL, padK, List.getD_eq_getElem?_getD, List.getElem?_map, List.getElem?_append_right (by omega), List.getElem?_replicate, if_pos (by omega)]
  exact xor8_zero m hm
theorem take_getD (l : List Int) (j : Nat) (hj : j < l.length) : l.take (j + 1) = l.take j ++ [l.getD j 0] := by
  rw [List.take_succ_eq_append_getElem hj]
  simp [List.getD_eq_getElem?_getD, hj]
/-- The keyed hash. -/
def hmacS (key b : List Int) : List Int := shaS (maskS 92 key ++ shaS (maskS 54 key ++ b))
theorem hmacS_len (key b : List Int) : (hmacS key b).length = 32 := shaS_len _
theorem hmacS_rng (key b : List Int) : ∀ x ∈ hmacS key b, 0 ≤ x ∧ x ≤ 255 := shaS_rng _
/-- T_i: the i-th piece. -/
def plusT (key seed : List Int) : Nat → List Int
  | 0 => []
  | i + 1 => hmacS key (plusT key seed i ++ (seed ++ [((i + 1 : Nat) : Int) % 256]))
/-- The first i pieces. -/
def plusO (key seed : List Int) : Nat → List Int
  | 0 => []
  | i + 1 => plusO key seed i ++ plusT key seed (i + 1)
/-- The first n bytes. -/
def plusS (key seed : List Int) (n : Nat) : List Int := (plusO key seed ((n + 31) / 32)).take n
/-- The pieces of bytes, by their sizes. -/
def splitS (b : List Int) : List Int → Option (List (List Int))
  | [] => some []
  | n :: l => if 0 ≤ n ∧ n ≤ b.length then (splitS (b.drop n.toNat) l).map (b.take n.toNat :: ·) else none
end Go.Proofs.YtkniifopfgeopaaDoor

namespace Go.Proofs.YtkniifopfgeopaaDoor
open Go.RowKit
set_option linter.unusedVariables false

/-- The block g holds just these bytes. -/
structure Wb (w : World) (g : Nat) (t : TypeId) (l : List Int) : Prop where
  heap : w.heap[g]? = some (.cells (l.map (Value.int .u8)).toArray t (0, 0))
section
variable {w : World} {g : Nat} {t : TypeId} {l : List Int}
theorem Wb.lt (h : Wb w g t l) : g < w.heap.size := (Array.getElem?_eq_some_iff.1 h.heap).1
theorem Wb.cell (h : Wb w g t l) (j : Nat) (hj : j < l.length) : w.cell? ⟨g, j, none⟩ = some (.int .u8 (l.getD j 0)) := by
  rw [cell_of_row w g j _ _ _ h.heap]
  simp [List.getD_eq_getElem?_getD, hj]
theorem Wb.fr (h : Wb w g t l) (j : Nat) : w.frozen? ⟨g, j, none⟩ = false := frozen_of_row w g j _ _ h.heap
theorem Wb.alloc (h : Wb w g t l) (o : Obj) : Wb (w.alloc o) g t l := ⟨by rw [Below.heap_alloc w o g h.lt]; exact h.heap⟩
theorem Wb.drew (h : Wb w g t l) : Wb w.drew g t l := ⟨h.heap⟩
theorem Wb.below {w' : World} (h : Wb w g t l) (hb : Below w.heap.size w w') : Wb w' g t l := ⟨by rw [hb.block g h.lt]; exact h.heap⟩
theorem Wb.row (h : Wb w g t l) (m : List Int) : Wb (w.setRow g (m.map (Value.int .u8)).toArray) g t m := ⟨setRow_heap w g _ _ _ _ h.heap⟩
theorem Wb.new (w : World) (t : TypeId) (l : List Int) (cs : Array Value) (hc : cs = (l.map (Value.int .u8)).toArray) : Wb (w.alloc (.cells cs t)) w.heap.size t l := ⟨by rw [heap_alloc_new]; rw [hc]⟩
theorem one8 (l : List Int) : ((l.map (Value.int .u8)).toArray).all (·.oneCell') = true := by
  simp [Value.oneCell']
theorem Wb.byt (h : Wb w g t l) (n : Nat) (hn : l.length = n) (hb : n ≤ maxLen) (hr : ∀ x ∈ l, 0 ≤ x ∧ x ≤ 255) : Byt w (some ⟨g, 0, none⟩) n n l :=
  ⟨hn, Nat.le_refl _, hb, hr, fun _ => ⟨g, 0, rfl, fun i hi => by rw [Nat.zero_add]; exact h.cell i hi⟩⟩
end

/-- An element of an array of bytes. -/
theorem run_index8 {P : Program} {t e : TypeId} {n : Nat} (ht : P.underlying t = some (.array n e)) (he : P.underlying e = some (.int .u8)) {i : TypeInfo} (hi : P.info? e = some i) (hs : i.size = 1) (l : List Int) (hl : l.length = n) (j : Nat) (hj : j < n) (w : World) :
    (Instr.index t (.agg (l.map (Value.int .u8)).toArray) (.int .i64 j)).run P w = .ok (.int .u8 (l.getD j 0)) w := by
  subst hl
  have h1 : (0 : Int) ≤ (j : Int) ∧ (j : Int) < (l.length : Int) := by omega
  have h2 : (Option.map (Value.int IntKind.u8) l[j]?) = some (.int .u8 (l.getD j 0)) := by
    simp [List.getD_eq_getElem?_getD, hj]
  unfold Instr.index
  simp [asIntOf, run_underlying ht, run_underlying he, part, isAgg, sizeOf, typeInfo, hi, hs, h2, Result.andThen]
  intro h
  omega

/-- copy(row, src), where the row is known whole and src is no longer than it. -/
theorem wpList_copy_row {P : Program} {w : World} {ops : Array Oper} {rest : List Oper} {o : Oper} {a : Act} {Q : Exit → Act → World → Prop} (hgd : o.guard = none) (d s : Operand) (dT sT : TypeId)
    (ho : o.op = .call { callee := .builtin .copy, args := #[d, s], argTypes := #[dT, sT] }) (elem : TypeId) (hu : P.underlying dT = some (.slice elem)) (hsz : (P.info? elem).map (·.size) = some 1)
    (g n m : Nat) (hd : a.eval d = .slice (some ⟨g, 0, none⟩) n m) (zs : List Int) (t : TypeId) (hg : w.heap[g]? = some (.cells (zs.map (Value.int .u8)).toArray t (0, 0))) (hzn : n ≤ zs.length)
    (p : Option Addr) (k c : Nat) (ys : List Int) (hs : a.eval s = .slice p k c) (hy : Byt w p k c ys) (hk : k ≤ n)
    (R : List Int) (hR : ys ++ zs.drop k = R) (h : ∀ w', Hid (Wb w' g t R) → Hid (w.grownBy w' (some g)) → wpList P ops Q rest (a.put o.dst (goInt k)) w') : wpList P ops Q (o :: rest) a w := by
  subst hR
  have hlen := hy.len
  rcases Nat.eq_zero_or_pos k with h0 | h0
  · subst h0
    obtain rfl : ys = [] := List.eq_nil_of_length_eq_zero hlen
    refine wpList_copy_nothing hgd d s dT sT ho elem hu hsz _ _ _ _ _ _ hd hs (by simp) ?_
    exact h w ⟨by simpa using hg⟩ (World.grownBy.refl w _)
  · obtain ⟨b, off, rfl, hc⟩ := hy.at_ h0
    refine wpList_copy_own hgd d s dT sT ho elem hu hsz g 0 _ _ _ _ _ hd hs _ t hg (ys.map (Value.int .u8)) (by simp [hlen]; exact (Nat.min_eq_left hk).symm) (fun j u hj => hy.src j u hj) (by simp [hlen]; omega) (u8_one ys) ?_
    have := h (w.setRow g ((zs.map (Value.int .u8)).toArray.toList.take 0 ++ (ys.map (Value.int .u8) ++ (zs.map (Value.int .u8)).toArray.toList.drop (0 + (ys.map (Value.int .u8)).length))).toArray)
      ⟨by rw [setRow_heap w g _ _ t _ hg]; simp [hlen, List.map_drop]⟩
      ⟨rfl, rfl, rfl, by simp, fun k hk hne => setRow_other w g k _ (fun e => hne (by rw [e]))⟩
    simpa [hlen] using this

end Go.Proofs.YtkniifopfgeopaaDoor

namespace Go.Proofs.YtkniifopfgeopaaDoor
open Go.RowKit
set_option linter.unusedVariables false

set_option maxHeartbeats 800000 in
set_option maxRecDepth 100000 in
theorem rconst_any (w : World) : Calls Tryd.prog 91 #[] w fun e w' => e = .returned (.agg (kTab.map (Value.int .u32)).toArray) ∧ Below w.heap.size w w' := by
  go_enter Tryd.func91, Tryd.ntmps91
  go_upto_region 1 with fail
  generalize hw1 : w.alloc (.cells _ 112) = w1
  have hr : Wd w1 w.heap.size 112 (List.replicate 64 0) := by
    rw [← hw1]
    exact Wd.new w _ (List.replicate 64 0) _ rfl
  have hb : Below w.heap.size w w1 := by
    rw [← hw1]
    exact (Below.refl _ w).alloc (Nat.le_refl _) _
  clear hw1
  have HR := hidden hr
  have HR4 := hidden (hr.row kTab)
  have HB4 := hidden (below_setRow hb (Nat.le_refl _) (kTab.map (Value.int .u32)).toArray)
  have HI : Hid ((Tryd.prog.info? 112).map (·.size) = some ((kTab.map (Value.int .u32)).toArray).size) := by rw [info64]; rfl
  clear hr hb
  go_wp2_with (first
    | (refine wpList_store_row rfl 112 _ _ rfl w.heap.size (kTab.map (Value.int .u32)).toArray rfl rfl 112 _ HR.out.heap HI.out rfl (one32 _) ?_)
    | fail)
  refine bodyPost_ret (results_cell_row rfl _ _ w.heap.size 112 _ _ _ rfl HR4.out.heap Tryd.underlying112 rfl HI.out) rfl ?_
  exact ⟨rfl, HB4.out⟩
end Go.Proofs.YtkniifopfgeopaaDoor

namespace Go.Proofs.YtkniifopfgeopaaDoor
open Go.RowKit
set_option linter.unusedVariables false

def lenOf : Value → Nat
  | .slice _ n _ => n
  | _ => 0
theorem Own.one (w : World) (base : Nat) (e : TypeId) (x : Int) (hb : base ≤ w.heap.size) : Own (w.alloc (.cells #[.int .u8 x] e)) base e (.slice (some ⟨w.heap.size, 0, none⟩) 1 1) [x] :=
  ⟨by simp, .inr ⟨w.heap.size, 1, _, by simp, hb, heap_alloc_new w _, by simp, by decide, by simp, by simp⟩⟩
theorem pad_more (n k Z : Nat) (hZ : padZ n = Z) (hk : k < Z) : ((n : Int) % 64 + ((k : Int) + 1)) % 64 ≠ 56 := by
  unfold padZ at hZ
  omega
theorem pad_last (n Z : Nat) (hZ : padZ n = Z) : ((n : Int) % 64 + ((Z : Int) + 1)) % 64 = 56 := by
  unfold padZ at hZ
  omega

set_option maxHeartbeats 800000 in
set_option maxRecDepth 100000 in
theorem rpad_any (n : Nat) (hn : n ≤ 1152921504606846975) (w : World) : Calls Tryd.prog 85 #[.int .i64 n] w fun e w' => ∃ v, e = .returned v ∧ Own w' w.heap.size 5 v (padS n) ∧ Below w.heap.size w w' := by
  obtain ⟨i0, hi, hz0, hz1, hz2⟩ := info_parts Tryd.infoByte
  have h0 : ¬ (n : Int) < 0 := by omega
  have hzl := padZ_lt n
  obtain ⟨Z, hZ⟩ : ∃ Z, padZ n = Z := ⟨_, rfl⟩
  rw [hZ] at hzl
  have HM := hidden (fun k (hk : k < Z) => pad_more n k Z hZ hk)
  have HLAST := hidden (pad_last n Z hZ)
  have HE : Is (padS n) ((128 :: List.replicate Z 0) ++ be 8 ((n : Int) * 8)) := ⟨by unfold padS; rw [hZ]; rfl⟩
  have HR : Hid (∀ k, ∀ x ∈ (128 :: List.replicate k (0 : Int)), 0 ≤ x ∧ x ≤ 255) := by
    intro k x hx
    simp only [List.mem_cons, List.mem_replicate] at hx
    omega
  have HOWN := hidden (Own.one w w.heap.size 5 128 (Nat.le_refl _))
  have HB0 := hidden ((Below.refl w.heap.size w).alloc (Nat.le_refl _) (.cells #[.int .u8 128] 5))
  clear hZ
  go_enter Tryd.func85, Tryd.ntmps85
  go_wp2
  go_loopw [3] (fun o wr => ∃ k : Nat, k ≤ Z ∧ lenOf o = k + 1 ∧ Own wr w.heap.size 5 o (128 :: List.replicate k 0) ∧ Below w.heap.size w wr) (fun o _ => Z + 2 - lenOf o)
  case atStart => exact ⟨0, by omega, rfl, HOWN.out, HB0.out⟩
  case round =>
    obtain ⟨k, hk, -, ho, hb⟩ := hrel
    obtain ⟨q, d, rfl, hbyt⟩ := ho.bytN rfl (N := k + 1) (by simp) (HR.out k)
    have HO := hidden ho
    have HB := hidden hb
    have HY := hidden hbyt
    clear ho hb hbyt HOWN HB0
    by_cases hlt : k < Z
    · have hne := HM.out k hlt
      go_wp2_with (at_builtin; refine wpList_append_byt _ rfl _ _ 22 rfl w.heap.size 5 i0 (.int .u8 0) Tryd.underlying22 hi hz0 hz1 hz2 rfl _ _ rfl (HO.out.alloc _) _ _ _ _ _ rfl (one_byte _ _ 0 ?c0 ?c1) rfl ?c2 ?c3 ?_)
      case c0 => omega
      case c1 => rw [World.cell?_alloc_at _ _ _ _ rfl]; rfl
      case c2 => simp; omega
      case c3 => have := HB.out.size; simp; omega
      intro u' w2 hown2 hg2
      have HB2 := hidden ((HB.out.alloc HB.out.size _).grown hg2 (by have := HB.out.size; simp; omega) (fun g hg => (HO.out.lt g hg).1))
      have hown3 : Own w2 w.heap.size 5 u' (128 :: List.replicate (k + 1) 0) := by
        rw [List.replicate_succ']
        exact hown2
      obtain ⟨q', d', rfl, _⟩ := hown3.bytN rfl (N := k + 1 + 1) (by simp) (HR.out (k + 1))
      have HO3 := hidden hown3
      clear hown2 hown3 hg2 HM HLAST HO HB HY
      go_wp2
      go_roundw
      case rel => exact ⟨k + 1, by omega, rfl, HO3.out, HB2.out⟩
      case measure => simp [lenOf]; omega
    · obtain rfl : k = Z := by omega
      have hla := HLAST.out
      have hw : IntKind.u64.wrap (n : Int) = n := wraps_u64 _ (by omega) (by omega)
      have HP : Hid (Calls Tryd.prog 45 #[.slice q (k + 1) d, .int .u64 ((n : Int) * 8), .int .i64 8] wr (BytesNew wr (padS n))) := by
        have := rput_yes q (k + 1) d _ wr HY.out (by omega) ((n : Int) * 8) (by omega) 8 (by omega) (by omega)
        rw [← HE.eq] at this
        exact this
      clear HM HLAST HE HR
      go_wp2_with (first
        | (go_at_call 45; (with_reducible refine (HP.out).mono ?_); rintro e w' ⟨v, rfl, hown, hbel⟩)
        | fail)
      go_ret
      exact ⟨_, rfl, hown.mono HB.out.size, HB.out.trans (hbel.mono HB.out.size)⟩
end Go.Proofs.YtkniifopfgeopaaDoor

namespace Go.Proofs.YtkniifopfgeopaaDoor
open Go.RowKit
set_option linter.unusedVariables false

/-- The slice reads as the bytes, and where there is one, it lies at block base or beyond, in a block of bytes. -/
structure Bod (w : World) (base : Nat) (p : Option Addr) (n c : Nat) (xs : List Int) : Prop where
  byt : Byt w p n c xs
  own : 0 < n → ∃ b o cur fz, p = some ⟨b, o, none⟩ ∧ base ≤ b ∧ w.heap[b]? = some (.cells cur 5 fz)

/-- The row that is written is none of bytes, or lies below base. -/
def OffB (w : World) (base : Nat) (row : Option Nat) : Prop := ∀ r, row = some r → r < base ∨ ∀ cur fz, w.heap[r]? ≠ some (.cells cur 5 fz)
theorem OffB.none (w : World) (base : Nat) : OffB w base none := fun r h => by cases h
theorem OffB.low {w : World} {base k : Nat} (h : k < base) : OffB w base (some k) := fun r hr => by cases hr; exact Or.inl h

theorem Bod.grown {w w' : World} {base : Nat} {p : Option Addr} {n c : Nat} {xs : List Int} {row : Option Nat} (h : Bod w base p n c xs) (hg : w.grownBy w' row) (hr : OffB w base row) : Bod w' base p n c xs := by
  rcases Nat.eq_zero_or_pos n with h0 | h0
  · have hx : xs = [] := List.eq_nil_of_length_eq_zero (h.byt.len.trans h0)
    subst h0 hx
    exact ⟨Byt.nil _ _ _ h.byt.big, fun h => by omega⟩
  · obtain ⟨b, o, cur, fz, rfl, hb, hh⟩ := h.own h0
    have hne : some b ≠ row := by
      intro e
      rcases hr b e.symm with h1 | h1
      · omega
      · exact h1 _ _ hh
    have hlt : b < w.heap.size := (Array.getElem?_eq_some_iff.1 hh).1
    have hblk := hg.block b hlt hne
    refine ⟨⟨h.byt.len, h.byt.cap, h.byt.big, h.byt.rng, fun hn => ?_⟩, fun _ => ⟨b, o, cur, fz, rfl, hb, hblk.trans hh⟩⟩
    obtain ⟨b', o', e, hc⟩ := h.byt.mem hn
    injection e with e
    injection e with e1 e2
    subst e1 e2
    exact ⟨b, o, rfl, fun i hi => (World.cell?_of_block (a := ⟨b, o + i, none⟩) hblk).trans (hc i hi)⟩
theorem Bod.below {w w' : World} {base : Nat} {p : Option Addr} {n c : Nat} {xs : List Int} (h : Bod w base p n c xs) (hb : Below w.heap.size w w') : Bod w' base p n c xs :=
  h.grown (row := none) ⟨hb.os, hb.tape, hb.output, hb.size, fun i hi _ => hb.block i hi⟩ (OffB.none _ _)
theorem Bod.alloc {w : World} {base : Nat} {p : Option Addr} {n c : Nat} {xs : List Int} (h : Bod w base p n c xs) (o : Obj) : Bod (w.alloc o) base p n c xs := h.below ((Below.refl _ w).alloc (Nat.le_refl _) o)
theorem Bod.mono {w : World} {base base' : Nat} {p : Option Addr} {n c : Nat} {xs : List Int} (h : Bod w base p n c xs) (hb : base' ≤ base) : Bod w base' p n c xs :=
  ⟨h.byt, fun h0 => by
    obtain ⟨b, o, cur, fz, e, hb', hh⟩ := h.own h0
    exact ⟨b, o, cur, fz, e, by omega, hh⟩⟩
/-- What a row of the call's own holds. -/
theorem Own.bod {w : World} {base : Nat} {v : Value} {xs : List Int} {n : Nat} (h : Own w base 5 v xs) (hl : xs.length = n) (hr : ∀ x ∈ xs, 0 ≤ x ∧ x ≤ 255) : ∃ p c, v = .slice p n c ∧ Bod w base p n c xs := by
  obtain ⟨p, c, rfl, hb⟩ := h.bytN rfl hl hr
  refine ⟨p, c, rfl, hb, fun h0 => ?_⟩
  rcases h.2 with ⟨hv, hn⟩ | ⟨g, cap, cur, hv, hg, hh, _⟩
  · omega
  · simp at hv
    exact ⟨g, 0, cur, (0, 0), hv.1, hg, hh⟩
theorem Bod.nil (w : World) (base : Nat) (p : Option Addr) (c : Nat) (hc : c ≤ maxLen) : Bod w base p 0 c [] := ⟨Byt.nil _ _ _ hc, fun h => by omega⟩
end Go.Proofs.YtkniifopfgeopaaDoor

namespace Go.Proofs.YtkniifopfgeopaaDoor
open Go.RowKit
set_option linter.unusedVariables false

/-- The cells of a list of numbers. -/
def ints (k : IntKind) (l : List Int) : Array Value := (l.map (Value.int k)).toArray
/-- The block g holds just these numbers. -/
structure Wn (k : IntKind) (w : World) (g : Nat) (t : TypeId) (l : List Int) : Prop where
  heap : w.heap[g]? = some (.cells (ints k l) t (0, 0))
section
variable {k : IntKind} {w : World} {g : Nat} {t : TypeId} {l : List Int}
theorem Wn.lt (h : Wn k w g t l) : g < w.heap.size := (Array.getElem?_eq_some_iff.1 h.heap).1
theorem Wn.cell (h : Wn k w g t l) (j : Nat) (hj : j < l.length) : w.cell? ⟨g, j, none⟩ = some (.int k (l.getD j 0)) := by
  rw [cell_of_row w g j _ _ _ h.heap]
  simp [ints, List.getD_eq_getElem?_getD, hj]
theorem Wn.fr (h : Wn k w g t l) (j : Nat) : w.frozen? ⟨g, j, none⟩ = false := frozen_of_row w g j _ _ h.heap
theorem Wn.set (h : Wn k w g t l) (j : Nat) (v : Int) : Wn k (w.setCell ⟨g, j, none⟩ (.int k v)) g t (l.set j v) := by
  constructor
  rw [heap_setCell_same w g j _ _ _ h.heap]
  simp [ints, List.map_set]
theorem Wn.other (h : Wn k w g t l) (a : Addr) (v : Value) (hn : g ≠ a.block) : Wn k (w.setCell a v) g t l := ⟨by rw [Below.heap_setCell w a v g hn]; exact h.heap⟩
theorem Wn.row (h : Wn k w g t l) (m : List Int) : Wn k (w.setRow g (ints k m)) g t m := ⟨setRow_heap w g _ _ _ _ h.heap⟩
theorem Wn.rowOther (h : Wn k w g t l) (j : Nat) (cs : Array Value) (hn : g ≠ j) : Wn k (w.setRow j cs) g t l := ⟨by rw [setRow_other w j g cs hn]; exact h.heap⟩
theorem Wn.alloc (h : Wn k w g t l) (o : Obj) : Wn k (w.alloc o) g t l := ⟨by rw [Below.heap_alloc w o g h.lt]; exact h.heap⟩
theorem Wn.drew (h : Wn k w g t l) : Wn k w.drew g t l := ⟨h.heap⟩
theorem Wn.drewN (h : Wn k w g t l) (r : Nat) : Wn k (w.drewN r) g t l := ⟨h.heap⟩
theorem Wn.below {w' : World} (h : Wn k w g t l) (hb : Below w.heap.size w w') : Wn k w' g t l := ⟨by rw [hb.block g h.lt]; exact h.heap⟩
theorem Wn.grown {w' : World} {row : Option Nat} (h : Wn k w g t l) (hg : w.grownBy w' row) (hn : some g ≠ row) : Wn k w' g t l := ⟨by rw [hg.block g h.lt hn]; exact h.heap⟩
theorem Wn.new (k : IntKind) (w : World) (t : TypeId) (l : List Int) (cs : Array Value) (hc : cs = ints k l) : Wn k (w.alloc (.cells cs t)) w.heap.size t l := ⟨by rw [heap_alloc_new]; rw [hc]⟩
theorem Wn.new' (k : IntKind) (w : World) (t : TypeId) (l : List Int) (cs : Array Value) (hc : cs = ints k l) (g : Nat) (hg : w.heap.size = g) : Wn k (w.alloc (.cells cs t)) g t l := by subst hg; exact Wn.new k w t l cs hc
theorem onek (k : IntKind) (l : List Int) : (ints k l).all (·.oneCell') = true := by
  simp [ints, Value.oneCell']
end
/-- An element of an array of numbers. -/
theorem run_indexN {k : IntKind} {P : Program} {t e : TypeId} {n : Nat} (ht : P.underlying t = some (.array n e)) (he : P.underlying e = some (.int k)) {i : TypeInfo} (hi : P.info? e = some i) (hs : i.size = 1) (l : List Int) (hl : l.length = n) (j : Nat) (hj : j < n) (w : World) :
    (Instr.index t (.agg (ints k l)) (.int .i64 j)).run P w = .ok (.int k (l.getD j 0)) w := by
  subst hl
  have h1 : (0 : Int) ≤ (j : Int) ∧ (j : Int) < (l.length : Int) := by omega
  have h2 : (Option.map (Value.int k) l[j]?) = some (.int k (l.getD j 0)) := by
    simp [List.getD_eq_getElem?_getD, hj]
  unfold Instr.index
  simp [asIntOf, run_underlying ht, run_underlying he, part, isAgg, sizeOf, typeInfo, hi, hs, ints, h2, Result.andThen]
  intro h
  omega
end Go.Proofs.YtkniifopfgeopaaDoor
