/-
  The field of 2^255 - 19 elements: its number of elements is a prime, products that are 0, inverses, and a number that is no square.
-/
import Derived.Test.YtilnbmlbahflkaaMFermat
namespace Go.Proofs.Ytilnbmlbahflkaa
set_option linter.unusedVariables false

/-- If every prime that divides a number is 1 more than a multiple of f, so is whatever divides it. -/
theorem divs_one {N f : Nat} (hf : 2 ≤ f) (h : ∀ r, IsP r → r ∣ N → r % f = 1) : ∀ d, d ∣ N → 0 < d → d % f = 1 := by
  intro d
  induction d using Nat.strongRecOn with
  | ind d ih =>
    intro hd h0
    by_cases h1 : d = 1
    · subst h1; exact Nat.mod_eq_of_lt (by omega)
    · obtain ⟨r, hr, hrd⟩ := has_prime d (by omega)
      have k2 := h r hr (Nat.dvd_trans hrd hd)
      obtain ⟨e, he⟩ := hrd
      have h2 := hr.1
      have e0 : 0 < e := by
        rcases Nat.eq_zero_or_pos e with rfl | h
        · simp at he; omega
        · exact h
      have hlt : e < d := by
        have := Nat.mul_le_mul_right e h2
        omega
      have k1 := ih e hlt (Nat.dvd_trans ⟨r, by rw [he, Nat.mul_comm]⟩ hd) e0
      rw [he, Nat.mul_mod, k1, k2]
      exact Nat.mod_eq_of_lt (by omega)

/-- Pocklington's criterion with one prime that is less than the root. -/
theorem pock3' {N f R a i : Nat} (hf : IsP f) (hN : N = f * R + 1) (hR : 0 < R) (hbig : R < f * f) (hrem : R < f ∨ R / f + 1 < R % f) (h1 : a ^ (f * R) % N = 1 % N) (h2 : a ^ R * i % N = (i + 1) % N) : IsP N := by
  have hf2 := hf.1
  have hfR : f ≤ f * R := Nat.le_mul_of_pos_right f hR
  have one : ∀ r, IsP r → r ∣ N → r % f = 1 := by
    intro r hr hrN
    have hr2 := hr.1
    have m1 : a ^ (f * R) % r = 1 % r := by
      rw [← Nat.mod_mod_of_dvd _ hrN, h1, Nat.mod_mod_of_dvd _ hrN]
    have m2 : a ^ R * i % r = (i + 1) % r := by
      rw [← Nat.mod_mod_of_dvd _ hrN, h2, Nat.mod_mod_of_dvd _ hrN]
    have hrb : ¬ r ∣ a ^ R := fun h => by
      have : r ∣ a ^ (f * R) := by rw [Nat.mul_comm, Nat.pow_mul]; exact dvd_pow' h (by omega)
      have := Nat.mod_eq_zero_of_dvd this
      rw [this, Nat.mod_eq_of_lt (by omega)] at m1
      omega
    have k1 : (a ^ R) ^ f % r = 1 % r := by rw [← Nat.pow_mul, Nat.mul_comm]; exact m1
    have k2 : (a ^ R) ^ (r - 1) % r = 1 % r := by rw [fermat hr _ hrb, Nat.mod_eq_of_lt (by omega)]
    have k3 := pow_gcd r _ _ _ k1 k2
    rcases hf.2 _ (Nat.gcd_dvd_left f (r - 1)) with hg | hg
    · rw [hg, Nat.pow_one] at k3
      rw [Nat.mul_mod, k3, ← Nat.mul_mod, Nat.one_mul] at m2
      have := dvd_of_mods (by omega) m2.symm
      rw [Nat.add_sub_cancel_left] at this
      have := Nat.le_of_dvd (by omega) this
      omega
    · have hd : f ∣ r - 1 := hg ▸ Nat.gcd_dvd_right f (r - 1)
      obtain ⟨c, hc⟩ := hd
      have : r = 1 + f * c := by omega
      rw [this, Nat.add_mul_mod_self_left]
      exact Nat.mod_eq_of_lt (by omega)
  have hall := divs_one hf2 one
  refine ⟨by omega, fun d hd => ?_⟩
  by_cases hd1 : d = 1
  · exact Or.inl hd1
  by_cases hdN : d = N
  · exact Or.inr hdN
  exfalso
  obtain ⟨e, he⟩ := hd
  have hd0 : d ≠ 0 := by rintro rfl; omega
  have he0 : e ≠ 0 := by rintro rfl; omega
  have he1 : e ≠ 1 := by rintro rfl; omega
  have k1 := hall d ⟨e, he⟩ (by omega)
  have k2 := hall e ⟨d, by rw [he, Nat.mul_comm]⟩ (by omega)
  have m1 := Nat.div_add_mod d f
  have m2 := Nat.div_add_mod e f
  rw [k1] at m1
  rw [k2] at m2
  generalize d / f = p at m1
  generalize e / f = q at m2
  have hp : 0 < p := by rcases Nat.eq_zero_or_pos p with rfl | h; · simp at m1; omega
                        · exact h
  have hq : 0 < q := by rcases Nat.eq_zero_or_pos q with rfl | h; · simp at m2; omega
                        · exact h
  have e1 : f * R = f * (f * (p * q) + (p + q)) := by
    have : f * R + 1 = (f * p + 1) * (f * q + 1) := by rw [← hN, he, m1, m2]
    grind
  have e2 : R = f * (p * q) + (p + q) := Nat.eq_of_mul_eq_mul_left (by omega) e1
  have hpq : p + q ≤ p * q + 1 := by
    obtain ⟨p', rfl⟩ : ∃ p', p = p' + 1 := ⟨p - 1, by omega⟩
    obtain ⟨q', rfl⟩ : ∃ q', q = q' + 1 := ⟨q - 1, by omega⟩
    have : (p' + 1) * (q' + 1) = p' * q' + p' + q' + 1 := by grind
    omega
  rcases Nat.lt_or_ge (p + q) f with hl | hl
  · have d1 : R / f = p * q := by rw [e2, Nat.mul_add_div (by omega), Nat.div_eq_of_lt hl, Nat.add_zero]
    have d2 : R % f = p + q := by rw [e2, Nat.mul_add_mod, Nat.mod_eq_of_lt hl]
    rcases hrem with h | h
    · have : f ≤ f * (p * q) := Nat.le_mul_of_pos_right f (Nat.mul_pos hp hq)
      omega
    · omega
  · have hge : f - 1 ≤ p * q := by omega
    have := Nat.mul_le_mul_left f hge
    have e3 : f * (f - 1) + f = f * f := by
      obtain ⟨f', rfl⟩ : ∃ f', f = f' + 1 := ⟨f - 1, by omega⟩
      rw [Nat.add_sub_cancel, Nat.mul_succ]
    omega
theorem pock3 {N f R a i v : Nat} (hf : IsP f) (hN : N = f * R + 1) (hR : 0 < R) (hbig : R < f * f) (hrem : R < f ∨ R / f + 1 < R % f) (hb : f * R < 2 ^ 256) (k1 : pw N 256 a (f * R) % N = 1 % N) (k2 : pw N 256 a R % N = v) (k3 : v * i % N = (i + 1) % N) : IsP N := by
  have h1 := pw_is N 256 a (f * R) hb
  have h2 := pw_is N 256 a R (Nat.lt_of_le_of_lt (Nat.le_mul_of_pos_left R (by have := hf.1; omega)) hb)
  refine pock3' (a := a) (i := i) hf hN hR hbig hrem (by rw [← h1, k1]) ?_
  rw [Nat.mul_mod, ← h2, k2, ← k3, ← k2, Nat.mul_mod _ i, Nat.mod_mod]
theorem prime_8574133 : IsP 8574133 := trial _ 2928 (by decide) (by decide) (by decide +kernel)
theorem prime_1919519569386763 : IsP 1919519569386763 := pock3 (f := 8574133) (a := 2) (i := 1290547218147893) (R := 223873314) (v := 1059928654987441) prime_8574133 (by decide) (by decide) (by decide) (by decide) (by decide) (by decide +kernel) (by decide +kernel) (by decide)
theorem prime_75445702479781427272750846543864801 : IsP 75445702479781427272750846543864801 := pock3 (f := 1919519569386763) (a := 2) (i := 74602835786463724888147869570305675) (R := 39304471641247389600) (v := 56747016255153332959347766392083459) prime_1919519569386763 (by decide) (by decide) (by decide) (by decide) (by decide) (by decide +kernel) (by decide +kernel) (by decide)
theorem prime_74058212732561358302231226437062788676166966415465897661863160754340907 : IsP 74058212732561358302231226437062788676166966415465897661863160754340907 := pock3 (f := 75445702479781427272750846543864801) (a := 2) (i := 70463328703800545008217672123162676565183935400628861884889913886334520) (R := 981609426360740691344999861639072106) (v := 69490809710348678725736597923071784769591275419387514694139338586948360) prime_75445702479781427272750846543864801 (by decide) (by decide) (by decide) (by decide) (by decide) (by decide +kernel) (by decide +kernel) (by decide)
/-- The number of elements of the field. -/
def pN : Nat := 57896044618658097711785492504343953926634992332820282019728792003956564819949
theorem pN_prime : IsP pN := pock3 (f := 74058212732561358302231226437062788676166966415465897661863160754340907) (a := 2) (i := 55540832096118778044507775605005710249233119951144946814680141076505643269084) (R := 781764) (v := 427094198651976259540344842774561673889945192655078505504941250475370961481) prime_74058212732561358302231226437062788676166966415465897661863160754340907 (by decide) (by decide) (by decide) (by decide) (by decide) (by decide +kernel) (by decide +kernel) (by decide)
theorem pN_pos : 0 < pN := by decide
instance : NeZero pN := ⟨by decide⟩
/-- The field. -/
abbrev K := Fin pN
theorem K.ext' {a b : K} (h : a.val = b.val) : a = b := Fin.ext h
theorem K.mul_val (a b : K) : (a * b).val = a.val * b.val % pN := Fin.val_mul a b
theorem K.zero_val : (0 : K).val = 0 := rfl
theorem K.one_val : (1 : K).val = 1 := by decide +kernel
theorem K.mul_zero' {a b : K} (h : a * b = 0) : a = 0 ∨ b = 0 := by
  have h1 : a.val * b.val % pN = 0 := by rw [← K.mul_val, h]; rfl
  rcases pN_prime.mul (Nat.dvd_of_mod_eq_zero h1) with h2 | h2
  · exact Or.inl (K.ext' (Nat.eq_zero_of_dvd_of_lt h2 a.isLt))
  · exact Or.inr (K.ext' (Nat.eq_zero_of_dvd_of_lt h2 b.isLt))
theorem K.mul_ne {a b : K} (ha : a ≠ 0) (hb : b ≠ 0) : a * b ≠ 0 := fun h => (K.mul_zero' h).elim ha hb
theorem K.cancel {a b c : K} (ha : a ≠ 0) (h : a * b = a * c) : b = c := by
  have : a * (b - c) = 0 := by grind
  rcases K.mul_zero' this with h1 | h1
  · exact absurd h1 ha
  · grind
theorem K.mul_one' (a : K) : a * 1 = a := by grind
/-- Powers. -/
def kpow (a : K) (n : Nat) : K := ⟨a.val ^ n % pN, Nat.mod_lt _ pN_pos⟩
theorem kpow_val (a : K) (n : Nat) : (kpow a n).val = a.val ^ n % pN := rfl
theorem kpow_zero (a : K) : kpow a 0 = 1 := K.ext' (by rw [kpow_val, K.one_val, Nat.pow_zero]; decide +kernel)
theorem kpow_one (a : K) : kpow a 1 = a := K.ext' (by rw [kpow_val, Nat.pow_one, Nat.mod_eq_of_lt a.isLt])
theorem kpow_add (a : K) (m n : Nat) : kpow a (m + n) = kpow a m * kpow a n := K.ext' (by
  rw [K.mul_val, kpow_val, kpow_val, kpow_val, ← Nat.mul_mod, Nat.pow_add])
theorem kpow_mul (a b : K) (n : Nat) : kpow (a * b) n = kpow a n * kpow b n := K.ext' (by
  rw [K.mul_val, kpow_val, kpow_val, kpow_val, K.mul_val, ← Nat.pow_mod, ← Nat.mul_mod, Nat.mul_pow])
theorem kpow_succ (a : K) (n : Nat) : kpow a (n + 1) = kpow a n * a := by rw [kpow_add, kpow_one]
theorem kpow_two (a : K) (n : Nat) : kpow a (2 * n) = kpow a n * kpow a n := by rw [show 2 * n = n + n by omega, kpow_add]
theorem kpow_zero' (n : Nat) (hn : 0 < n) : kpow 0 n = 0 := K.ext' (by rw [kpow_val, K.zero_val, Nat.zero_pow hn]; rfl)
theorem kfermat (a : K) (ha : a ≠ 0) : kpow a (pN - 1) = 1 := K.ext' (by
  rw [kpow_val, K.one_val]
  exact fermat pN_prime _ (fun h => ha (K.ext' (Nat.eq_zero_of_dvd_of_lt h a.isLt))))
/-- The inverse, 0 for 0. -/
def kinv (a : K) : K := kpow a (pN - 2)
theorem kinv_zero : kinv 0 = 0 := kpow_zero' _ (by decide)
theorem kinv_mul {a : K} (ha : a ≠ 0) : kinv a * a = 1 := by
  unfold kinv
  rw [← kpow_succ]
  exact kfermat a ha
theorem quot_mul {a b : K} (hb : b ≠ 0) : a * kinv b * b = a := by
  have h1 := kinv_mul hb
  generalize kinv b = x at *
  grind
/-- What the curve has, and the root of -1. -/
def dK : K := 37095705934669439343138083508754565189542113879843219016388785533085940283555
def iK : K := 19681161376707505956807079304988542015446066515923890162744021073123829784752
theorem iK_eq : iK * iK + 1 = 0 := by decide +kernel
theorem two_ne : (2 : K) ≠ 0 := by decide +kernel
theorem one_ne : (1 : K) ≠ 0 := by decide +kernel
theorem dK_ne : dK ≠ 0 := by decide +kernel
def halfN : Nat := 28948022309329048855892746252171976963317496166410141009864396001978282409974
theorem halfN_eq : 2 * halfN = pN - 1 := by decide +kernel
theorem dK_half : kpow dK halfN = 0 - 1 := K.ext' (by
  rw [kpow_val, ← pw_is pN 256 dK.val halfN (by decide +kernel)]
  decide +kernel)
theorem minus_ne : (0 : K) - 1 ≠ 1 := by decide +kernel
/-- d is no square. -/
theorem d_nonsq (u v : K) (h : dK * (u * u) = v * v) : u = 0 := by
  rcases Classical.em (u = 0) with hu | hu
  · exact hu
  exfalso
  have hv : v ≠ 0 := by
    rintro rfl
    have : dK * (u * u) = 0 := by grind
    exact K.mul_ne dK_ne (K.mul_ne hu hu) this
  have h1 : kpow (dK * (u * u)) halfN = kpow (v * v) halfN := by rw [h]
  rw [kpow_mul, kpow_mul, kpow_mul, ← kpow_two, ← kpow_two, halfN_eq, kfermat u hu, kfermat v hv, dK_half] at h1
  rw [K.mul_one'] at h1
  exact minus_ne h1
end Go.Proofs.Ytilnbmlbahflkaa
