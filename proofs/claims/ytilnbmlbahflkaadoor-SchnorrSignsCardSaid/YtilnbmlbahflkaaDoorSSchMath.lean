/-
  Signatures as functions on numbers and lists; a signature is accepted for the public number of its secret.
-/
import Derived.Test.YtilnbmlbahflkaaDoorSGrpPub
import Derived.Test.YtilnbmlbahflkaaDoorSZ0
namespace Go.Proofs.YtilnbmlbahflkaaDoor
open Go.RowKit
set_option linter.unusedVariables false

/-- The number of the first eight bytes. -/
def num8 (xs : List Int) : Nat := (val (xs.take 8)).toNat
theorem num8_int (xs : List Int) (h : ∀ x ∈ xs, 0 ≤ x ∧ x ≤ 255) : ((num8 xs : Nat) : Int) = val (xs.take 8) ∧ num8 xs < 18446744073709551616 := by
  have h1 := val_bd (xs.take 8) (rng_take h 8)
  have h2 : (256 : Int) ^ (xs.take 8).length ≤ 256 ^ 8 := pow256_le (by simp; omega)
  have h3 : (256 : Int) ^ 8 = 18446744073709551616 := by decide
  unfold num8
  omega
theorem num8_gbytes (a : Nat) (h : a < 18446744073709551616) (r : List Int) : num8 (gbytes a ++ r) = a := by
  unfold num8
  rw [List.take_append_of_le_length (by rw [gbytes_len]; exact Nat.le_refl _), List.take_of_length_le (by rw [gbytes_len]; exact Nat.le_refl _), val_gbytes a h]
  omega
/-- The number e that bytes have with r for the public number y. -/
def chal (r y : Nat) (m : List Int) : Nat := num8 (shaS (gbytes r ++ (gbytes y ++ m))) % gq
def kS (x : Nat) (m : List Int) : Nat := 1 + num8 (hmacS (gbytes x) m) % (gq - 1)
def eS (x : Nat) (m : List Int) : Nat := chal (gpow 4 (kS x m)) (pubV x) m
def sS (x : Nat) (m : List Int) : Nat := (kS x m + eS x m * x) % gq
def sigL (x : Nat) (m : List Int) : List Int := if gsec x = true then gbytes (eS x m) ++ gbytes (sS x m) else []
theorem gq_pos : 0 < gq := by decide
theorem chal_lt (r y : Nat) (m : List Int) : chal r y m < gq := Nat.mod_lt _ gq_pos
theorem eS_lt (x : Nat) (m : List Int) : eS x m < gq := chal_lt _ _ _
theorem sS_lt (x : Nat) (m : List Int) : sS x m < gq := Nat.mod_lt _ gq_pos
theorem kS_lt (x : Nat) (m : List Int) : kS x m < gq ∧ 1 ≤ kS x m := by
  unfold kS
  have h1 : num8 (hmacS (gbytes x) m) % (gq - 1) < gq - 1 := Nat.mod_lt _ (by decide)
  have h2 : 1 ≤ gq := by decide
  omega
theorem gq_big : gq < 18446744073709551616 := by decide
theorem gp_big : gp < 18446744073709551616 := by decide
/-- What Verify answers. -/
def verE (y : Nat) (m sig : List Int) : Int :=
  if gel y = false then 13
  else if sig.length ≠ 16 then 2
  else if gq ≤ num8 sig ∨ gq ≤ num8 (sig.drop 8) then 5
  else if num8 sig ≠ chal (gmul (gpow 4 (num8 (sig.drop 8))) (gpow y (gq - num8 sig))) y m then 18 else 0
theorem gpow4_mod (a : Nat) : gpow 4 (a % gq) = gpow 4 a := by
  have h : a % gq + gq * (a / gq) = a := Nat.mod_add_div a gq
  have e : gpow 4 (a % gq + gq * (a / gq)) = gpow 4 (a % gq) := by
    rw [← gpow_add, ← gpow_pow, gen_q]
    have h1 : gpow 1 (a / gq) = 1 := by unfold gpow; rw [Nat.one_pow]; decide
    rw [h1, gmul_one _ (gpow_lt _ _)]
  rw [h] at e
  exact e.symm
theorem ver_sign (x : Nat) (h1 : 1 ≤ x) (h2 : x < gq) (m : List Int) : verE (pubV x) m (sigL x m) = 0 := by
  have hs := gsec_yes x ⟨h1, h2⟩
  have hp : pubV x = gpow 4 x := by unfold pubV; rw [if_pos hs]
  have hg : gel (pubV x) = true := by rw [hp]; exact gel_secret x h1 h2
  have hl : sigL x m = gbytes (eS x m) ++ gbytes (sS x m) := by unfold sigL; rw [if_pos hs]
  have he := eS_lt x m
  have hss := sS_lt x m
  have hq := gq_big
  have n1 : num8 (sigL x m) = eS x m := by rw [hl]; exact num8_gbytes _ (by omega) _
  have n2 : num8 ((sigL x m).drop 8) = sS x m := by
    rw [hl, List.drop_append_of_le_length (by rw [gbytes_len]; exact Nat.le_refl _), List.drop_of_length_le (by rw [gbytes_len]; exact Nat.le_refl _), List.nil_append]
    have := num8_gbytes (sS x m) (by omega) []
    rw [List.append_nil] at this
    exact this
  have hlen : (sigL x m).length = 16 := by rw [hl, List.length_append, gbytes_len, gbytes_len]
  unfold verE
  rw [if_neg (by rw [hg]; decide), if_neg (by rw [hlen]; decide), n1, n2, if_neg (by omega)]
  have hr : gmul (gpow 4 (sS x m)) (gpow (pubV x) (gq - eS x m)) = gpow 4 (kS x m) := by
    rw [hp, gpow_pow, gpow_add, ← gpow4_mod (sS x m + x * (gq - eS x m)), ← gpow4_mod (kS x m)]
    congr 1
    unfold sS
    rw [Nat.mod_add_mod]
    have e1 : kS x m + eS x m * x + x * (gq - eS x m) = kS x m + x * gq := by
      rw [Nat.mul_comm (eS x m) x, Nat.add_assoc, ← Nat.mul_add, show eS x m + (gq - eS x m) = gq by omega]
    rw [e1, Nat.add_mul_mod_self_right]
  rw [hr, if_neg (by unfold eS; exact fun h => h rfl)]
end Go.Proofs.YtilnbmlbahflkaaDoor
