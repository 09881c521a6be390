/-
  Public numbers, shared secrets and the bytes of elements: the program's and the document's; a drawn secret; the chapter's example.
  Signatures as functions on numbers and lists; a signature is accepted for the public number of its secret.
  What wire.Slice returns, for every slice of bytes, place and length.
  What wire.Equal returns: whether two slices of bytes hold the same numbers.
  What the document's own Compare and Equal return: the lexicographic order of two slices of bytes, and whether they are equal.
  What the condition on the package variable says of the table of the hash.
-/
import Derived.Test.YtilnbmlbahflkaaDoorAGrpMul
import Derived.Test.YtilnbmlbahflkaaDoorAZ3
import Derived.Test.YtilnbmlbahflkaaDoorAZ4
import Derived.Test.YtilnbmlbahflkaaDoorAWNumber
import Derived.Test.YtilnbmlbahflkaaDoorAZ0
import Derived.Test.YtilnbmlbahflkaaDoorAZ2
import Derived.Test.YtilnbmlbahflkaaDoorRows
import Derived.Test.YtilnbmlbahflkaaDoorABytes
import Derived.Test.YtilnbmlbahflkaaDoorANum
import Derived.Test.YtilnbmlbahflkaaDoorAShaBlock
import Derived.Deep.QuietTactic
import Derived.BigQuiet
import Derived.ProofKit
import Derived.LaidMore
import Derived.Lib.LaidTab
import Derived.Stop.Joined
namespace Go.Proofs.YtilnbmlbahflkaaDoor
open Go.RowKit
set_option linter.unusedVariables false

/-- A number is a secret. -/
def gsec (s : Nat) : Bool := decide (1 ≤ s) && decide (s < gq)
theorem gsec_no (s : Nat) (h : ¬ (1 ≤ s ∧ s < gq)) : gsec s = false := by
  unfold gsec
  simp only [Bool.and_eq_false_iff, decide_eq_false_iff_not]
  omega
theorem gsec_yes (s : Nat) (h : 1 ≤ s ∧ s < gq) : gsec s = true := by
  unfold gsec
  rw [decide_eq_true h.1, decide_eq_true h.2]
  rfl
def pubV (s : Nat) : Nat := if gsec s = true then gpow 4 s else 0
def pubE (s : Nat) : Int := if gsec s = true then 0 else 13
theorem pubV_lt (s : Nat) : pubV s < gp := by
  unfold pubV
  split
  · exact gpow_lt _ _
  · exact gp_pos
/-- The bytes of a number of the group. -/
def gbytes (a : Nat) : List Int := be 8 (a : Int)
def shrL (s p : Nat) : List Int := if (gsec s && gel p) = true then gbytes (gpow p s) else []
def shrE (s p : Nat) : Int := if (gsec s && gel p) = true then 0 else 13
theorem gbytes_len (a : Nat) : (gbytes a).length = 8 := be_len 8 _
theorem gbytes_rng (a : Nat) : ∀ x ∈ gbytes a, 0 ≤ x ∧ x ≤ 255 := be_rng 8 _
theorem val_gbytes (a : Nat) (h : a < 18446744073709551616) : val (gbytes a) = (a : Int) := by
  unfold gbytes
  rw [val_be]
  omega
/-- What Parse answers. -/
def parV (xs : List Int) : Int := if xs.length = 8 ∧ gel (val xs).toNat = true then val xs else 0
def parE (xs : List Int) : Int := if xs.length = 8 then (if gel (val xs).toNat = true then 0 else 13) else 2
/-- A slice of bytes and an error are returned. -/
def ToGE (R : List Int) (E : Int) (w : World) (e : Ending) (w' : World) : Prop :=
  ∃ p' N c', e = .returned (.tuple #[.slice p' N c', .int .i64 E]) ∧ Byt w' p' N c' R ∧ Below w.heap.size w w'
/-- A slice of bytes is returned. -/
def ToG (R : List Int) (w : World) (e : Ending) (w' : World) : Prop :=
  ∃ p' N c', e = .returned (.slice p' N c') ∧ Byt w' p' N c' R ∧ Below w.heap.size w w'
theorem cast4 : ((4 : Nat) : Int) = 4 := rfl

set_option maxHeartbeats 800000 in
set_option maxRecDepth 100000 in
theorem sec_any (s : Nat) (w : World) : Calls Tryd.prog 67 #[.int .u64 s] w fun en w' => en = .returned (.bool (gsec s)) ∧ Below w.heap.size w w' := by
  by_cases h1 : 1 ≤ s
  · by_cases h2 : s < gq
    · rw [gsec_yes s ⟨h1, h2⟩]
      have h3 : (1 : Int) ≤ (s : Int) := by omega
      have h4 : (s : Int) < 2305843009213688669 := by unfold gq at h2; omega
      go_enter Tryd.func67, Tryd.ntmps67
      go_wp2
      go_ret
      exact ⟨rfl, Below.refl _ _⟩
    · rw [gsec_no s (by omega)]
      have h3 : (1 : Int) ≤ (s : Int) := by omega
      have h4 : ¬ (s : Int) < 2305843009213688669 := by unfold gq at h2; omega
      go_enter Tryd.func67, Tryd.ntmps67
      go_wp2
      go_ret
      exact ⟨rfl, Below.refl _ _⟩
  · rw [gsec_no s (by omega)]
    have h3 : ¬ (1 : Int) ≤ (s : Int) := by omega
    go_enter Tryd.func67, Tryd.ntmps67
    go_wp2
    go_ret
    exact ⟨rfl, Below.refl _ _⟩

set_option maxHeartbeats 800000 in
set_option maxRecDepth 100000 in
theorem pub_any (s : Nat) (hs : s < 18446744073709551616) (w : World) : Calls Tryd.prog 39 #[.int .u64 s] w fun en w' => en = .returned (.tuple #[.int .u64 ((pubV s : Nat) : Int), .int .i64 (pubE s)]) ∧ Below w.heap.size w w' := by
  have HS := hidden (sec_any s)
  have HP := hidden (fun W => gpow_any 4 s (by decide) hs W)
  rw [cast4] at HP
  unfold pubV pubE
  generalize gpow 4 s = g at *
  cases hg : gsec s with
  | true =>
    rw [hg] at HS
    rw [if_pos rfl, if_pos rfl]
    clear hg
    go_enter Tryd.func39, Tryd.ntmps39
    go_wp2_with (first
      | (go_at_call 67; (with_reducible refine (HS.out _).mono ?_); rintro en w2 ⟨rfl, hb⟩; have HB := hidden hb; clear hb)
      | (go_at_call 44; (with_reducible refine (HP.out _).mono ?_); rintro en w3 ⟨rfl, hb⟩; have HB2 := hidden (HB.out.trans (hb.mono HB.out.size)); clear hb)
      | fail)
    go_ret2
    exact ⟨rfl, HB2.out⟩
  | false =>
    rw [hg] at HS
    rw [if_neg (by decide), if_neg (by decide)]
    clear hg
    go_enter Tryd.func39, Tryd.ntmps39
    go_wp2_with (first
      | (go_at_call 67; (with_reducible refine (HS.out _).mono ?_); rintro en w2 ⟨rfl, hb⟩; have HB := hidden hb; clear hb)
      | fail)
    go_ret2
    exact ⟨rfl, HB.out⟩

set_option maxHeartbeats 800000 in
set_option maxRecDepth 100000 in
theorem gbytes_any (a : Nat) (ha : a < 18446744073709551616) (w : World) : Calls Tryd.prog 42 #[.int .u64 a] w (ToG (gbytes a) w) := by
  have HP := hidden (fun W => put_yes none 0 0 [] W (Byt.nil _ _ _ (Nat.zero_le _)) (by omega) (a : Int) (by omega) 8 (by omega) (by omega))
  rw [List.nil_append, show be 8 (a : Int) = gbytes a from rfl, show ((8 : Nat) : Int) = 8 from rfl] at HP
  have hl := Is.mk (gbytes_len a)
  have HR := hidden (gbytes_rng a)
  generalize gbytes a = R at *
  go_enter Tryd.func42, Tryd.ntmps42
  go_wp2_with (first
    | (go_at_call 61; (with_reducible refine (HP.out _).mono ?_); rintro en w2 ⟨v, rfl, ho, hb⟩; obtain ⟨q, d, rfl, hy⟩ := ho.byt HR.out; have HB := hidden hb; have HY := hidden hy; clear ho hb hy)
    | fail)
  go_ret
  exact ⟨_, _, _, rfl, HY.out, HB.out⟩

set_option maxHeartbeats 800000 in
set_option maxRecDepth 100000 in
theorem rsec_any (s : Nat) (w : World) : Calls Tryd.prog 32 #[.int .u64 s] w fun en w' => en = .returned (.bool (gsec s)) ∧ Below w.heap.size w w' := by
  by_cases h1 : 1 ≤ s
  · by_cases h2 : s < gq
    · rw [gsec_yes s ⟨h1, h2⟩]
      have h3 : (1 : Int) ≤ (s : Int) := by omega
      have h4 : (s : Int) < 2305843009213688669 := by unfold gq at h2; omega
      go_enter Tryd.func32, Tryd.ntmps32
      go_wp2
      go_ret
      exact ⟨rfl, Below.refl _ _⟩
    · rw [gsec_no s (by omega)]
      have h3 : (1 : Int) ≤ (s : Int) := by omega
      have h4 : ¬ (s : Int) < 2305843009213688669 := by unfold gq at h2; omega
      go_enter Tryd.func32, Tryd.ntmps32
      go_wp2
      go_ret
      exact ⟨rfl, Below.refl _ _⟩
  · rw [gsec_no s (by omega)]
    have h3 : ¬ (1 : Int) ≤ (s : Int) := by omega
    go_enter Tryd.func32, Tryd.ntmps32
    go_wp2
    go_ret
    exact ⟨rfl, Below.refl _ _⟩

set_option maxHeartbeats 800000 in
set_option maxRecDepth 100000 in
theorem rpub_any (s : Nat) (hs : s < 18446744073709551616) (w : World) : Calls Tryd.prog 9 #[.int .u64 s] w fun en w' => en = .returned (.tuple #[.int .u64 ((pubV s : Nat) : Int), .int .i64 (pubE s)]) ∧ Below w.heap.size w w' := by
  have HS := hidden (rsec_any s)
  have HP := hidden (fun W => rgpow_any 4 s (by decide) hs W)
  rw [cast4] at HP
  unfold pubV pubE
  generalize gpow 4 s = g at *
  cases hg : gsec s with
  | true =>
    rw [hg] at HS
    rw [if_pos rfl, if_pos rfl]
    clear hg
    go_enter Tryd.func9, Tryd.ntmps9
    go_wp2_with (first
      | (go_at_call 32; (with_reducible refine (HS.out _).mono ?_); rintro en w2 ⟨rfl, hb⟩; have HB := hidden hb; clear hb)
      | (go_at_call 33; (with_reducible refine (HP.out _).mono ?_); rintro en w3 ⟨rfl, hb⟩; have HB2 := hidden (HB.out.trans (hb.mono HB.out.size)); clear hb)
      | fail)
    go_ret2
    exact ⟨rfl, HB2.out⟩
  | false =>
    rw [hg] at HS
    rw [if_neg (by decide), if_neg (by decide)]
    clear hg
    go_enter Tryd.func9, Tryd.ntmps9
    go_wp2_with (first
      | (go_at_call 32; (with_reducible refine (HS.out _).mono ?_); rintro en w2 ⟨rfl, hb⟩; have HB := hidden hb; clear hb)
      | fail)
    go_ret2
    exact ⟨rfl, HB.out⟩

set_option maxHeartbeats 800000 in
set_option maxRecDepth 100000 in
theorem rgbytes_any (a : Nat) (ha : a < 18446744073709551616) (w : World) : Calls Tryd.prog 36 #[.int .u64 a] w (ToG (gbytes a) w) := by
  have HP := hidden (fun W => rput_yes none 0 0 [] W (Byt.nil _ _ _ (Nat.zero_le _)) (by omega) (a : Int) (by omega) 8 (by omega) (by omega))
  rw [List.nil_append, show be 8 (a : Int) = gbytes a from rfl, show ((8 : Nat) : Int) = 8 from rfl] at HP
  have hl := Is.mk (gbytes_len a)
  have HR := hidden (gbytes_rng a)
  generalize gbytes a = R at *
  go_enter Tryd.func36, Tryd.ntmps36
  go_wp2_with (first
    | (go_at_call 63; (with_reducible refine (HP.out _).mono ?_); rintro en w2 ⟨v, rfl, ho, hb⟩; obtain ⟨q, d, rfl, hy⟩ := ho.byt HR.out; have HB := hidden hb; have HY := hidden hy; clear ho hb hy)
    | fail)
  go_ret
  exact ⟨_, _, _, rfl, HY.out, HB.out⟩

set_option maxHeartbeats 800000 in
set_option maxRecDepth 100000 in
theorem secret_any (W w : World) (k : Nat) (h : Cod W w k) :
    Calls Tryd.prog 8 #[.pointer (some ⟨k, 0, none⟩)] w fun e w' => (∃ s : Nat, e = .returned (.int .u64 s) ∧ 1 ≤ s ∧ s < gq) ∧ Cod W w' k ∧ w.grownBy w' (some k) := by
  have HW := hidden (word_any W w k h)
  clear h
  go_enter Tryd.func8, Tryd.ntmps8
  go_wp2_with (first
    | (go_at_call 19; (with_reducible refine (HW.out).mono ?_); rintro e w2 ⟨r, rfl, r0, r1, hc, hg⟩; have HC := hidden hc; have HG := hidden hg; clear hc hg; have hw : IntKind.u64.wrap (1 + r % 2305843009213688668) = 1 + r % 2305843009213688668 := wraps_u64 _ (by omega) (by omega))
    | fail)
  go_ret
  refine ⟨⟨(1 + r % 2305843009213688668).toNat, ?_, by omega, by unfold gq; omega⟩, HC.out, HG.out⟩
  rw [Int.toNat_of_nonneg (by omega)]
  rfl

end Go.Proofs.YtilnbmlbahflkaaDoor

namespace Go.Proofs.YtilnbmlbahflkaaDoor
open Go.RowKit
set_option linter.unusedVariables false

/-- The number of the first eight bytes. -/
def num8 (xs : List Int) : Nat := (val (xs.take 8)).toNat
theorem num8_int (xs : List Int) (h : ∀ x ∈ xs, 0 ≤ x ∧ x ≤ 255) : ((num8 xs : Nat) : Int) = val (xs.take 8) ∧ num8 xs < 18446744073709551616 := by
  have h1 := val_bd (xs.take 8) (rng_take h 8)
  have h2 : (256 : Int) ^ (xs.take 8).length ≤ 256 ^ 8 := pow256_le (by simp; omega)
  have h3 : (256 : Int) ^ 8 = 18446744073709551616 := by decide
  unfold num8
  omega
theorem num8_gbytes (a : Nat) (h : a < 18446744073709551616) (r : List Int) : num8 (gbytes a ++ r) = a := by
  unfold num8
  rw [List.take_append_of_le_length (by rw [gbytes_len]; exact Nat.le_refl _), List.take_of_length_le (by rw [gbytes_len]; exact Nat.le_refl _), val_gbytes a h]
  omega
/-- The number e that bytes have with r for the public number y. -/
def chal (r y : Nat) (m : List Int) : Nat := num8 (shaS (gbytes r ++ (gbytes y ++ m))) % gq
def kS (x : Nat) (m : List Int) : Nat := 1 + num8 (hmacS (gbytes x) m) % (gq - 1)
def eS (x : Nat) (m : List Int) : Nat := chal (gpow 4 (kS x m)) (pubV x) m
def sS (x : Nat) (m : List Int) : Nat := (kS x m + eS x m * x) % gq
def sigL (x : Nat) (m : List Int) : List Int := if gsec x = true then gbytes (eS x m) ++ gbytes (sS x m) else []
theorem gq_pos : 0 < gq := by decide
theorem chal_lt (r y : Nat) (m : List Int) : chal r y m < gq := Nat.mod_lt _ gq_pos
theorem eS_lt (x : Nat) (m : List Int) : eS x m < gq := chal_lt _ _ _
theorem sS_lt (x : Nat) (m : List Int) : sS x m < gq := Nat.mod_lt _ gq_pos
theorem kS_lt (x : Nat) (m : List Int) : kS x m < gq ∧ 1 ≤ kS x m := by
  unfold kS
  have h1 : num8 (hmacS (gbytes x) m) % (gq - 1) < gq - 1 := Nat.mod_lt _ (by decide)
  have h2 : 1 ≤ gq := by decide
  omega
theorem gq_big : gq < 18446744073709551616 := by decide
theorem gp_big : gp < 18446744073709551616 := by decide
/-- What Verify answers. -/
def verE (y : Nat) (m sig : List Int) : Int :=
  if gel y = false then 13
  else if sig.length ≠ 16 then 2
  else if gq ≤ num8 sig ∨ gq ≤ num8 (sig.drop 8) then 5
  else if num8 sig ≠ chal (gmul (gpow 4 (num8 (sig.drop 8))) (gpow y (gq - num8 sig))) y m then 18 else 0
theorem gpow4_mod (a : Nat) : gpow 4 (a % gq) = gpow 4 a := by
  have h : a % gq + gq * (a / gq) = a := Nat.mod_add_div a gq
  have e : gpow 4 (a % gq + gq * (a / gq)) = gpow 4 (a % gq) := by
    rw [← gpow_add, ← gpow_pow, gen_q]
    have h1 : gpow 1 (a / gq) = 1 := by unfold gpow; rw [Nat.one_pow]; decide
    rw [h1, gmul_one _ (gpow_lt _ _)]
  rw [h] at e
  exact e.symm
theorem ver_sign (x : Nat) (h1 : 1 ≤ x) (h2 : x < gq) (m : List Int) : verE (pubV x) m (sigL x m) = 0 := by
  have hs := gsec_yes x ⟨h1, h2⟩
  have hp : pubV x = gpow 4 x := by unfold pubV; rw [if_pos hs]
  have hg : gel (pubV x) = true := by rw [hp]; exact gel_secret x h1 h2
  have hl : sigL x m = gbytes (eS x m) ++ gbytes (sS x m) := by unfold sigL; rw [if_pos hs]
  have he := eS_lt x m
  have hss := sS_lt x m
  have hq := gq_big
  have n1 : num8 (sigL x m) = eS x m := by rw [hl]; exact num8_gbytes _ (by omega) _
  have n2 : num8 ((sigL x m).drop 8) = sS x m := by
    rw [hl, List.drop_append_of_le_length (by rw [gbytes_len]; exact Nat.le_refl _), List.drop_of_length_le (by rw [gbytes_len]; exact Nat.le_refl _), List.nil_append]
    have := num8_gbytes (sS x m) (by omega) []
    rw [List.append_nil] at this
    exact this
  have hlen : (sigL x m).length = 16 := by rw [hl, List.length_append, gbytes_len, gbytes_len]
  unfold verE
  rw [if_neg (by rw [hg]; decide), if_neg (by rw [hlen]; decide), n1, n2, if_neg (by omega)]
  have hr : gmul (gpow 4 (sS x m)) (gpow (pubV x) (gq - eS x m)) = gpow 4 (kS x m) := by
    rw [hp, gpow_pow, gpow_add, ← gpow4_mod (sS x m + x * (gq - eS x m)), ← gpow4_mod (kS x m)]
    congr 1
    unfold sS
    rw [Nat.mod_add_mod]
    have e1 : kS x m + eS x m * x + x * (gq - eS x m) = kS x m + x * gq := by
      rw [Nat.mul_comm (eS x m) x, Nat.add_assoc, ← Nat.mul_add, show eS x m + (gq - eS x m) = gq by omega]
    rw [e1, Nat.add_mul_mod_self_right]
  rw [hr, if_neg (by unfold eS; exact fun h => h rfl)]
end Go.Proofs.YtilnbmlbahflkaaDoor

namespace Go.Proofs.YtilnbmlbahflkaaDoor
open Go.RowKit
set_option linter.unusedVariables false

/-- The result of a function that returns bytes and a bool. -/
def BytesOk (w : World) (r : List Int × Bool) (e : Ending) (w' : World) : Prop := ∃ p n c, e = .returned (.tuple #[.slice p n c, .bool r.2]) ∧ Byt w' p n c r.1 ∧ Below w.heap.size w w'

/-- The same; the bytes lie in a block of bytes of the call's own. -/
def BodOk (w : World) (r : List Int × Bool) (e : Ending) (w' : World) : Prop := ∃ p n c, e = .returned (.tuple #[.slice p n c, .bool r.2]) ∧ Bod w' w.heap.size p n c r.1 ∧ Below w.heap.size w w'

set_option maxHeartbeats 400000 in
theorem slice_bod (p : Option Addr) (n c : Nat) (xs : List Int) (w : World) (h : Byt w p n c xs) (hb : n ≤ 140737488355328) (a k : Int) (ha : -9223372036854775808 ≤ a ∧ a ≤ 9223372036854775807) (hk : -9223372036854775808 ≤ k ∧ k ≤ 9223372036854775807) :
    Calls Tryd.prog 78 #[.slice p n c, .int .i64 a, .int .i64 k] w (BodOk w (pieceR xs a k)) := by
  have hn := h.le
  by_cases hi : 0 ≤ a ∧ 0 ≤ k ∧ a + k ≤ n
  · obtain ⟨a, rfl⟩ := Int.eq_ofNat_of_zero_le hi.1
    obtain ⟨k, rfl⟩ := Int.eq_ofNat_of_zero_le hi.2.1
    have hin : a + k ≤ n := by omega
    have hcap := h.cap
    have hp := h.part a (a + k) (by omega) hin
    rw [pieceR, if_pos (by have := h.len; omega)]
    have e1 : (xs.take (a + k)).drop a = (xs.drop a).take k := by rw [List.drop_take]; congr 1; omega
    have hr : ∀ x ∈ (xs.drop a).take k, 0 ≤ x ∧ x ≤ 255 := rng_take (rng_drop h.rng _) _
    rw [e1] at hp
    rw [show a + k - a = k by omega] at hp
    have HR := hidden hr
    clear h hi e1 hr
    by_cases hca : c = a
    · subst hca
      obtain rfl : k = 0 := by omega
      rw [if_pos rfl, Nat.sub_self] at hp
      have HB := hidden hp
      clear hp
      go_enter Tryd.func78, Tryd.ntmps78
      go_wp2_with (first | (go_at_call 84; refine (inside_yes _ _ _ _ _ _ (by omega) (by omega) (by omega) (by omega)).mono ?_; rintro e w' ⟨rfl, rfl⟩))
      refine (clone_any _ _ _ _ _ HB.out (by omega)).mono ?_
      rintro e w' ⟨v, rfl, hown, hbel⟩
      go_wp2
      obtain ⟨p', c', rfl, hby⟩ := hown.bod rfl HR.out
      go_ret2
      exact ⟨p', _, c', rfl, hby, hbel⟩
    · rw [if_neg hca] at hp
      have HB := hidden hp
      clear hp
      go_enter Tryd.func78, Tryd.ntmps78
      go_wp2_with (first | (go_at_call 84; refine (inside_yes _ _ _ _ _ _ (by omega) (by omega) (by omega) (by omega)).mono ?_; rintro e w' ⟨rfl, rfl⟩) | (go_at_call 81; refine (clone_any _ _ _ _ _ HB.out (by omega)).mono ?_; rintro e w' ⟨v, rfl, hown, hbel⟩))
      obtain ⟨p', c', rfl, hby⟩ := hown.bod rfl HR.out
      go_ret2
      exact ⟨p', _, c', rfl, hby, hbel⟩
  · rw [pieceR, if_neg (by have := h.len; omega)]
    clear h
    go_enter Tryd.func78, Tryd.ntmps78
    go_wp2_with (first | (go_at_call 84; refine (inside_no _ _ _ _ _ _ (by omega) (by omega) (by omega)).mono ?_; rintro e w' ⟨rfl, rfl⟩))
    go_ret2
    exact ⟨_, _, _, rfl, Bod.nil _ _ _ _ (Nat.zero_le _), Below.refl _ _⟩

end Go.Proofs.YtilnbmlbahflkaaDoor

namespace Go.Proofs.YtilnbmlbahflkaaDoor
open Go.RowKit
set_option linter.unusedVariables false

theorem toList_nums (xs : List Int) : (strOfNums xs).toList = xs.map fun n => UInt8.ofNat n.toNat := by
  unfold ByteArray.toList
  rw [ByteArray.toList_loop_eq _ _ 0 [] rfl (Nat.zero_le _)]
  rfl
theorem strOfNums_inj : ∀ (xs ys : List Int), (∀ x ∈ xs, 0 ≤ x ∧ x ≤ 255) → (∀ x ∈ ys, 0 ≤ x ∧ x ≤ 255) → (strOfNums xs).toList = (strOfNums ys).toList → xs = ys := by
  suffices h : ∀ (xs ys : List Int), (∀ x ∈ xs, 0 ≤ x ∧ x ≤ 255) → (∀ x ∈ ys, 0 ≤ x ∧ x ≤ 255) → (xs.map fun n => UInt8.ofNat n.toNat) = (ys.map fun n => UInt8.ofNat n.toNat) → xs = ys by
    intro xs ys hx hy he
    refine h xs ys hx hy ?_
    rw [← toList_nums, ← toList_nums, he]
  intro xs
  induction xs with
  | nil => intro ys _ _ h; cases ys with
    | nil => rfl
    | cons y ys => simp at h
  | cons x xs ih =>
    intro ys hx hy h
    cases ys with
    | nil => simp at h
    | cons y ys =>
      simp only [List.map_cons, List.cons.injEq] at h
      have h1 := hx x (by simp)
      have h2 := hy y (by simp)
      have h3 := congrArg UInt8.toNat h.1
      simp only [UInt8.toNat_ofNat'] at h3
      rw [show x = y by omega, ih ys (fun z hz => hx z (by simp [hz])) (fun z hz => hy z (by simp [hz])) h.2]

theorem conv_byt {P : Program} {w : World} {p : Option Addr} {n c : Nat} {xs : List Int} (h : Byt w p n c xs) (src e dst : TypeId) (hs : P.underlying src = some (.slice e)) (he : P.underlying e = some (.int .u8)) (hd : P.underlying dst = some .string) :
    (convert src dst (.slice p n c)).run P w = .ok (.string (strOfNums xs)) w := by
  have hl := h.len
  rcases Nat.eq_zero_or_pos n with h0 | h0
  · subst h0
    obtain rfl : xs = [] := List.eq_nil_of_length_eq_zero hl
    rw [run_convert_bytes_string w src dst e _ 0 c hs he hd]
    cases p <;> simp [Conv.bytesToString, loadCells]
    all_goals rfl
  · obtain ⟨b, o, rfl, hc⟩ := h.at_ h0
    exact run_convert_bytes_arg w src e hs he b o n c xs hl hc dst hd

set_option maxHeartbeats 400000 in
theorem bytesEqual_any (p q : Option Addr) (n c m d : Nat) (xs ys : List Int) (w : World) (h : Byt w p n c xs) (k : Byt w q m d ys) :
    Calls Tryd.prog 88 #[.slice p n c, .slice q m d] w fun e w' => e = .returned (.bool (decide (xs = ys))) ∧ w = w' := by
  have h1 := conv_byt (P := Tryd.prog) h 22 5 9 Tryd.underlying22 Tryd.underlying5 Tryd.underlying9
  have h2 := conv_byt (P := Tryd.prog) k 22 5 9 Tryd.underlying22 Tryd.underlying5 Tryd.underlying9
  have he : decide (xs = ys) = ((strOfNums xs).toList == (strOfNums ys).toList) := by
    rw [Bool.eq_iff_iff, decide_eq_true_eq, beq_iff_eq]
    exact ⟨fun e => by rw [e], strOfNums_inj xs ys h.rng k.rng⟩
  rw [he]
  clear he h k
  go_enter Tryd.func88, Tryd.ntmps88
  go_wp2
  go_ret
  exact ⟨rfl, rfl⟩

theorem equal_any (p q : Option Addr) (n c m d : Nat) (xs ys : List Int) (w : World) (h : Byt w p n c xs) (k : Byt w q m d ys) :
    Calls Tryd.prog 79 #[.slice p n c, .slice q m d] w fun e w' => e = .returned (.bool (decide (xs = ys))) ∧ w = w' := by
  have HC := hidden (bytesEqual_any p q n c m d xs ys w h k)
  clear h k
  go_enter Tryd.func79, Tryd.ntmps79
  go_wp2_with (go_at_call 88; refine HC.out.mono ?_; rintro e w' ⟨rfl, rfl⟩)
  go_ret
  exact ⟨rfl, rfl⟩
end Go.Proofs.YtilnbmlbahflkaaDoor

namespace Go.Proofs.YtilnbmlbahflkaaDoor
open Go.RowKit
set_option linter.unusedVariables false

set_option maxHeartbeats 800000 in
theorem rcompare_any (p q : Option Addr) (n c m d : Nat) (xs ys : List Int) (w : World) (h : Byt w p n c xs) (k : Byt w q m d ys) :
    Calls Tryd.prog 47 #[.slice p n c, .slice q m d] w fun e w' => e = .returned (.int .i64 (cmpR xs ys)) ∧ ∃ r, w' = w.drewN r := by
  have hln := h.le
  have hlm := k.le
  have HX := hidden h.len
  have HY := hidden k.len
  have HC := hidden (fun j (hj : j < n) => (show ∃ b o, p = some ⟨b, o, none⟩ ∧ w.cell? ⟨b, o + j, none⟩ = some (.int .u8 (xs.getD j 0)) by
    obtain ⟨b, o, e, hc⟩ := h.at_ (by omega)
    exact ⟨b, o, e, hc j hj⟩))
  have HD := hidden (fun j (hj : j < m) => (show ∃ b o, q = some ⟨b, o, none⟩ ∧ w.cell? ⟨b, o + j, none⟩ = some (.int .u8 (ys.getD j 0)) by
    obtain ⟨b, o, e, hc⟩ := k.at_ (by omega)
    exact ⟨b, o, e, hc j hj⟩))
  have HR := hidden h.rng
  have HS := hidden k.rng
  clear h k
  go_enter Tryd.func47, Tryd.ntmps47
  go_wp2
  go_loopw [5] (fun i wr => ∃ j : Nat, j ≤ n ∧ j ≤ m ∧ i = .int .i64 j ∧ cmpR xs ys = cmpR (xs.drop j) (ys.drop j) ∧ ∃ r, wr = w.drewN r) (fun i _ => n - (intOf i).toNat)
  case atStart => exact ⟨0, by omega, by omega, rfl, rfl, 0, rfl⟩
  case round =>
    obtain ⟨j, hjn, hjm, rfl, he, r, rfl⟩ := hrel
    by_cases h1 : j < n
    · by_cases h2 : j < m
      · obtain ⟨b, o, rfl, hc1⟩ := HC.out j h1
        obtain ⟨b', o', rfl, hc2⟩ := HD.out j h2
        have hs := cmpR_step xs ys j (by rw [HX.out]; exact h1) (by rw [HY.out]; exact h2) he
        have r1 := rng_getD HR.out j
        have r2 := rng_getD HS.out j
        clear he
        generalize xs.getD j 0 = x at *
        generalize ys.getD j 0 = y at *
        by_cases hl : x < y
        · have E := hidden (hs.1 hl)
          clear hs
          go_wp2
          go_quiet (fail)
          go_wp2
          go_ret
          refine ⟨by rw [E.out]; rfl, ?_⟩
          simp only [World.drewN_drewN]
          exact ⟨_, rfl⟩
        · by_cases hg : y < x
          · have E := hidden (hs.2.1 hg)
            clear hs
            go_wp2
            go_quiet (fail)
            go_wp2
            go_quiet (fail)
            go_wp2
            go_ret
            refine ⟨by rw [E.out]; rfl, ?_⟩
            simp only [World.drewN_drewN]
            exact ⟨_, rfl⟩
          · have E := hidden (hs.2.2 (by omega))
            clear hs
            go_wp2
            go_quiet (fail)
            go_wp2
            go_quiet (fail)
            go_wp2
            go_roundw
            case rel => exact ⟨j + 1, by omega, by omega, by go_num, E.out, _, rfl⟩
            case measure => simp [intOf]; omega
      · have E := hidden (cmpR_end xs ys j (by rw [HX.out, HY.out]; omega) (by rw [HX.out]; omega) (by rw [HY.out]; omega) he)
        clear he
        obtain rfl : j = m := by omega
        have E1 := hidden (E.out.2.1 (by rw [HX.out, HY.out]; omega))
        clear E HC HD
        go_wp2
        go_ret
        exact ⟨by rw [E1.out]; rfl, _, rfl⟩
    · have E := hidden (cmpR_end xs ys j (by rw [HX.out, HY.out]; omega) (by rw [HX.out]; omega) (by rw [HY.out]; omega) he)
      clear he
      obtain rfl : j = n := by omega
      by_cases h2 : j < m
      · have E1 := hidden (E.out.1 (by rw [HX.out, HY.out]; omega))
        clear E HC HD
        go_wp2
        go_ret
        exact ⟨by rw [E1.out]; rfl, _, rfl⟩
      · obtain rfl : j = m := by omega
        have E1 := hidden (E.out.2.2 (by rw [HX.out, HY.out]))
        clear E HC HD
        go_wp2
        go_ret
        exact ⟨by rw [E1.out]; rfl, _, rfl⟩

set_option maxHeartbeats 400000 in
theorem requal_any (p q : Option Addr) (n c m d : Nat) (xs ys : List Int) (w : World) (h : Byt w p n c xs) (k : Byt w q m d ys) :
    Calls Tryd.prog 12 #[.slice p n c, .slice q m d] w fun e w' => e = .returned (.bool (decide (xs = ys))) ∧ ∃ r, w' = w.drewN r := by
  have HC := hidden (rcompare_any p q n c m d xs ys w h k)
  have he : decide (xs = ys) = (cmpR xs ys == 0) := by
    rw [Bool.eq_iff_iff, decide_eq_true_eq, beq_iff_eq]
    exact ⟨fun e => by rw [e, cmpR_refl], cmpR_eq xs ys⟩
  have HE := hidden he
  clear h k he
  go_enter Tryd.func12, Tryd.ntmps12
  go_wp2_with (go_at_call 47; refine HC.out.mono ?_; rintro e w' ⟨rfl, r, rfl⟩)
  go_ret
  exact ⟨by rw [HE.out]; rfl, _, rfl⟩
end Go.Proofs.YtilnbmlbahflkaaDoor

namespace Go.Proofs.YtilnbmlbahflkaaDoor
open Go.RowKit

abbrev listK : List (String × DataW Unit) := [("ipsecgate/sha256.constants", Rows.laid_ipsecgate_sha256_constants)]
abbrev stepsK : Nat := 19
theorem gK : Tryd.prog.globalNamed "ipsecgate/sha256.constants" = some 2 := by kernel_rfl
theorem tK : (Tryd.prog.globals[2]?).map (·.type) = some 109 := by kernel_rfl
theorem cellsU : Tryd.prog.cellsOf 103 = 1 := by kernel_rfl
theorem cells64 : Tryd.prog.cellsOf 109 = 64 := by kernel_rfl
theorem laidK {W : World} (h : laidMetH Tryd.prog listK W) : KAt W := by
  rw [MakeChecks.laidMetH_plain _ _ _ (by kernel_rfl)] at h
  have h' : laidMet Tryd.prog [("ipsecgate/sha256.constants", Lib.tabData .u32 kTab)] W := h
  have hT := Lib.tabIs_of_head gK tK Tryd.underlying109 Tryd.underlying103 cellsU cells64 h'
  have hc := fun j (hj : j < 64) => hT.cell gK j (by rw [kTab_len]; exact hj)
  exact ⟨hc, World.block_lt_of_cell? W _ (hc 0 (by omega))⟩
theorem doorK (os : Os) (args : Array Value) : laidMetH Tryd.prog listK ((World.doorLaid Tryd.prog stepsK os).forCall (fun _ _ => 0) ⟨#[], args, []⟩).memory :=
  laidMetH_of_parts3 (fuel := 8) (laidMet_of_run' 8 (by kernel_rfl) (by kernel_rfl)) (by kernel_rfl) (by kernel_rfl)
end Go.Proofs.YtilnbmlbahflkaaDoor
