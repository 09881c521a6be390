/-
  Public numbers, shared secrets and the bytes of elements: the program's and the document's; a drawn secret; the chapter's example.
-/
import Derived.Test.YtilnbmlbahflkaaDoorSGrpMul
import Derived.Test.YtilnbmlbahflkaaDoorSWPut
import Derived.Test.YtilnbmlbahflkaaDoorSRPut
import Derived.Test.YtilnbmlbahflkaaDoorSWNumber
import Derived.Test.YtilnbmlbahflkaaDoorSRNumber
import Derived.Test.YtilnbmlbahflkaaDoorSWord
import Derived.Test.YtilnbmlbahflkaaDoorSOwnB
namespace Go.Proofs.YtilnbmlbahflkaaDoor
open Go.RowKit
set_option linter.unusedVariables false

/-- A number is a secret. -/
def gsec (s : Nat) : Bool := decide (1 ≤ s) && decide (s < gq)
theorem gsec_no (s : Nat) (h : ¬ (1 ≤ s ∧ s < gq)) : gsec s = false := by
  unfold gsec
  simp only [Bool.and_eq_false_iff, decide_eq_false_iff_not]
  omega
theorem gsec_yes (s : Nat) (h : 1 ≤ s ∧ s < gq) : gsec s = true := by
  unfold gsec
  rw [decide_eq_true h.1, decide_eq_true h.2]
  rfl
def pubV (s : Nat) : Nat := if gsec s = true then gpow 4 s else 0
def pubE (s : Nat) : Int := if gsec s = true then 0 else 13
theorem pubV_lt (s : Nat) : pubV s < gp := by
  unfold pubV
  split
  · exact gpow_lt _ _
  · exact gp_pos
/-- The bytes of a number of the group. -/
def gbytes (a : Nat) : List Int := be 8 (a : Int)
def shrL (s p : Nat) : List Int := if (gsec s && gel p) = true then gbytes (gpow p s) else []
def shrE (s p : Nat) : Int := if (gsec s && gel p) = true then 0 else 13
theorem gbytes_len (a : Nat) : (gbytes a).length = 8 := be_len 8 _
theorem gbytes_rng (a : Nat) : ∀ x ∈ gbytes a, 0 ≤ x ∧ x ≤ 255 := be_rng 8 _
theorem val_gbytes (a : Nat) (h : a < 18446744073709551616) : val (gbytes a) = (a : Int) := by
  unfold gbytes
  rw [val_be]
  omega
/-- What Parse answers. -/
def parV (xs : List Int) : Int := if xs.length = 8 ∧ gel (val xs).toNat = true then val xs else 0
def parE (xs : List Int) : Int := if xs.length = 8 then (if gel (val xs).toNat = true then 0 else 13) else 2
/-- A slice of bytes and an error are returned. -/
def ToGE (R : List Int) (E : Int) (w : World) (e : Ending) (w' : World) : Prop :=
  ∃ p' N c', e = .returned (.tuple #[.slice p' N c', .int .i64 E]) ∧ Byt w' p' N c' R ∧ Below w.heap.size w w'
/-- A slice of bytes is returned. -/
def ToG (R : List Int) (w : World) (e : Ending) (w' : World) : Prop :=
  ∃ p' N c', e = .returned (.slice p' N c') ∧ Byt w' p' N c' R ∧ Below w.heap.size w w'
theorem cast4 : ((4 : Nat) : Int) = 4 := rfl

set_option maxHeartbeats 800000 in
set_option maxRecDepth 100000 in
theorem sec_any (s : Nat) (w : World) : Calls Tryd.prog 67 #[.int .u64 s] w fun en w' => en = .returned (.bool (gsec s)) ∧ Below w.heap.size w w' := by
  by_cases h1 : 1 ≤ s
  · by_cases h2 : s < gq
    · rw [gsec_yes s ⟨h1, h2⟩]
      have h3 : (1 : Int) ≤ (s : Int) := by omega
      have h4 : (s : Int) < 2305843009213688669 := by unfold gq at h2; omega
      go_enter Tryd.func67, Tryd.ntmps67
      go_wp2
      go_ret
      exact ⟨rfl, Below.refl _ _⟩
    · rw [gsec_no s (by omega)]
      have h3 : (1 : Int) ≤ (s : Int) := by omega
      have h4 : ¬ (s : Int) < 2305843009213688669 := by unfold gq at h2; omega
      go_enter Tryd.func67, Tryd.ntmps67
      go_wp2
      go_ret
      exact ⟨rfl, Below.refl _ _⟩
  · rw [gsec_no s (by omega)]
    have h3 : ¬ (1 : Int) ≤ (s : Int) := by omega
    go_enter Tryd.func67, Tryd.ntmps67
    go_wp2
    go_ret
    exact ⟨rfl, Below.refl _ _⟩

set_option maxHeartbeats 800000 in
set_option maxRecDepth 100000 in
theorem pub_any (s : Nat) (hs : s < 18446744073709551616) (w : World) : Calls Tryd.prog 39 #[.int .u64 s] w fun en w' => en = .returned (.tuple #[.int .u64 ((pubV s : Nat) : Int), .int .i64 (pubE s)]) ∧ Below w.heap.size w w' := by
  have HS := hidden (sec_any s)
  have HP := hidden (fun W => gpow_any 4 s (by decide) hs W)
  rw [cast4] at HP
  unfold pubV pubE
  generalize gpow 4 s = g at *
  cases hg : gsec s with
  | true =>
    rw [hg] at HS
    rw [if_pos rfl, if_pos rfl]
    clear hg
    go_enter Tryd.func39, Tryd.ntmps39
    go_wp2_with (first
      | (go_at_call 67; (with_reducible refine (HS.out _).mono ?_); rintro en w2 ⟨rfl, hb⟩; have HB := hidden hb; clear hb)
      | (go_at_call 44; (with_reducible refine (HP.out _).mono ?_); rintro en w3 ⟨rfl, hb⟩; have HB2 := hidden (HB.out.trans (hb.mono HB.out.size)); clear hb)
      | fail)
    go_ret2
    exact ⟨rfl, HB2.out⟩
  | false =>
    rw [hg] at HS
    rw [if_neg (by decide), if_neg (by decide)]
    clear hg
    go_enter Tryd.func39, Tryd.ntmps39
    go_wp2_with (first
      | (go_at_call 67; (with_reducible refine (HS.out _).mono ?_); rintro en w2 ⟨rfl, hb⟩; have HB := hidden hb; clear hb)
      | fail)
    go_ret2
    exact ⟨rfl, HB.out⟩

set_option maxHeartbeats 800000 in
set_option maxRecDepth 100000 in
theorem gbytes_any (a : Nat) (ha : a < 18446744073709551616) (w : World) : Calls Tryd.prog 42 #[.int .u64 a] w (ToG (gbytes a) w) := by
  have HP := hidden (fun W => put_yes none 0 0 [] W (Byt.nil _ _ _ (Nat.zero_le _)) (by omega) (a : Int) (by omega) 8 (by omega) (by omega))
  rw [List.nil_append, show be 8 (a : Int) = gbytes a from rfl, show ((8 : Nat) : Int) = 8 from rfl] at HP
  have hl := Is.mk (gbytes_len a)
  have HR := hidden (gbytes_rng a)
  generalize gbytes a = R at *
  go_enter Tryd.func42, Tryd.ntmps42
  go_wp2_with (first
    | (go_at_call 61; (with_reducible refine (HP.out _).mono ?_); rintro en w2 ⟨v, rfl, ho, hb⟩; obtain ⟨q, d, rfl, hy⟩ := ho.byt HR.out; have HB := hidden hb; have HY := hidden hy; clear ho hb hy)
    | fail)
  go_ret
  exact ⟨_, _, _, rfl, HY.out, HB.out⟩

set_option maxHeartbeats 800000 in
set_option maxRecDepth 100000 in
theorem rsec_any (s : Nat) (w : World) : Calls Tryd.prog 32 #[.int .u64 s] w fun en w' => en = .returned (.bool (gsec s)) ∧ Below w.heap.size w w' := by
  by_cases h1 : 1 ≤ s
  · by_cases h2 : s < gq
    · rw [gsec_yes s ⟨h1, h2⟩]
      have h3 : (1 : Int) ≤ (s : Int) := by omega
      have h4 : (s : Int) < 2305843009213688669 := by unfold gq at h2; omega
      go_enter Tryd.func32, Tryd.ntmps32
      go_wp2
      go_ret
      exact ⟨rfl, Below.refl _ _⟩
    · rw [gsec_no s (by omega)]
      have h3 : (1 : Int) ≤ (s : Int) := by omega
      have h4 : ¬ (s : Int) < 2305843009213688669 := by unfold gq at h2; omega
      go_enter Tryd.func32, Tryd.ntmps32
      go_wp2
      go_ret
      exact ⟨rfl, Below.refl _ _⟩
  · rw [gsec_no s (by omega)]
    have h3 : ¬ (1 : Int) ≤ (s : Int) := by omega
    go_enter Tryd.func32, Tryd.ntmps32
    go_wp2
    go_ret
    exact ⟨rfl, Below.refl _ _⟩

set_option maxHeartbeats 800000 in
set_option maxRecDepth 100000 in
theorem rpub_any (s : Nat) (hs : s < 18446744073709551616) (w : World) : Calls Tryd.prog 9 #[.int .u64 s] w fun en w' => en = .returned (.tuple #[.int .u64 ((pubV s : Nat) : Int), .int .i64 (pubE s)]) ∧ Below w.heap.size w w' := by
  have HS := hidden (rsec_any s)
  have HP := hidden (fun W => rgpow_any 4 s (by decide) hs W)
  rw [cast4] at HP
  unfold pubV pubE
  generalize gpow 4 s = g at *
  cases hg : gsec s with
  | true =>
    rw [hg] at HS
    rw [if_pos rfl, if_pos rfl]
    clear hg
    go_enter Tryd.func9, Tryd.ntmps9
    go_wp2_with (first
      | (go_at_call 32; (with_reducible refine (HS.out _).mono ?_); rintro en w2 ⟨rfl, hb⟩; have HB := hidden hb; clear hb)
      | (go_at_call 33; (with_reducible refine (HP.out _).mono ?_); rintro en w3 ⟨rfl, hb⟩; have HB2 := hidden (HB.out.trans (hb.mono HB.out.size)); clear hb)
      | fail)
    go_ret2
    exact ⟨rfl, HB2.out⟩
  | false =>
    rw [hg] at HS
    rw [if_neg (by decide), if_neg (by decide)]
    clear hg
    go_enter Tryd.func9, Tryd.ntmps9
    go_wp2_with (first
      | (go_at_call 32; (with_reducible refine (HS.out _).mono ?_); rintro en w2 ⟨rfl, hb⟩; have HB := hidden hb; clear hb)
      | fail)
    go_ret2
    exact ⟨rfl, HB.out⟩

set_option maxHeartbeats 800000 in
set_option maxRecDepth 100000 in
theorem rgbytes_any (a : Nat) (ha : a < 18446744073709551616) (w : World) : Calls Tryd.prog 36 #[.int .u64 a] w (ToG (gbytes a) w) := by
  have HP := hidden (fun W => rput_yes none 0 0 [] W (Byt.nil _ _ _ (Nat.zero_le _)) (by omega) (a : Int) (by omega) 8 (by omega) (by omega))
  rw [List.nil_append, show be 8 (a : Int) = gbytes a from rfl, show ((8 : Nat) : Int) = 8 from rfl] at HP
  have hl := Is.mk (gbytes_len a)
  have HR := hidden (gbytes_rng a)
  generalize gbytes a = R at *
  go_enter Tryd.func36, Tryd.ntmps36
  go_wp2_with (first
    | (go_at_call 63; (with_reducible refine (HP.out _).mono ?_); rintro en w2 ⟨v, rfl, ho, hb⟩; obtain ⟨q, d, rfl, hy⟩ := ho.byt HR.out; have HB := hidden hb; have HY := hidden hy; clear ho hb hy)
    | fail)
  go_ret
  exact ⟨_, _, _, rfl, HY.out, HB.out⟩

set_option maxHeartbeats 800000 in
set_option maxRecDepth 100000 in
theorem secret_any (W w : World) (k : Nat) (h : Cod W w k) :
    Calls Tryd.prog 8 #[.pointer (some ⟨k, 0, none⟩)] w fun e w' => (∃ s : Nat, e = .returned (.int .u64 s) ∧ 1 ≤ s ∧ s < gq) ∧ Cod W w' k ∧ w.grownBy w' (some k) := by
  have HW := hidden (word_any W w k h)
  clear h
  go_enter Tryd.func8, Tryd.ntmps8
  go_wp2_with (first
    | (go_at_call 19; (with_reducible refine (HW.out).mono ?_); rintro e w2 ⟨r, rfl, r0, r1, hc, hg⟩; have HC := hidden hc; have HG := hidden hg; clear hc hg; have hw : IntKind.u64.wrap (1 + r % 2305843009213688668) = 1 + r % 2305843009213688668 := wraps_u64 _ (by omega) (by omega))
    | fail)
  go_ret
  refine ⟨⟨(1 + r % 2305843009213688668).toNat, ?_, by omega, by unfold gq; omega⟩, HC.out, HG.out⟩
  rw [Int.toNat_of_nonneg (by omega)]
  rfl

end Go.Proofs.YtilnbmlbahflkaaDoor
