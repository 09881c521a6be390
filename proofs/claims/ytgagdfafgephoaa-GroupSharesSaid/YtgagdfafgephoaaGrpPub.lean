/-
  Public numbers, shared secrets and the bytes of elements: the program's and the document's; a drawn secret; the chapter's example.
-/
import Derived.Test.YtgagdfafgephoaaGrpMul
import Derived.Test.YtgagdfafgephoaaWPut
import Derived.Test.YtgagdfafgephoaaRPut
import Derived.Test.YtgagdfafgephoaaWNumber
import Derived.Test.YtgagdfafgephoaaRNumber
import Derived.Test.YtgagdfafgephoaaWord
import Derived.Test.YtgagdfafgephoaaOwnB
namespace Go.Proofs.Ytgagdfafgephoaa
open Go.RowKit
set_option linter.unusedVariables false

/-- A number is a secret. -/
def gsec (s : Nat) : Bool := decide (1 ≤ s) && decide (s < gq)
theorem gsec_no (s : Nat) (h : ¬ (1 ≤ s ∧ s < gq)) : gsec s = false := by
  unfold gsec
  simp only [Bool.and_eq_false_iff, decide_eq_false_iff_not]
  omega
theorem gsec_yes (s : Nat) (h : 1 ≤ s ∧ s < gq) : gsec s = true := by
  unfold gsec
  rw [decide_eq_true h.1, decide_eq_true h.2]
  rfl
def pubV (s : Nat) : Nat := if gsec s = true then gpow 4 s else 0
def pubE (s : Nat) : Int := if gsec s = true then 0 else 13
theorem pubV_lt (s : Nat) : pubV s < gp := by
  unfold pubV
  split
  · exact gpow_lt _ _
  · exact gp_pos
/-- The bytes of a number of the group. -/
def gbytes (a : Nat) : List Int := be 8 (a : Int)
def shrL (s p : Nat) : List Int := if (gsec s && gel p) = true then gbytes (gpow p s) else []
def shrE (s p : Nat) : Int := if (gsec s && gel p) = true then 0 else 13
theorem gbytes_len (a : Nat) : (gbytes a).length = 8 := be_len 8 _
theorem gbytes_rng (a : Nat) : ∀ x ∈ gbytes a, 0 ≤ x ∧ x ≤ 255 := be_rng 8 _
theorem val_gbytes (a : Nat) (h : a < 18446744073709551616) : val (gbytes a) = (a : Int) := by
  unfold gbytes
  rw [val_be]
  omega
/-- What Parse answers. -/
def parV (xs : List Int) : Int := if xs.length = 8 ∧ gel (val xs).toNat = true then val xs else 0
def parE (xs : List Int) : Int := if xs.length = 8 then (if gel (val xs).toNat = true then 0 else 13) else 2
/-- A slice of bytes and an error are returned. -/
def ToGE (R : List Int) (E : Int) (w : World) (e : Ending) (w' : World) : Prop :=
  ∃ p' N c', e = .returned (.tuple #[.slice p' N c', .int .i64 E]) ∧ Byt w' p' N c' R ∧ Below w.heap.size w w'
/-- A slice of bytes is returned. -/
def ToG (R : List Int) (w : World) (e : Ending) (w' : World) : Prop :=
  ∃ p' N c', e = .returned (.slice p' N c') ∧ Byt w' p' N c' R ∧ Below w.heap.size w w'
theorem cast4 : ((4 : Nat) : Int) = 4 := rfl

set_option maxHeartbeats 800000 in
set_option maxRecDepth 100000 in
theorem sec_any (s : Nat) (w : World) : Calls Try.prog 30 #[.int .u64 s] w fun en w' => en = .returned (.bool (gsec s)) ∧ Below w.heap.size w w' := by
  by_cases h1 : 1 ≤ s
  · by_cases h2 : s < gq
    · rw [gsec_yes s ⟨h1, h2⟩]
      have h3 : (1 : Int) ≤ (s : Int) := by omega
      have h4 : (s : Int) < 2305843009213688669 := by unfold gq at h2; omega
      go_enter Try.func30, Try.ntmps30
      go_wp2
      go_ret
      exact ⟨rfl, Below.refl _ _⟩
    · rw [gsec_no s (by omega)]
      have h3 : (1 : Int) ≤ (s : Int) := by omega
      have h4 : ¬ (s : Int) < 2305843009213688669 := by unfold gq at h2; omega
      go_enter Try.func30, Try.ntmps30
      go_wp2
      go_ret
      exact ⟨rfl, Below.refl _ _⟩
  · rw [gsec_no s (by omega)]
    have h3 : ¬ (1 : Int) ≤ (s : Int) := by omega
    go_enter Try.func30, Try.ntmps30
    go_wp2
    go_ret
    exact ⟨rfl, Below.refl _ _⟩

set_option maxHeartbeats 800000 in
set_option maxRecDepth 100000 in
theorem pub_any (s : Nat) (hs : s < 18446744073709551616) (w : World) : Calls Try.prog 18 #[.int .u64 s] w fun en w' => en = .returned (.tuple #[.int .u64 ((pubV s : Nat) : Int), .int .i64 (pubE s)]) ∧ Below w.heap.size w w' := by
  have HS := hidden (sec_any s)
  have HP := hidden (fun W => gpow_any 4 s (by decide) hs W)
  rw [cast4] at HP
  unfold pubV pubE
  generalize gpow 4 s = g at *
  cases hg : gsec s with
  | true =>
    rw [hg] at HS
    rw [if_pos rfl, if_pos rfl]
    clear hg
    go_enter Try.func18, Try.ntmps18
    go_wp2_with (first
      | (go_at_call 30; (with_reducible refine (HS.out _).mono ?_); rintro en w2 ⟨rfl, hb⟩; have HB := hidden hb; clear hb)
      | (go_at_call 11; (with_reducible refine (HP.out _).mono ?_); rintro en w3 ⟨rfl, hb⟩; have HB2 := hidden (HB.out.trans (hb.mono HB.out.size)); clear hb)
      | fail)
    go_ret2
    exact ⟨rfl, HB2.out⟩
  | false =>
    rw [hg] at HS
    rw [if_neg (by decide), if_neg (by decide)]
    clear hg
    go_enter Try.func18, Try.ntmps18
    go_wp2_with (first
      | (go_at_call 30; (with_reducible refine (HS.out _).mono ?_); rintro en w2 ⟨rfl, hb⟩; have HB := hidden hb; clear hb)
      | fail)
    go_ret2
    exact ⟨rfl, HB.out⟩

set_option maxHeartbeats 800000 in
set_option maxRecDepth 100000 in
theorem gbytes_any (a : Nat) (ha : a < 18446744073709551616) (w : World) : Calls Try.prog 22 #[.int .u64 a] w (ToG (gbytes a) w) := by
  have HP := hidden (fun W => put_yes none 0 0 [] W (Byt.nil _ _ _ (Nat.zero_le _)) (by omega) (a : Int) (by omega) 8 (by omega) (by omega))
  rw [List.nil_append, show be 8 (a : Int) = gbytes a from rfl, show ((8 : Nat) : Int) = 8 from rfl] at HP
  have hl := Is.mk (gbytes_len a)
  have HR := hidden (gbytes_rng a)
  generalize gbytes a = R at *
  go_enter Try.func22, Try.ntmps22
  go_wp2_with (first
    | (go_at_call 32; (with_reducible refine (HP.out _).mono ?_); rintro en w2 ⟨v, rfl, ho, hb⟩; obtain ⟨q, d, rfl, hy⟩ := ho.byt HR.out; have HB := hidden hb; have HY := hidden hy; clear ho hb hy)
    | fail)
  go_ret
  exact ⟨_, _, _, rfl, HY.out, HB.out⟩

set_option maxHeartbeats 1600000 in
set_option maxRecDepth 100000 in
theorem shr_any (s p : Nat) (hs : s < 18446744073709551616) (hp : p < 18446744073709551616) (w : World) : Calls Try.prog 19 #[.int .u64 s, .int .u64 p] w (ToGE (shrL s p) (shrE s p) w) := by
  have HS := hidden (sec_any s)
  have HE := hidden (gel_any p hp)
  have HP := hidden (gpow_any p s hp hs)
  have HY := hidden (gbytes_any (gpow p s) (Nat.lt_trans (gpow_lt _ _) (by decide)))
  unfold shrL shrE
  generalize gbytes (gpow p s) = R at *
  generalize gpow p s = g at *
  cases hg : gsec s with
  | false =>
    rw [hg] at HS
    rw [Bool.false_and, if_neg (by decide), if_neg (by decide)]
    clear hg
    go_enter Try.func19, Try.ntmps19
    go_wp2_with (first
      | (go_at_call 30; (with_reducible refine (HS.out _).mono ?_); rintro en w2 ⟨rfl, hb⟩; have HB := hidden hb; clear hb)
      | fail)
    go_ret2
    exact ⟨_, _, _, rfl, Byt.nil _ _ _ (Nat.zero_le _), HB.out⟩
  | true =>
    rw [hg] at HS
    rw [Bool.true_and]
    clear hg
    cases hg : gel p with
    | false =>
      rw [hg] at HE
      rw [if_neg (by decide), if_neg (by decide)]
      clear hg
      go_enter Try.func19, Try.ntmps19
      go_wp2_with (first
        | (go_at_call 30; (with_reducible refine (HS.out _).mono ?_); rintro en w2 ⟨rfl, hb⟩; have HB := hidden hb; clear hb)
        | (go_at_call 13; (with_reducible refine (HE.out _).mono ?_); rintro en w3 ⟨rfl, hb⟩; have HB2 := hidden (HB.out.trans (hb.mono HB.out.size)); clear hb)
        | fail)
      go_ret2
      exact ⟨_, _, _, rfl, Byt.nil _ _ _ (Nat.zero_le _), HB2.out⟩
    | true =>
      rw [hg] at HE
      rw [if_pos rfl, if_pos rfl]
      clear hg
      go_enter Try.func19, Try.ntmps19
      go_wp2_with (first
        | (go_at_call 30; (with_reducible refine (HS.out _).mono ?_); rintro en w2 ⟨rfl, hb⟩; have HB := hidden hb; clear hb)
        | (go_at_call 13; (with_reducible refine (HE.out _).mono ?_); rintro en w3 ⟨rfl, hb⟩; have HB2 := hidden (HB.out.trans (hb.mono HB.out.size)); clear hb)
        | (go_at_call 11; (with_reducible refine (HP.out _).mono ?_); rintro en w4 ⟨rfl, hb⟩; have HB3 := hidden (HB2.out.trans (hb.mono HB2.out.size)); clear hb)
        | (go_at_call 22; (with_reducible refine (HY.out _).mono ?_); rintro en w5 ⟨q, N, d, rfl, hy, hb⟩; have HB4 := hidden (HB3.out.trans (hb.mono HB3.out.size)); have HZ := hidden hy; clear hb hy)
        | fail)
      go_ret2
      exact ⟨_, _, _, rfl, HZ.out, HB4.out⟩

set_option maxHeartbeats 1600000 in
set_option maxRecDepth 100000 in
theorem gparse_any (p : Option Addr) (n c : Nat) (xs : List Int) (w : World) (h : Byt w p n c xs) : Calls Try.prog 24 #[.slice p n c] w fun en w' => en = .returned (.tuple #[.int .u64 (parV xs), .int .i64 (parE xs)]) ∧ Below w.heap.size w w' := by
  have hl := h.len
  by_cases hn : n = 8
  · subst hn
    have HN := hidden (number_yes p 8 c xs w h 0 8 (by omega) (by omega) (by omega))
    rw [List.drop_zero, List.take_of_length_le (by omega), show ((8 : Nat) : Int) = 8 from rfl, show ((0 : Nat) : Int) = 0 from rfl] at HN
    have hv := val_bd xs h.rng
    rw [hl] at hv
    unfold parV parE
    obtain ⟨v, hv2⟩ := Int.eq_ofNat_of_zero_le hv.1
    rw [hv2] at hv HN ⊢
    have hvl : v < 18446744073709551616 := by omega
    have HE := hidden (gel_any v hvl)
    rw [show ((v : Int)).toNat = v from Int.toNat_natCast v]
    clear hv hv2
    cases hg : gel v with
    | true =>
      rw [hg] at HE
      rw [if_pos ⟨hl, rfl⟩, if_pos hl, if_pos rfl]
      clear hg hl h
      go_enter Try.func24, Try.ntmps24
      go_wp2_with (first
        | (go_at_call 34; (with_reducible refine (HN.out).mono ?_); rintro en w2 ⟨rfl, rfl⟩)
        | (go_at_call 13; (with_reducible refine (HE.out _).mono ?_); rintro en w3 ⟨rfl, hb⟩; have HB2 := hidden hb; clear hb)
        | fail)
      go_ret2
      exact ⟨rfl, HB2.out⟩
    | false =>
      rw [hg] at HE
      rw [if_neg (by simp), if_pos hl, if_neg (by decide)]
      clear hg hl h
      go_enter Try.func24, Try.ntmps24
      go_wp2_with (first
        | (go_at_call 34; (with_reducible refine (HN.out).mono ?_); rintro en w2 ⟨rfl, rfl⟩)
        | (go_at_call 13; (with_reducible refine (HE.out _).mono ?_); rintro en w3 ⟨rfl, hb⟩; have HB2 := hidden hb; clear hb)
        | fail)
      go_ret2
      exact ⟨rfl, HB2.out⟩
  · unfold parV parE
    rw [if_neg (by omega), if_neg (by omega)]
    have hne : ((n : Int) != 8) = true := by simp; omega
    clear hl h hn
    go_enter Try.func24, Try.ntmps24
    go_wp2
    go_ret2
    exact ⟨rfl, Below.refl _ _⟩

set_option maxHeartbeats 800000 in
set_option maxRecDepth 100000 in
theorem rsec_any (s : Nat) (w : World) : Calls Try.prog 29 #[.int .u64 s] w fun en w' => en = .returned (.bool (gsec s)) ∧ Below w.heap.size w w' := by
  by_cases h1 : 1 ≤ s
  · by_cases h2 : s < gq
    · rw [gsec_yes s ⟨h1, h2⟩]
      have h3 : (1 : Int) ≤ (s : Int) := by omega
      have h4 : (s : Int) < 2305843009213688669 := by unfold gq at h2; omega
      go_enter Try.func29, Try.ntmps29
      go_wp2
      go_ret
      exact ⟨rfl, Below.refl _ _⟩
    · rw [gsec_no s (by omega)]
      have h3 : (1 : Int) ≤ (s : Int) := by omega
      have h4 : ¬ (s : Int) < 2305843009213688669 := by unfold gq at h2; omega
      go_enter Try.func29, Try.ntmps29
      go_wp2
      go_ret
      exact ⟨rfl, Below.refl _ _⟩
  · rw [gsec_no s (by omega)]
    have h3 : ¬ (1 : Int) ≤ (s : Int) := by omega
    go_enter Try.func29, Try.ntmps29
    go_wp2
    go_ret
    exact ⟨rfl, Below.refl _ _⟩

set_option maxHeartbeats 800000 in
set_option maxRecDepth 100000 in
theorem rpub_any (s : Nat) (hs : s < 18446744073709551616) (w : World) : Calls Try.prog 17 #[.int .u64 s] w fun en w' => en = .returned (.tuple #[.int .u64 ((pubV s : Nat) : Int), .int .i64 (pubE s)]) ∧ Below w.heap.size w w' := by
  have HS := hidden (rsec_any s)
  have HP := hidden (fun W => rgpow_any 4 s (by decide) hs W)
  rw [cast4] at HP
  unfold pubV pubE
  generalize gpow 4 s = g at *
  cases hg : gsec s with
  | true =>
    rw [hg] at HS
    rw [if_pos rfl, if_pos rfl]
    clear hg
    go_enter Try.func17, Try.ntmps17
    go_wp2_with (first
      | (go_at_call 29; (with_reducible refine (HS.out _).mono ?_); rintro en w2 ⟨rfl, hb⟩; have HB := hidden hb; clear hb)
      | (go_at_call 12; (with_reducible refine (HP.out _).mono ?_); rintro en w3 ⟨rfl, hb⟩; have HB2 := hidden (HB.out.trans (hb.mono HB.out.size)); clear hb)
      | fail)
    go_ret2
    exact ⟨rfl, HB2.out⟩
  | false =>
    rw [hg] at HS
    rw [if_neg (by decide), if_neg (by decide)]
    clear hg
    go_enter Try.func17, Try.ntmps17
    go_wp2_with (first
      | (go_at_call 29; (with_reducible refine (HS.out _).mono ?_); rintro en w2 ⟨rfl, hb⟩; have HB := hidden hb; clear hb)
      | fail)
    go_ret2
    exact ⟨rfl, HB.out⟩

set_option maxHeartbeats 800000 in
set_option maxRecDepth 100000 in
theorem rgbytes_any (a : Nat) (ha : a < 18446744073709551616) (w : World) : Calls Try.prog 23 #[.int .u64 a] w (ToG (gbytes a) w) := by
  have HP := hidden (fun W => rput_yes none 0 0 [] W (Byt.nil _ _ _ (Nat.zero_le _)) (by omega) (a : Int) (by omega) 8 (by omega) (by omega))
  rw [List.nil_append, show be 8 (a : Int) = gbytes a from rfl, show ((8 : Nat) : Int) = 8 from rfl] at HP
  have hl := Is.mk (gbytes_len a)
  have HR := hidden (gbytes_rng a)
  generalize gbytes a = R at *
  go_enter Try.func23, Try.ntmps23
  go_wp2_with (first
    | (go_at_call 33; (with_reducible refine (HP.out _).mono ?_); rintro en w2 ⟨v, rfl, ho, hb⟩; obtain ⟨q, d, rfl, hy⟩ := ho.byt HR.out; have HB := hidden hb; have HY := hidden hy; clear ho hb hy)
    | fail)
  go_ret
  exact ⟨_, _, _, rfl, HY.out, HB.out⟩

set_option maxHeartbeats 1600000 in
set_option maxRecDepth 100000 in
theorem rshr_any (s p : Nat) (hs : s < 18446744073709551616) (hp : p < 18446744073709551616) (w : World) : Calls Try.prog 20 #[.int .u64 s, .int .u64 p] w (ToGE (shrL s p) (shrE s p) w) := by
  have HS := hidden (rsec_any s)
  have HE := hidden (rgel_any p hp)
  have HP := hidden (rgpow_any p s hp hs)
  have HY := hidden (rgbytes_any (gpow p s) (Nat.lt_trans (gpow_lt _ _) (by decide)))
  unfold shrL shrE
  generalize gbytes (gpow p s) = R at *
  generalize gpow p s = g at *
  cases hg : gsec s with
  | false =>
    rw [hg] at HS
    rw [Bool.false_and, if_neg (by decide), if_neg (by decide)]
    clear hg
    go_enter Try.func20, Try.ntmps20
    go_wp2_with (first
      | (go_at_call 29; (with_reducible refine (HS.out _).mono ?_); rintro en w2 ⟨rfl, hb⟩; have HB := hidden hb; clear hb)
      | fail)
    go_ret2
    exact ⟨_, _, _, rfl, Byt.nil _ _ _ (Nat.zero_le _), HB.out⟩
  | true =>
    rw [hg] at HS
    rw [Bool.true_and]
    clear hg
    cases hg : gel p with
    | false =>
      rw [hg] at HE
      rw [if_neg (by decide), if_neg (by decide)]
      clear hg
      go_enter Try.func20, Try.ntmps20
      go_wp2_with (first
        | (go_at_call 29; (with_reducible refine (HS.out _).mono ?_); rintro en w2 ⟨rfl, hb⟩; have HB := hidden hb; clear hb)
        | (go_at_call 14; (with_reducible refine (HE.out _).mono ?_); rintro en w3 ⟨rfl, hb⟩; have HB2 := hidden (HB.out.trans (hb.mono HB.out.size)); clear hb)
        | fail)
      go_ret2
      exact ⟨_, _, _, rfl, Byt.nil _ _ _ (Nat.zero_le _), HB2.out⟩
    | true =>
      rw [hg] at HE
      rw [if_pos rfl, if_pos rfl]
      clear hg
      go_enter Try.func20, Try.ntmps20
      go_wp2_with (first
        | (go_at_call 29; (with_reducible refine (HS.out _).mono ?_); rintro en w2 ⟨rfl, hb⟩; have HB := hidden hb; clear hb)
        | (go_at_call 14; (with_reducible refine (HE.out _).mono ?_); rintro en w3 ⟨rfl, hb⟩; have HB2 := hidden (HB.out.trans (hb.mono HB.out.size)); clear hb)
        | (go_at_call 12; (with_reducible refine (HP.out _).mono ?_); rintro en w4 ⟨rfl, hb⟩; have HB3 := hidden (HB2.out.trans (hb.mono HB2.out.size)); clear hb)
        | (go_at_call 23; (with_reducible refine (HY.out _).mono ?_); rintro en w5 ⟨q, N, d, rfl, hy, hb⟩; have HB4 := hidden (HB3.out.trans (hb.mono HB3.out.size)); have HZ := hidden hy; clear hb hy)
        | fail)
      go_ret2
      exact ⟨_, _, _, rfl, HZ.out, HB4.out⟩

set_option maxHeartbeats 1600000 in
set_option maxRecDepth 100000 in
theorem rgparse_any (p : Option Addr) (n c : Nat) (xs : List Int) (w : World) (h : Byt w p n c xs) : Calls Try.prog 25 #[.slice p n c] w fun en w' => en = .returned (.tuple #[.int .u64 (parV xs), .int .i64 (parE xs)]) ∧ Below w.heap.size w w' := by
  have hl := h.len
  by_cases hn : n = 8
  · subst hn
    have HN := hidden (rnumber_yes p 8 c xs w h 0 8 (by omega) (by omega) (by omega))
    rw [List.drop_zero, List.take_of_length_le (by omega), show ((8 : Nat) : Int) = 8 from rfl, show ((0 : Nat) : Int) = 0 from rfl] at HN
    have hv := val_bd xs h.rng
    rw [hl] at hv
    unfold parV parE
    obtain ⟨v, hv2⟩ := Int.eq_ofNat_of_zero_le hv.1
    rw [hv2] at hv HN ⊢
    have hvl : v < 18446744073709551616 := by omega
    have HE := hidden (rgel_any v hvl)
    rw [show ((v : Int)).toNat = v from Int.toNat_natCast v]
    clear hv hv2
    cases hg : gel v with
    | true =>
      rw [hg] at HE
      rw [if_pos ⟨hl, rfl⟩, if_pos hl, if_pos rfl]
      clear hg hl h
      go_enter Try.func25, Try.ntmps25
      go_wp2_with (first
        | (go_at_call 35; (with_reducible refine (HN.out).mono ?_); rintro en w2 ⟨rfl, rfl⟩)
        | (go_at_call 14; (with_reducible refine (HE.out _).mono ?_); rintro en w3 ⟨rfl, hb⟩; have HB2 := hidden hb; clear hb)
        | fail)
      go_ret2
      exact ⟨rfl, HB2.out⟩
    | false =>
      rw [hg] at HE
      rw [if_neg (by simp), if_pos hl, if_neg (by decide)]
      clear hg hl h
      go_enter Try.func25, Try.ntmps25
      go_wp2_with (first
        | (go_at_call 35; (with_reducible refine (HN.out).mono ?_); rintro en w2 ⟨rfl, rfl⟩)
        | (go_at_call 14; (with_reducible refine (HE.out _).mono ?_); rintro en w3 ⟨rfl, hb⟩; have HB2 := hidden hb; clear hb)
        | fail)
      go_ret2
      exact ⟨rfl, HB2.out⟩
  · unfold parV parE
    rw [if_neg (by omega), if_neg (by omega)]
    have hne : ((n : Int) != 8) = true := by simp; omega
    clear hl h hn
    go_enter Try.func25, Try.ntmps25
    go_wp2
    go_ret2
    exact ⟨rfl, Below.refl _ _⟩

set_option maxHeartbeats 800000 in
set_option maxRecDepth 100000 in
theorem secret_any (W w : World) (k : Nat) (h : Cod W w k) :
    Calls Try.prog 16 #[.pointer (some ⟨k, 0, none⟩)] w fun e w' => (∃ s : Nat, e = .returned (.int .u64 s) ∧ 1 ≤ s ∧ s < gq) ∧ Cod W w' k ∧ w.grownBy w' (some k) := by
  have HW := hidden (word_any W w k h)
  clear h
  go_enter Try.func16, Try.ntmps16
  go_wp2_with (first
    | (go_at_call 26; (with_reducible refine (HW.out).mono ?_); rintro e w2 ⟨r, rfl, r0, r1, hc, hg⟩; have HC := hidden hc; have HG := hidden hg; clear hc hg; have hw : IntKind.u64.wrap (1 + r % 2305843009213688668) = 1 + r % 2305843009213688668 := wraps_u64 _ (by omega) (by omega))
    | fail)
  go_ret
  refine ⟨⟨(1 + r % 2305843009213688668).toNat, ?_, by omega, by unfold gq; omega⟩, HC.out, HG.out⟩
  rw [Int.toNat_of_nonneg (by omega)]
  rfl

theorem gel4 : gel 4 = true := by
  have h := gel_secret 1 (by decide) (by decide)
  rw [gpow_one 4 (by decide)] at h
  exact h
theorem gel1 : gel 1 = false := gel_range 1 (by decide)
theorem pub1 : pubV 1 = 4 := by unfold pubV; rw [if_pos (by decide), gpow_one 4 (by decide)]
theorem pub2 : pubV 2 = 16 := by unfold pubV; rw [if_pos (by decide), gpow_def]; decide
theorem pubE1 : pubE 1 = 0 := by unfold pubE; rw [if_pos (by decide)]
theorem pubE2 : pubE 2 = 0 := by unfold pubE; rw [if_pos (by decide)]
set_option maxHeartbeats 800000 in
set_option maxRecDepth 100000 in
theorem awake13_any (w : World) : Calls Try.prog 8 #[] w fun e w' => e = .returned (.bool true) ∧ Below w.heap.size w w' := by
  have H1 := hidden (pub_any 1 (by decide))
  have H2 := hidden (pub_any 2 (by decide))
  have H3 := hidden (gel_any 4 (by decide))
  have H4 := hidden (gel_any 1 (by decide))
  rw [pub1, pubE1, show ((4 : Nat) : Int) = 4 from rfl, show ((1 : Nat) : Int) = 1 from rfl] at H1
  rw [pub2, pubE2, show ((16 : Nat) : Int) = 16 from rfl, show ((2 : Nat) : Int) = 2 from rfl] at H2
  rw [gel4, show ((4 : Nat) : Int) = 4 from rfl] at H3
  rw [gel1, show ((1 : Nat) : Int) = 1 from rfl] at H4
  have HB0 := hidden (Below.refl w.heap.size w)
  go_enter Try.func8, Try.ntmps8
  go_wp2_with (first
    | (go_at_call 18; (with_reducible refine (H1.out _).mono ?_); rintro e w1 ⟨rfl, hb⟩; have HB1 := hidden (HB0.out.trans (hb.mono HB0.out.size)); clear hb)
    | (go_at_call 18; (with_reducible refine (H2.out _).mono ?_); rintro e w2 ⟨rfl, hb⟩; have HB2 := hidden (HB1.out.trans (hb.mono HB1.out.size)); clear hb)
    | (go_at_call 13; (with_reducible refine (H3.out _).mono ?_); rintro e w3 ⟨rfl, hb⟩; have HB3 := hidden (HB2.out.trans (hb.mono HB2.out.size)); clear hb)
    | (go_at_call 13; (with_reducible refine (H4.out _).mono ?_); rintro e w4 ⟨rfl, hb⟩; have HB4 := hidden (HB3.out.trans (hb.mono HB3.out.size)); clear hb)
    | fail)
  go_ret
  exact ⟨rfl, HB4.out⟩
end Go.Proofs.Ytgagdfafgephoaa
