/-
  The law Sha256Pads, walked: it returns true for every input, and only adds memory of its own.
-/
import Derived.Test.YtmjagbghgbemaaaDoorSha08
import Derived.Test.YtmjagbghgbemaaaDoorMod
namespace Go.Proofs.YtmjagbghgbemaaaDoor
open Go.RowKit
set_option linter.unusedVariables false

theorem padS_at0 (n : Nat) : (padS n).getD 0 0 = 128 := rfl
theorem padS_mid (n j : Nat) (hj : j < padZ n) : (padS n).getD (1 + j) 0 = 0 := by
  unfold padS
  rw [Nat.add_comm]
  simp [List.getD_eq_getElem?_getD, List.getElem?_append_left, hj]
theorem padS_end (n : Nat) (hn : n < 2305843009213693952) : val (((padS n).drop (padZ n + 9 - 8)).take 8) = (n : Int) * 8 := by
  have e : padZ n + 9 - 8 = padZ n + 1 := by omega
  have h : (padS n).drop (padZ n + 1) = be 8 ((n : Int) * 8) := by
    unfold padS
    rw [List.drop_succ_cons, List.drop_left' (by simp)]
  rw [e, h, List.take_of_length_le (by rw [be_len]; omega), val_be]
  omega

set_option maxHeartbeats 1600000 in
set_option maxRecDepth 100000 in
theorem sha256Pads_walk (z : Int) (w : World) (g : -9223372036854775808 ≤ z ∧ z ≤ 9223372036854775807) (hK : KAt w) :
    Calls Tryd.prog 6 #[.int .i64 z] w fun e w' => e = .returned (.bool true) ∧ Below w.heap.size w w' := by
  have HA := hidden (awake08_any w hK)
  obtain ⟨n, hn⟩ := Int.eq_ofNat_of_zero_le (show 0 ≤ z % 1099511627776 by omega)
  have hn2 : n < 1099511627776 := by omega
  have HM : Hid (∀ W, Calls Tryd.prog 21 #[.int .i64 z, .int .i64 1099511627776] W fun e w' => e = .returned (.int .i64 n) ∧ W = w') := by
    intro W
    have := mod_any z 1099511627776 W g (by omega)
    rw [hn] at this
    exact this
  obtain ⟨Z, hZ⟩ : ∃ Z, padZ n = Z := ⟨_, rfl⟩
  obtain ⟨L, hL⟩ : ∃ L, Z + 9 = L := ⟨_, rfl⟩
  have h9 : 9 ≤ L := by omega
  have h72 : L ≤ 72 := by have := padZ_lt n; omega
  have hdv := padS_div n
  rw [padS_len, hZ, hL] at hdv
  have hdiv : ((n : Int) + (L : Int)) % 64 = 0 := by omega
  have HPL : Hid ((padS n).length = L) := by rw [padS_len, hZ, hL]; exact rfl
  have HPR := hidden (padS_rng n)
  have HPAD := hidden (fun W => pad_any n (by omega) W)
  have H0 := hidden (padS_at0 n)
  have HMID : Hid (∀ j, j < Z → (padS n).getD (1 + j) 0 = 0) := fun j hj => padS_mid n j (by rw [hZ]; exact hj)
  have HEND : Hid (val (((padS n).drop (L - 8)).take 8) = (n : Int) * 8) := by
    have := padS_end n (by omega)
    rw [hZ, hL] at this
    exact this
  have HL := Is.mk hL
  generalize padS n = P at *
  clear hK hn hZ hL hdv g
  go_enter Tryd.func6, Tryd.ntmps6
  go_wp2_with (first
    | (go_at_call 13; (with_reducible refine (HA.out).mono ?_); rintro e w1 ⟨rfl, hb⟩; have HB1 := hidden hb; clear hb)
    | (go_at_call 21; (with_reducible refine (HM.out _).mono ?_); rintro e w1 ⟨rfl, rfl⟩)
    | fail)
  go_at_call 17
  refine (HPAD.out _).mono ?_
  rintro e w2 ⟨v, rfl, hown, hbel⟩
  obtain ⟨q, d, rfl, hbyt⟩ := hown.bytN rfl HPL.out HPR.out
  obtain ⟨b, o, rfl, hc⟩ := hbyt.at_ (by omega)
  have HB2 := hidden (HB1.out.trans (hbel.mono HB1.out.size))
  have hc0 : w2.cell? ⟨b, o, none⟩ = some (.int .u8 128) := by
    have := hc 0 (by omega)
    rw [H0.out] at this
    exact this
  have hd := hbyt.cap
  have hd1 : ¬ d = 1 := by omega
  have hdm := hbyt.big
  unfold maxLen at hdm
  have HC := hidden hc
  have HN : Hid (Calls Tryd.prog 22 #[.slice (some ⟨b, o, none⟩) L d, .int .i64 ((L : Int) - 8), .int .i64 8] w2 fun e w' => e = .returned (.tuple #[.int .u64 ((n : Int) * 8), .bool true]) ∧ w2 = w') := by
    have := number_yes (some ⟨b, o, none⟩) L d P w2 hbyt (L - 8) 8 (by omega) (by omega) (by omega)
    rw [HEND.out, show ((L - 8 : Nat) : Int) = (L : Int) - 8 by omega] at this
    exact this
  have HCM : Hid (∀ j, j < Z → w2.cell? ⟨b, o + 1 + j, none⟩ = some (.int .u8 0)) := by
    intro j hj
    rw [Nat.add_assoc, hc (1 + j) (by have := HL.eq; omega), HMID.out j hj]
  clear hown hbel hbyt hc HC HPAD HPR HPL H0 HMID HEND HM HA HB1
  generalize w2.heap.size = zz at *
  go_wp2_with (first
    | (go_at_call 22; (with_reducible refine (HN.out).mono ?_); rintro e w1 ⟨rfl, rfl⟩)
    | fail)
  have HL2 := HL.eq
  go_loop [51] (fun i => ∃ j : Nat, j ≤ Z ∧ i = .int .i64 j) (fun i => Z - (intOf i).toNat)
  case atStart => exact ⟨0, by omega, rfl⟩
  case round =>
    obtain ⟨j, hj, rfl⟩ := hrel
    by_cases hlt : j < Z
    · have hcj := HCM.out j hlt
      have hjl : (j : Int) < ((L - 8 - 1 : Nat) : Int) := by omega
      clear hdiv
      go_wp2
      go_round
      case rel => exact ⟨j + 1, by omega, by go_num⟩
      case measure => simp [intOf]; omega
    · have hjl : ¬ (j : Int) < ((L - 8 - 1 : Nat) : Int) := by omega
      clear hdiv
      go_wp2
      go_ret
      refine ⟨?_, HB2.out⟩
      simp
end Go.Proofs.YtmjagbghgbemaaaDoor
