/-
  What wire's Checksum returns, for every slice of bytes.
-/
import Derived.Test.YtdlbjbfonihglaaRows
import Derived.Test.YtdlbjbfonihglaaBytes
import Derived.Test.YtdlbjbfonihglaaNum
namespace Go.Proofs.Ytdlbjbfonihglaa
open Go.RowKit
set_option linter.unusedVariables false

set_option maxHeartbeats 800000 in
theorem checksum_any (p : Option Addr) (n c : Nat) (xs : List Int) (w : World) (h : Byt w p n c xs) (hb : n ≤ 140737488355328) :
    Calls Try.prog 19 #[.slice p n c] w fun e w' => e = .returned (.int .i64 (sumR xs)) ∧ w = w' := by
  have hl := h.len
  have hcc : ∀ j, j < n → ∃ b o, p = some ⟨b, o, none⟩ ∧ w.cell? ⟨b, o + j, none⟩ = some (.int .u8 (xs.getD j 0)) := fun j hj => by
    obtain ⟨b, o, e, hc⟩ := h.at_ (by omega)
    exact ⟨b, o, e, hc j hj⟩
  have HC := hidden hcc
  have HR := hidden h.rng
  clear hcc h
  go_enter Try.func19, Try.ntmps19
  go_wp2
  go_loop [3, 4, 5, 8] (fun s _ _ i => ∃ k : Nat, k ≤ n ∧ i = .int .i64 k ∧ s = .int .u64 (sm xs k)) (fun _ _ _ i => n - (intOf i).toNat)
  case atStart => exact ⟨0, by omega, rfl, rfl⟩
  case round =>
    obtain ⟨k, hk, rfl, rfl⟩ := hrel
    have hsb := sm_bd HR.out k
    by_cases hlt : k < n
    · obtain ⟨b, o, rfl, hcell⟩ := HC.out k hlt
      have hb := rng_getD HR.out k
      by_cases hpar : k % 2 = 0
      · have hs := hidden (sm_even xs k hpar)
        have ht : ((k : Int) % 2 == 0) = true := by simp; omega
        clear hpar
        generalize xs.getD k 0 = x at *
        generalize sm xs k = s at *
        go_wp2
        go_round
        case rel => exact ⟨k + 1, by omega, by go_num, by rw [hs.out]⟩
        case measure => simp [intOf]; omega
      · have hs := hidden (sm_odd xs k hpar)
        have ht : ((k : Int) % 2 == 0) = false := by simp; omega
        clear hpar
        generalize xs.getD k 0 = x at *
        generalize sm xs k = s at *
        go_wp2
        go_round
        case rel => exact ⟨k + 1, by omega, by go_num, by rw [hs.out]⟩
        case measure => simp [intOf]; omega
    · obtain rfl : k = n := by omega
      have hend : sumR xs = 65535 - fld (sm xs k) := by unfold sumR; rw [hl]
      clear HC HR
      generalize sm xs k = s at *
      have HE := hidden hend
      clear hend
      clear hl
      go_wp2
      go_loop [3] (fun u => ∃ r : Int, 0 ≤ r ∧ r ≤ 9187343239835811840 ∧ fld r = fld s ∧ u = .int .u64 r) (fun u => (intOf u).toNat)
      case atStart => exact ⟨s, by omega, by omega, rfl, rfl⟩
      case round =>
        obtain ⟨r, hr0, hr1, hf, rfl⟩ := hrel
        by_cases hbig : 65535 < r
        · have hs := hidden (fld_step r hbig)
          have hm := and16 r (by omega) (by omega)
          have HF := hidden hf
          clear hf
          go_wp2
          go_round
          case rel => exact ⟨_, by omega, by omega, by rw [hs.out, HF.out], rfl⟩
          case measure => simp [intOf]; omega
        · have hs := hidden (fld_small r (by omega) (by omega))
          have HF := hidden hf
          clear hf
          go_wp2
          go_ret
          exact ⟨by rw [HE.out, ← HF.out, hs.out]; rfl, rfl⟩
end Go.Proofs.Ytdlbjbfonihglaa
