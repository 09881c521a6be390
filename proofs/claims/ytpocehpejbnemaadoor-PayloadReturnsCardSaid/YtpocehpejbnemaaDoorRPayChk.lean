/-
  The lengths of SPIs and the first errors of notifications and deletions, as package payload tells them.
-/
import Derived.Test.YtpocehpejbnemaaDoorRPayVal
import Derived.Test.YtpocehpejbnemaaDoorRZ14
namespace Go.Proofs.YtpocehpejbnemaaDoor
open Go.RowKit
set_option linter.unusedVariables false

/-- The length of the SPIs of a protocol. -/
def spiZ (k : Int) : Nat := if k = 2 ∨ k = 3 then 4 else 0
theorem spiSize_any (k : Int) (w : World) : Calls Tryd.prog 113 #[.int .i64 k] w fun e w' => e = .returned (.int .i64 (spiZ k)) ∧ w = w' := by
  by_cases h2 : k = 2
  · subst h2
    go_enter Tryd.func113, Tryd.ntmps113
    go_wp2
    go_ret
    exact ⟨rfl, rfl⟩
  by_cases h3 : k = 3
  · subst h3
    go_enter Tryd.func113, Tryd.ntmps113
    go_wp2
    go_ret
    exact ⟨rfl, rfl⟩
  · have e : spiZ k = 0 := by unfold spiZ; rw [if_neg (by omega)]
    rw [e]
    have e2 : (k == 2) = false := by simpa using h2
    have e3 : (k == 3) = false := by simpa using h3
    clear e h2 h3
    go_enter Tryd.func113, Tryd.ntmps113
    go_wp2
    go_ret
    exact ⟨rfl, rfl⟩
/-- The first error of a notification's fixed part. -/
def notifyE (np nt size : Int) : Int := if nt < 0 ∨ 65535 < nt ∨ np < 0 ∨ 3 < np then 5 else if size = spiZ np then 0 else 20
set_option maxHeartbeats 1600000 in
set_option maxRecDepth 100000 in
theorem checkNotify_any (np nt size : Int) (ps pd : Option Addr) (ns cs nd cd : Nat) (w : World) (E : Int) (hE : notifyE np nt size = E) :
    Calls Tryd.prog 94 #[.agg #[.int .i64 np, .slice ps ns cs, .int .i64 nt, .slice pd nd cd], .int .i64 size] w fun e w' => e = .returned (.int .i64 E) ∧ Below w.heap.size w w' := by
  have HB := hidden ((Below.refl w.heap.size w).alloc (Nat.le_refl _) (.cells #[.int .i64 np, .slice ps ns cs, .int .i64 nt, .slice pd nd cd] 34))
  have HS := hidden (fun W => spiSize_any np W)
  unfold notifyE at hE
  by_cases h1 : nt < 0
  · rw [if_pos (Or.inl h1)] at hE
    subst hE
    go_enter Tryd.func94, Tryd.ntmps94
    go_wp2
    go_ret
    exact ⟨rfl, HB.out⟩
  by_cases h2 : 65535 < nt
  · rw [if_pos (Or.inr (Or.inl h2))] at hE
    subst hE
    go_enter Tryd.func94, Tryd.ntmps94
    go_wp2
    go_ret
    exact ⟨rfl, HB.out⟩
  by_cases h3 : np < 0
  · rw [if_pos (Or.inr (Or.inr (Or.inl h3)))] at hE
    subst hE
    go_enter Tryd.func94, Tryd.ntmps94
    go_wp2
    go_ret
    exact ⟨rfl, HB.out⟩
  by_cases h4 : 3 < np
  · rw [if_pos (Or.inr (Or.inr (Or.inr h4)))] at hE
    subst hE
    go_enter Tryd.func94, Tryd.ntmps94
    go_wp2
    go_ret
    exact ⟨rfl, HB.out⟩
  rw [if_neg (by omega)] at hE
  obtain ⟨Z, hZ⟩ : ∃ Z : Nat, spiZ np = Z := ⟨_, rfl⟩
  rw [hZ] at hE HS
  clear hZ
  by_cases h5 : size = (Z : Int)
  · rw [if_pos h5] at hE
    subst hE
    have e : (size != (Z : Int)) = false := by simpa using h5
    clear h5
    go_enter Tryd.func94, Tryd.ntmps94
    go_wp2_with (first
      | (go_at_call 113; (with_reducible refine (HS.out _).mono ?_); rintro e w' ⟨rfl, rfl⟩)
      | fail)
    go_ret
    exact ⟨rfl, HB.out⟩
  · rw [if_neg h5] at hE
    subst hE
    have e : (size != (Z : Int)) = true := by simpa using h5
    clear h5
    go_enter Tryd.func94, Tryd.ntmps94
    go_wp2_with (first
      | (go_at_call 113; (with_reducible refine (HS.out _).mono ?_); rintro e w' ⟨rfl, rfl⟩)
      | fail)
    go_ret
    exact ⟨rfl, HB.out⟩
/-- The first error of a deletion's fixed part. -/
def deleteE (k size count : Int) : Int := if k ≠ 1 ∧ k ≠ 2 ∧ k ≠ 3 then 5 else if size = spiZ k ∧ ¬ (k = 1 ∧ count ≠ 0) then 0 else 20
set_option maxHeartbeats 1600000 in
set_option maxRecDepth 100000 in
theorem checkDelete_any (k size count : Int) (w : World) (E : Int) (hE : deleteE k size count = E) :
    Calls Tryd.prog 96 #[.int .i64 k, .int .i64 size, .int .i64 count] w fun e w' => e = .returned (.int .i64 E) ∧ w = w' := by
  have HS := hidden (fun W => spiSize_any k W)
  unfold deleteE at hE
  by_cases h1 : k ≠ 1 ∧ k ≠ 2 ∧ k ≠ 3
  · rw [if_pos h1] at hE
    subst hE
    have e1 : (k == 1) = false := by simpa using h1.1
    have e2 : (k != 2) = true := by simpa using h1.2.1
    have e3 : (k != 3) = true := by simpa using h1.2.2
    clear h1 HS
    go_enter Tryd.func96, Tryd.ntmps96
    go_wp2
    go_ret
    exact ⟨rfl, rfl⟩
  rw [if_neg h1] at hE
  obtain ⟨Z, hZ⟩ : ∃ Z : Nat, spiZ k = Z := ⟨_, rfl⟩
  rw [hZ] at hE HS
  clear hZ
  have hk : k = 1 ∨ k = 2 ∨ k = 3 := by omega
  clear h1
  by_cases h5 : size = (Z : Int)
  · have e : (size != (Z : Int)) = false := by simpa using h5
    by_cases h6 : k = 1 ∧ count ≠ 0
    · rw [if_neg (fun h => h.2 h6)] at hE
      subst hE
      obtain ⟨rfl, h6⟩ := h6
      have e6 : (count != 0) = true := by simpa using h6
      clear h5 h6 hk
      go_enter Tryd.func96, Tryd.ntmps96
      go_wp2_with (first
        | (go_at_call 113; (with_reducible refine (HS.out _).mono ?_); rintro e w' ⟨rfl, rfl⟩)
        | fail)
      go_ret
      exact ⟨rfl, rfl⟩
    · rw [if_pos ⟨h5, h6⟩] at hE
      subst hE
      clear h5
      rcases hk with rfl | rfl | rfl
      · have e6 : (count != 0) = false := by simp; omega
        clear h6
        go_enter Tryd.func96, Tryd.ntmps96
        go_wp2_with (first
          | (go_at_call 113; (with_reducible refine (HS.out _).mono ?_); rintro e w' ⟨rfl, rfl⟩)
          | fail)
        go_ret
        exact ⟨rfl, rfl⟩
      all_goals
        clear h6
        go_enter Tryd.func96, Tryd.ntmps96
        go_wp2_with (first
          | (go_at_call 113; (with_reducible refine (HS.out _).mono ?_); rintro e w' ⟨rfl, rfl⟩)
          | fail)
        go_ret
        exact ⟨rfl, rfl⟩
  · have e : (size != (Z : Int)) = true := by simpa using h5
    rw [if_neg (fun h => h5 h.1)] at hE
    subst hE
    clear h5
    rcases hk with rfl | rfl | rfl
    all_goals
      go_enter Tryd.func96, Tryd.ntmps96
      go_wp2_with (first
        | (go_at_call 113; (with_reducible refine (HS.out _).mono ?_); rintro e w' ⟨rfl, rfl⟩)
        | fail)
      go_ret
      exact ⟨rfl, rfl⟩
end Go.Proofs.YtpocehpejbnemaaDoor
