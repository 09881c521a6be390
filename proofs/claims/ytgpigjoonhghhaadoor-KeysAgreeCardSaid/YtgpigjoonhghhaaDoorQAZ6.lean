/-
  Public numbers, shared secrets and the bytes of elements: the program's and the document's; a drawn secret; the chapter's example.
  What the laws of chapter 13 use: public numbers and powers told for what they are.
  The law GroupAgrees, walked: it returns true for every input, and only adds memory of its own.
  What the condition on the package variable says of the table of the hash.
-/
import Derived.Test.YtgpigjoonhghhaaDoorQAZ5
import Derived.Test.YtgpigjoonhghhaaDoorQAWPut
import Derived.Test.YtgpigjoonhghhaaDoorQAZ2
import Derived.Test.YtgpigjoonhghhaaDoorQAWNumber
import Derived.Test.YtgpigjoonhghhaaDoorQARNumber
import Derived.Test.YtgpigjoonhghhaaDoorQAZ4
import Derived.Test.YtgpigjoonhghhaaDoorQAOwnB
import Derived.Test.YtgpigjoonhghhaaDoorQAZ1
import Derived.Test.YtgpigjoonhghhaaDoorQAShaBlock
import Derived.ProofKit
import Derived.LaidMore
import Derived.Lib.LaidTab
import Derived.Stop.Joined
namespace Go.Proofs.YtgpigjoonhghhaaDoor
open Go.RowKit
set_option linter.unusedVariables false
def gsec (s : Nat) : Bool := decide (1 ≤ s) && decide (s < gq)
theorem gsec_no (s : Nat) (h : ¬ (1 ≤ s ∧ s < gq)) : gsec s = false := by
  unfold gsec
  simp only [Bool.and_eq_false_iff, decide_eq_false_iff_not]
  omega
theorem gsec_yes (s : Nat) (h : 1 ≤ s ∧ s < gq) : gsec s = true := by
  unfold gsec
  rw [decide_eq_true h.1, decide_eq_true h.2]
  rfl
def pubV (s : Nat) : Nat := if gsec s = true then gpow 4 s else 0
def pubE (s : Nat) : Int := if gsec s = true then 0 else 13
def gbytes (a : Nat) : List Int := be 8 (a : Int)
def shrL (s p : Nat) : List Int := if (gsec s && gel p) = true then gbytes (gpow p s) else []
def shrE (s p : Nat) : Int := if (gsec s && gel p) = true then 0 else 13
theorem gbytes_len (a : Nat) : (gbytes a).length = 8 := be_len 8 _
theorem gbytes_rng (a : Nat) : ∀ x ∈ gbytes a, 0 ≤ x ∧ x ≤ 255 := be_rng 8 _
def parV (xs : List Int) : Int := if xs.length = 8 ∧ gel (val xs).toNat = true then val xs else 0
def parE (xs : List Int) : Int := if xs.length = 8 then (if gel (val xs).toNat = true then 0 else 13) else 2
def ToGE (R : List Int) (E : Int) (w : World) (e : Ending) (w' : World) : Prop :=
  ∃ p' N c', e = .returned (.tuple #[.slice p' N c', .int .i64 E]) ∧ Byt w' p' N c' R ∧ Below w.heap.size w w'
def ToG (R : List Int) (w : World) (e : Ending) (w' : World) : Prop :=
  ∃ p' N c', e = .returned (.slice p' N c') ∧ Byt w' p' N c' R ∧ Below w.heap.size w w'
theorem cast4 : ((4 : Nat) : Int) = 4 := rfl
set_option maxHeartbeats 800000 in
set_option maxRecDepth 100000 in
theorem sec_any (s : Nat) (w : World) : Calls Tryd.prog 44 #[.int .u64 s] w fun en w' => en = .returned (.bool (gsec s)) ∧ Below w.heap.size w w' := by
  by_cases h1 : 1 ≤ s
  · by_cases h2 : s < gq
    · rw [gsec_yes s ⟨h1, h2⟩]
      have h3 : (1 : Int) ≤ (s : Int) := by omega
      have h4 : (s : Int) < 2305843009213688669 := by unfold gq at h2; omega
      go_enter Tryd.func44, Tryd.ntmps44
      go_wp2
      go_ret
      exact ⟨rfl, Below.refl _ _⟩
    · rw [gsec_no s (by omega)]
      have h3 : (1 : Int) ≤ (s : Int) := by omega
      have h4 : ¬ (s : Int) < 2305843009213688669 := by unfold gq at h2; omega
      go_enter Tryd.func44, Tryd.ntmps44
      go_wp2
      go_ret
      exact ⟨rfl, Below.refl _ _⟩
  · rw [gsec_no s (by omega)]
    have h3 : ¬ (1 : Int) ≤ (s : Int) := by omega
    go_enter Tryd.func44, Tryd.ntmps44
    go_wp2
    go_ret
    exact ⟨rfl, Below.refl _ _⟩
set_option maxHeartbeats 800000 in
set_option maxRecDepth 100000 in
theorem pub_any (s : Nat) (hs : s < 18446744073709551616) (w : World) : Calls Tryd.prog 26 #[.int .u64 s] w fun en w' => en = .returned (.tuple #[.int .u64 ((pubV s : Nat) : Int), .int .i64 (pubE s)]) ∧ Below w.heap.size w w' := by
  have HS := hidden (sec_any s)
  have HP := hidden (fun W => gpow_any 4 s (by decide) hs W)
  rw [cast4] at HP
  unfold pubV pubE
  generalize gpow 4 s = g at *
  cases hg : gsec s with
  | true =>
    rw [hg] at HS
    rw [if_pos rfl, if_pos rfl]
    clear hg
    go_enter Tryd.func26, Tryd.ntmps26
    go_wp2_with (first
      | (go_at_call 44; (with_reducible refine (HS.out _).mono ?_); rintro en w2 ⟨rfl, hb⟩; have HB := hidden hb; clear hb)
      | (go_at_call 45; (with_reducible refine (HP.out _).mono ?_); rintro en w3 ⟨rfl, hb⟩; have HB2 := hidden (HB.out.trans (hb.mono HB.out.size)); clear hb)
      | fail)
    go_ret2
    exact ⟨rfl, HB2.out⟩
  | false =>
    rw [hg] at HS
    rw [if_neg (by decide), if_neg (by decide)]
    clear hg
    go_enter Tryd.func26, Tryd.ntmps26
    go_wp2_with (first
      | (go_at_call 44; (with_reducible refine (HS.out _).mono ?_); rintro en w2 ⟨rfl, hb⟩; have HB := hidden hb; clear hb)
      | fail)
    go_ret2
    exact ⟨rfl, HB.out⟩
set_option maxHeartbeats 800000 in
set_option maxRecDepth 100000 in
theorem secret_any (W w : World) (k : Nat) (h : Cod W w k) :
    Calls Tryd.prog 25 #[.pointer (some ⟨k, 0, none⟩)] w fun e w' => (∃ s : Nat, e = .returned (.int .u64 s) ∧ 1 ≤ s ∧ s < gq) ∧ Cod W w' k ∧ w.grownBy w' (some k) := by
  have HW := hidden (word_any W w k h)
  clear h
  go_enter Tryd.func25, Tryd.ntmps25
  go_wp2_with (first
    | (go_at_call 43; (with_reducible refine (HW.out).mono ?_); rintro e w2 ⟨r, rfl, r0, r1, hc, hg⟩; have HC := hidden hc; have HG := hidden hg; clear hc hg; have hw : IntKind.u64.wrap (1 + r % 2305843009213688668) = 1 + r % 2305843009213688668 := wraps_u64 _ (by omega) (by omega))
    | fail)
  go_ret
  refine ⟨⟨(1 + r % 2305843009213688668).toNat, ?_, by omega, by unfold gq; omega⟩, HC.out, HG.out⟩
  rw [Int.toNat_of_nonneg (by omega)]
  rfl
end Go.Proofs.YtgpigjoonhghhaaDoor

namespace Go.Proofs.YtgpigjoonhghhaaDoor
open Go.RowKit
set_option linter.unusedVariables false
theorem pub_secret (s : Nat) (h1 : 1 ≤ s) (h2 : s < gq) (W : World) : Calls Tryd.prog 26 #[.int .u64 s] W fun e w' => e = .returned (.tuple #[.int .u64 ((gpow 4 s : Nat) : Int), .int .i64 0]) ∧ Below W.heap.size W w' := by
  have h := pub_any s (Nat.lt_trans h2 (by decide)) W
  unfold pubV pubE at h
  rw [if_pos (gsec_yes s ⟨h1, h2⟩), if_pos (gsec_yes s ⟨h1, h2⟩)] at h
  exact h
theorem gp_lt : gp < 18446744073709551616 := by decide
end Go.Proofs.YtgpigjoonhghhaaDoor

namespace Go.Proofs.YtgpigjoonhghhaaDoor
open Go.RowKit
set_option linter.unusedVariables false
end Go.Proofs.YtgpigjoonhghhaaDoor

namespace Go.Proofs.YtgpigjoonhghhaaDoor
open Go.RowKit
abbrev listK : List (String × DataW Unit) := [("ipsecgate/sha256.constants", Rows.laid_ipsecgate_sha256_constants)]
abbrev stepsK : Nat := 19
theorem gK : Tryd.prog.globalNamed "ipsecgate/sha256.constants" = some 0 := by kernel_rfl
theorem tK : (Tryd.prog.globals[0]?).map (·.type) = some 93 := by kernel_rfl
theorem cellsU : Tryd.prog.cellsOf 80 = 1 := by kernel_rfl
theorem cells64 : Tryd.prog.cellsOf 93 = 64 := by kernel_rfl
theorem laidK {W : World} (h : laidMetH Tryd.prog listK W) : KAt W := by
  rw [MakeChecks.laidMetH_plain _ _ _ (by kernel_rfl)] at h
  have h' : laidMet Tryd.prog [("ipsecgate/sha256.constants", Lib.tabData .u32 kTab)] W := h
  have hT := Lib.tabIs_of_head gK tK Tryd.underlying93 Tryd.underlying80 cellsU cells64 h'
  have hc := fun j (hj : j < 64) => hT.cell gK j (by rw [kTab_len]; exact hj)
  exact ⟨hc, World.block_lt_of_cell? W _ (hc 0 (by omega))⟩
theorem doorK (os : Os) (args : Array Value) : laidMetH Tryd.prog listK ((World.doorLaid Tryd.prog stepsK os).forCall (fun _ _ => 0) ⟨#[], args, []⟩).memory :=
  laidMetH_of_parts3 (fuel := 8) (laidMet_of_run' 8 (by kernel_rfl) (by kernel_rfl)) (by kernel_rfl) (by kernel_rfl)
end Go.Proofs.YtgpigjoonhghhaaDoor
