/-
  The chapter's examples hold: awake returns true and only adds memory of its own.
-/
import Derived.Test.YtdlbjbfonihglaaWNumber
import Derived.Test.YtdlbjbfonihglaaWChecksum
import Derived.Test.YtdlbjbfonihglaaWCompare
namespace Go.Proofs.Ytdlbjbfonihglaa
open Go.RowKit
set_option linter.unusedVariables false

theorem awake1 (g : Nat) (w : World) (h0 : w.cell? ⟨g, 0, none⟩ = some (.int .u8 1)) (h1 : w.cell? ⟨g, 1, none⟩ = some (.int .u8 2)) : Calls Try.prog 12 #[.slice (some ⟨g, 0, none⟩) 2 2, .int .i64 0, .int .i64 2] w fun e w' => e = .returned (.tuple #[.int .u64 258, .bool true]) ∧ w = w' :=
  number_any _ 2 2 [1, 2] _ (two_byt (by omega) (by omega) h0 h1) 0 2 (by omega) (by omega)
theorem awake2 (g : Nat) (w : World) (h0 : w.cell? ⟨g, 0, none⟩ = some (.int .u8 0)) (h1 : w.cell? ⟨g, 1, none⟩ = some (.int .u8 1)) : Calls Try.prog 19 #[.slice (some ⟨g, 0, none⟩) 2 2] w fun e w' => e = .returned (.int .i64 65534) ∧ w = w' :=
  checksum_any _ 2 2 [0, 1] _ (two_byt (by omega) (by omega) h0 h1) (by decide)
theorem awake3 (g f : Nat) (w : World) (h : w.cell? ⟨f, 0, none⟩ = some (.int .u8 1)) (h0 : w.cell? ⟨g, 0, none⟩ = some (.int .u8 1)) (h1 : w.cell? ⟨g, 1, none⟩ = some (.int .u8 0)) : Calls Try.prog 22 #[.slice (some ⟨f, 0, none⟩) 1 1, .slice (some ⟨g, 0, none⟩) 2 2] w fun e w' => e = .returned (.int .i64 (-1)) ∧ w = w' :=
  compare_any _ _ 1 1 2 2 [1] [1, 0] _ (one_byt (by omega) h) (two_byt (by omega) (by omega) h0 h1)

set_option maxHeartbeats 400000 in
theorem awake_any (w : World) : Calls Try.prog 10 #[] w fun e w' => e = .returned (.bool true) ∧ Below w.heap.size w w' := by
  go_enter Try.func10, Try.ntmps10
  go_wp2_with (first | (go_at_call 12; refine (awake1 _ _ (by go_simp) (by go_simp)).mono ?_; rintro e w' ⟨rfl, rfl⟩) | (go_at_call 19; refine (awake2 _ _ (by go_simp) (by go_simp)).mono ?_; rintro e w' ⟨rfl, rfl⟩) | (go_at_call 22; refine (awake3 _ _ _ (by go_simp) (by go_simp) (by go_simp)).mono ?_; rintro e w' ⟨rfl, rfl⟩))
  go_ret
  exact ⟨rfl, ((((Below.refl _ _).alloc (Nat.le_refl _) _).alloc (by simp) _).alloc (by simp; omega) _).alloc (by simp; omega) _⟩
end Go.Proofs.Ytdlbjbfonihglaa
