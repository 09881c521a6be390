/-
  What the condition on the package variable says of the table of the payloads' types.
-/
import Derived.Test.YtpocehpejbnemaaDoorRPayDraw
import Derived.ProofKit
import Derived.LaidMore
import Derived.Lib.LaidTab
import Derived.Stop.Joined
namespace Go.Proofs.YtpocehpejbnemaaDoor
open Go.RowKit

abbrev listKinds : List (String × DataW Unit) := [("ipsecgate/ipsecgatemake.Kinds", Rows.laid_ipsecgate_ipsecgatemake_Kinds)]
abbrev stepsKinds : Nat := 19
theorem gKinds : Tryd.prog.globalNamed "ipsecgate/ipsecgatemake.Kinds" = some 0 := by kernel_rfl
theorem tKinds : (Tryd.prog.globals[0]?).map (·.type) = some 72 := by kernel_rfl
theorem cellsI : Tryd.prog.cellsOf 3 = 1 := by kernel_rfl
theorem cells12 : Tryd.prog.cellsOf 72 = 12 := by kernel_rfl

theorem laidKinds {W : World} (h : laidMetH Tryd.prog listKinds W) : KindsAt W ∧ 0 < W.heap.size := by
  rw [MakeChecks.laidMetH_plain _ _ _ (by kernel_rfl)] at h
  have h' : laidMet Tryd.prog [("ipsecgate/ipsecgatemake.Kinds", Lib.tabData .i64 kindsL)] W := h
  have hT := Lib.tabIs_of_head gKinds tKinds Tryd.underlying72 Tryd.underlying3 cellsI cells12 h'
  have hc := fun j (hj : j < 12) => hT.cell gKinds j hj
  exact ⟨hc, Nat.lt_of_le_of_lt (Nat.zero_le _) (World.block_lt_of_cell? W _ (hc 0 (by omega)))⟩
theorem doorKinds (os : Os) (args : Array Value) : laidMetH Tryd.prog listKinds ((World.doorLaid Tryd.prog stepsKinds os).forCall (fun _ _ => 0) ⟨#[], args, []⟩).memory :=
  laidMetH_of_parts3 (fuel := 8) (laidMet_of_run' 8 (by kernel_rfl) (by kernel_rfl)) (by kernel_rfl) (by kernel_rfl)
end Go.Proofs.YtpocehpejbnemaaDoor
