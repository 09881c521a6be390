/-
  What the condition on the package variable says of the table of the hash.
-/
import Derived.Test.YtgpigjoonhghhaaDoorQDShaBlock
import Derived.ProofKit
import Derived.LaidMore
import Derived.Lib.LaidTab
import Derived.Stop.Joined
namespace Go.Proofs.YtgpigjoonhghhaaDoor
open Go.RowKit
abbrev listK : List (String × DataW Unit) := [("ipsecgate/sha256.constants", Rows.laid_ipsecgate_sha256_constants)]
abbrev stepsK : Nat := 19
theorem gK : Tryd.prog.globalNamed "ipsecgate/sha256.constants" = some 0 := by kernel_rfl
theorem tK : (Tryd.prog.globals[0]?).map (·.type) = some 93 := by kernel_rfl
theorem cellsU : Tryd.prog.cellsOf 80 = 1 := by kernel_rfl
theorem cells64 : Tryd.prog.cellsOf 93 = 64 := by kernel_rfl
theorem laidK {W : World} (h : laidMetH Tryd.prog listK W) : KAt W := by
  rw [MakeChecks.laidMetH_plain _ _ _ (by kernel_rfl)] at h
  have h' : laidMet Tryd.prog [("ipsecgate/sha256.constants", Lib.tabData .u32 kTab)] W := h
  have hT := Lib.tabIs_of_head gK tK Tryd.underlying93 Tryd.underlying80 cellsU cells64 h'
  have hc := fun j (hj : j < 64) => hT.cell gK j (by rw [kTab_len]; exact hj)
  exact ⟨hc, World.block_lt_of_cell? W _ (hc 0 (by omega))⟩
theorem doorK (os : Os) (args : Array Value) : laidMetH Tryd.prog listK ((World.doorLaid Tryd.prog stepsK os).forCall (fun _ _ => 0) ⟨#[], args, []⟩).memory :=
  laidMetH_of_parts3 (fuel := 8) (laidMet_of_run' 8 (by kernel_rfl) (by kernel_rfl)) (by kernel_rfl) (by kernel_rfl)
end Go.Proofs.YtgpigjoonhghhaaDoor
