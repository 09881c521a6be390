/-
  Public numbers, shared secrets and the bytes of elements: the program's and the document's; a drawn secret; the chapter's example.
  What the laws of chapter 13 use: public numbers and powers told for what they are.
  The law GroupAgrees, walked: it returns true for every input, and only adds memory of its own.
  What the condition on the package variable says of the table of the hash.
-/
import Derived.Test.YtgpigjoonhghhaaDoorQCZ4
import Derived.Test.YtgpigjoonhghhaaDoorQCWPut
import Derived.Test.YtgpigjoonhghhaaDoorQCZ2
import Derived.Test.YtgpigjoonhghhaaDoorQCWNumber
import Derived.Test.YtgpigjoonhghhaaDoorQCRNumber
import Derived.Test.YtgpigjoonhghhaaDoorQCZ1
import Derived.Test.YtgpigjoonhghhaaDoorQCOwnB
import Derived.Test.YtgpigjoonhghhaaDoorQCShaBlock
import Derived.ProofKit
import Derived.LaidMore
import Derived.Lib.LaidTab
import Derived.Stop.Joined
namespace Go.Proofs.YtgpigjoonhghhaaDoor
open Go.RowKit
set_option linter.unusedVariables false
def gsec (s : Nat) : Bool := decide (1 ≤ s) && decide (s < gq)
def pubV (s : Nat) : Nat := if gsec s = true then gpow 4 s else 0
def pubE (s : Nat) : Int := if gsec s = true then 0 else 13
def gbytes (a : Nat) : List Int := be 8 (a : Int)
def shrL (s p : Nat) : List Int := if (gsec s && gel p) = true then gbytes (gpow p s) else []
def shrE (s p : Nat) : Int := if (gsec s && gel p) = true then 0 else 13
def parV (xs : List Int) : Int := if xs.length = 8 ∧ gel (val xs).toNat = true then val xs else 0
def parE (xs : List Int) : Int := if xs.length = 8 then (if gel (val xs).toNat = true then 0 else 13) else 2
def ToGE (R : List Int) (E : Int) (w : World) (e : Ending) (w' : World) : Prop :=
  ∃ p' N c', e = .returned (.tuple #[.slice p' N c', .int .i64 E]) ∧ Byt w' p' N c' R ∧ Below w.heap.size w w'
def ToG (R : List Int) (w : World) (e : Ending) (w' : World) : Prop :=
  ∃ p' N c', e = .returned (.slice p' N c') ∧ Byt w' p' N c' R ∧ Below w.heap.size w w'
end Go.Proofs.YtgpigjoonhghhaaDoor

namespace Go.Proofs.YtgpigjoonhghhaaDoor
open Go.RowKit
set_option linter.unusedVariables false
end Go.Proofs.YtgpigjoonhghhaaDoor

namespace Go.Proofs.YtgpigjoonhghhaaDoor
open Go.RowKit
set_option linter.unusedVariables false
end Go.Proofs.YtgpigjoonhghhaaDoor

namespace Go.Proofs.YtgpigjoonhghhaaDoor
open Go.RowKit
abbrev listK : List (String × DataW Unit) := [("ipsecgate/sha256.constants", Rows.laid_ipsecgate_sha256_constants)]
abbrev stepsK : Nat := 19
theorem gK : Tryd.prog.globalNamed "ipsecgate/sha256.constants" = some 0 := by kernel_rfl
theorem tK : (Tryd.prog.globals[0]?).map (·.type) = some 93 := by kernel_rfl
theorem cellsU : Tryd.prog.cellsOf 80 = 1 := by kernel_rfl
theorem cells64 : Tryd.prog.cellsOf 93 = 64 := by kernel_rfl
theorem laidK {W : World} (h : laidMetH Tryd.prog listK W) : KAt W := by
  rw [MakeChecks.laidMetH_plain _ _ _ (by kernel_rfl)] at h
  have h' : laidMet Tryd.prog [("ipsecgate/sha256.constants", Lib.tabData .u32 kTab)] W := h
  have hT := Lib.tabIs_of_head gK tK Tryd.underlying93 Tryd.underlying80 cellsU cells64 h'
  have hc := fun j (hj : j < 64) => hT.cell gK j (by rw [kTab_len]; exact hj)
  exact ⟨hc, World.block_lt_of_cell? W _ (hc 0 (by omega))⟩
theorem doorK (os : Os) (args : Array Value) : laidMetH Tryd.prog listK ((World.doorLaid Tryd.prog stepsK os).forCall (fun _ _ => 0) ⟨#[], args, []⟩).memory :=
  laidMetH_of_parts3 (fuel := 8) (laidMet_of_run' 8 (by kernel_rfl) (by kernel_rfl)) (by kernel_rfl) (by kernel_rfl)
end Go.Proofs.YtgpigjoonhghhaaDoor
