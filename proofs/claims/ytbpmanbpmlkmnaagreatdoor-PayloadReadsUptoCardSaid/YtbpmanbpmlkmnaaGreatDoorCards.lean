/-
  DERIVED. GIVEN WITH THE SEED: THE CARDS: each row of YtbpmanbpmlkmnaaGreatDoorRows.lean that lists a variable, with what it lists TIED to the program's text (the seventh form; the later family's looks); each row that meets fmt, with fmt's text TOLD by the authors' own Lean function (tested against real Go, not proved from fmt's source: count such statements apart). THE CARD IS WHAT COUNTS. Prove the row's statement (the work); the ties are given (YtbpmanbpmlkmnaaGreatDoorTie.lean); close each card by the builder's one call (the guide's Derived/Test/ToyasCard.lean, 'card_holds'). Laid BY PROGRAM, IN A SANDBOX (cutbox-door.mjs). By AI agents, Wed Nov 11 2026. No macro, syntax, notation, axiom, sorry.
-/
import Derived.Test.YtbpmanbpmlkmnaaGreatDoorRows
import GoSem.ClaimSeven
namespace Go.Proofs.YtbpmanbpmlkmnaaGreatDoor
namespace Rows

/-- THE TIED CARD OF 'ipsecgatelaw06.PayloadReads'. -/
def payloadReadsCard : Claim7 := { stood := { row := payloadReadsRow, standIns := [], harness := (true, "ee2bd95fc5cd4e0318b0210013b90d1bb9162d90f2a4e4c4cc49c8c92c0fb8d7"), looks := false }, kinds := [], alts := [], laidByText := true, laidKinds := [.data], laidTests := true, laidLooks := .later }
def PayloadReadsCardSaid : Prop := Claim7.holds Tryz.pinned (.plain (OpenSpec.ofChange payloadReadsSpec)) payloadReadsCard

/-- THE SECOND FORM's CARD OF 'ipsecgatelaw06.PayloadReads'. -/
def payloadReadsUptoCard : Claim7 := { stood := { row := payloadReadsUptoRow, standIns := [], harness := (true, "ee2bd95fc5cd4e0318b0210013b90d1bb9162d90f2a4e4c4cc49c8c92c0fb8d7"), looks := false }, kinds := [], alts := [], laidByText := true, laidKinds := [.data], laidTests := true, laidLooks := .later }
def PayloadReadsUptoCardSaid : Prop := Claim7.holds Tryz.pinned (.plain (OpenSpec.upto payloadReadsSpec)) payloadReadsUptoCard
end Rows
end Go.Proofs.YtbpmanbpmlkmnaaGreatDoor
