/-
  DERIVED. GIVEN WITH THE SEED: THE CARDS: each row of YtnnpecfineanlaaDoorRows.lean that lists a variable, with what it lists TIED to the program's text (the seventh form; the later family's looks); each row that meets fmt, with fmt's text TOLD by the authors' own Lean function (tested against real Go, not proved from fmt's source: count such statements apart). THE CARD IS WHAT COUNTS. Prove the row's statement (the work); the ties are given (YtnnpecfineanlaaDoorTie.lean); close each card by the builder's one call (the guide's Derived/Test/ToyasCard.lean, 'card_holds'). Laid BY PROGRAM, IN A SANDBOX (cutbox-door.mjs). By AI agents, Wed Nov 11 2026. No macro, syntax, notation, axiom, sorry.
-/
import Derived.Test.YtnnpecfineanlaaDoorRows
import GoSem.ClaimSeven
namespace Go.Proofs.YtnnpecfineanlaaDoor
namespace Rows

/-- THE TIED CARD OF 'ipsecgatelaw06.PayloadReturns'. -/
def payloadReturnsCard : Claim7 := { stood := { row := payloadReturnsRow, standIns := [], harness := (true, "246409b31375ead0ba4dda21697b99f71ae628a340cb9ce92f25a0280fb608ad"), looks := false }, kinds := [], alts := [], laidByText := true, laidKinds := [.data], laidTests := true, laidLooks := .later }
def PayloadReturnsCardSaid : Prop := Claim7.holds Tryd.pinned (.plain (OpenSpec.ofChange payloadReturnsSpec)) payloadReturnsCard

/-- THE TIED CARD OF 'ipsecgatelaw10.ChachaBlocks'. -/
def chachaBlocksCard : Claim7 := { stood := { row := chachaBlocksRow, standIns := [], harness := (true, "246409b31375ead0ba4dda21697b99f71ae628a340cb9ce92f25a0280fb608ad"), looks := false }, kinds := [], alts := [], laidByText := true, laidKinds := [.data], laidTests := true, laidLooks := .later }
def ChachaBlocksCardSaid : Prop := Claim7.holds Tryd.pinned (.plain (OpenSpec.ofChange chachaBlocksSpec)) chachaBlocksCard

/-- THE TIED CARD OF 'ipsecgatelaw10.ChachaTurns'. -/
def chachaTurnsCard : Claim7 := { stood := { row := chachaTurnsRow, standIns := [], harness := (true, "246409b31375ead0ba4dda21697b99f71ae628a340cb9ce92f25a0280fb608ad"), looks := false }, kinds := [], alts := [], laidByText := true, laidKinds := [.data], laidTests := true, laidLooks := .later }
def ChachaTurnsCardSaid : Prop := Claim7.holds Tryd.pinned (.plain (OpenSpec.ofChange chachaTurnsSpec)) chachaTurnsCard

/-- THE TIED CARD OF 'ipsecgatelaw10.ChachaStreams'. -/
def chachaStreamsCard : Claim7 := { stood := { row := chachaStreamsRow, standIns := [], harness := (true, "246409b31375ead0ba4dda21697b99f71ae628a340cb9ce92f25a0280fb608ad"), looks := false }, kinds := [], alts := [], laidByText := true, laidKinds := [.data], laidTests := true, laidLooks := .later }
def ChachaStreamsCardSaid : Prop := Claim7.holds Tryd.pinned (.plain (OpenSpec.ofChange chachaStreamsSpec)) chachaStreamsCard

/-- THE SECOND FORM's CARD OF 'ipsecgatelaw06.PayloadReturns'. -/
def payloadReturnsUptoCard : Claim7 := { stood := { row := payloadReturnsUptoRow, standIns := [], harness := (true, "246409b31375ead0ba4dda21697b99f71ae628a340cb9ce92f25a0280fb608ad"), looks := false }, kinds := [], alts := [], laidByText := true, laidKinds := [.data], laidTests := true, laidLooks := .later }
def PayloadReturnsUptoCardSaid : Prop := Claim7.holds Tryd.pinned (.plain (OpenSpec.upto payloadReturnsSpec)) payloadReturnsUptoCard

/-- THE SECOND FORM's CARD OF 'ipsecgatelaw10.ChachaBlocks'. -/
def chachaBlocksUptoCard : Claim7 := { stood := { row := chachaBlocksUptoRow, standIns := [], harness := (true, "246409b31375ead0ba4dda21697b99f71ae628a340cb9ce92f25a0280fb608ad"), looks := false }, kinds := [], alts := [], laidByText := true, laidKinds := [.data], laidTests := true, laidLooks := .later }
def ChachaBlocksUptoCardSaid : Prop := Claim7.holds Tryd.pinned (.plain (OpenSpec.upto chachaBlocksSpec)) chachaBlocksUptoCard

/-- THE SECOND FORM's CARD OF 'ipsecgatelaw10.ChachaTurns'. -/
def chachaTurnsUptoCard : Claim7 := { stood := { row := chachaTurnsUptoRow, standIns := [], harness := (true, "246409b31375ead0ba4dda21697b99f71ae628a340cb9ce92f25a0280fb608ad"), looks := false }, kinds := [], alts := [], laidByText := true, laidKinds := [.data], laidTests := true, laidLooks := .later }
def ChachaTurnsUptoCardSaid : Prop := Claim7.holds Tryd.pinned (.plain (OpenSpec.upto chachaTurnsSpec)) chachaTurnsUptoCard

/-- THE SECOND FORM's CARD OF 'ipsecgatelaw10.ChachaStreams'. -/
def chachaStreamsUptoCard : Claim7 := { stood := { row := chachaStreamsUptoRow, standIns := [], harness := (true, "246409b31375ead0ba4dda21697b99f71ae628a340cb9ce92f25a0280fb608ad"), looks := false }, kinds := [], alts := [], laidByText := true, laidKinds := [.data], laidTests := true, laidLooks := .later }
def ChachaStreamsUptoCardSaid : Prop := Claim7.holds Tryd.pinned (.plain (OpenSpec.upto chachaStreamsSpec)) chachaStreamsUptoCard
end Rows
end Go.Proofs.YtnnpecfineanlaaDoor
