/-
  DERIVED. GIVEN WITH THE SEED: THE CARDS: each row of YtpocehpejbnemaaDoorRows.lean that lists a variable, with what it lists TIED to the program's text (the seventh form; the later family's looks); each row that meets fmt, with fmt's text TOLD by the authors' own Lean function (tested against real Go, not proved from fmt's source: count such statements apart). THE CARD IS WHAT COUNTS. Prove the row's statement (the work); the ties are given (YtpocehpejbnemaaDoorTie.lean); close each card by the builder's one call (the guide's Derived/Test/ToyasCard.lean, 'card_holds'). Laid BY PROGRAM, IN A SANDBOX (cutbox-door.mjs). By AI agents, Wed Nov 11 2026. No macro, syntax, notation, axiom, sorry.
-/
import Derived.Test.YtpocehpejbnemaaDoorRows
import GoSem.ClaimSeven
namespace Go.Proofs.YtpocehpejbnemaaDoor
namespace Rows

/-- THE TIED CARD OF 'ipsecgatelaw06.PayloadReturns'. -/
def payloadReturnsCard : Claim7 := { stood := { row := payloadReturnsRow, standIns := [], harness := (true, "ef63d1b1d37f6242105cb3f8023d10c3bab0334a6dd6f6177dcb36a780945861"), looks := false }, kinds := [], alts := [], laidByText := true, laidKinds := [.data], laidTests := true, laidLooks := .later }
def PayloadReturnsCardSaid : Prop := Claim7.holds Tryd.pinned (.plain (OpenSpec.ofChange payloadReturnsSpec)) payloadReturnsCard

/-- THE TIED CARD OF 'ipsecgatelaw12.AeadSeals'. -/
def aeadSealsCard : Claim7 := { stood := { row := aeadSealsRow, standIns := [], harness := (true, "ef63d1b1d37f6242105cb3f8023d10c3bab0334a6dd6f6177dcb36a780945861"), looks := false }, kinds := [], alts := [], laidByText := true, laidKinds := [.data], laidTests := true, laidLooks := .later }
def AeadSealsCardSaid : Prop := Claim7.holds Tryd.pinned (.plain (OpenSpec.ofChange aeadSealsSpec)) aeadSealsCard

/-- THE TIED CARD OF 'ipsecgatelaw12.AeadOpens'. -/
def aeadOpensCard : Claim7 := { stood := { row := aeadOpensRow, standIns := [], harness := (true, "ef63d1b1d37f6242105cb3f8023d10c3bab0334a6dd6f6177dcb36a780945861"), looks := false }, kinds := [], alts := [], laidByText := true, laidKinds := [.data], laidTests := true, laidLooks := .later }
def AeadOpensCardSaid : Prop := Claim7.holds Tryd.pinned (.plain (OpenSpec.ofChange aeadOpensSpec)) aeadOpensCard

/-- THE TIED CARD OF 'ipsecgatelaw12.AeadReturns'. -/
def aeadReturnsCard : Claim7 := { stood := { row := aeadReturnsRow, standIns := [], harness := (true, "ef63d1b1d37f6242105cb3f8023d10c3bab0334a6dd6f6177dcb36a780945861"), looks := false }, kinds := [], alts := [], laidByText := true, laidKinds := [.data], laidTests := true, laidLooks := .later }
def AeadReturnsCardSaid : Prop := Claim7.holds Tryd.pinned (.plain (OpenSpec.ofChange aeadReturnsSpec)) aeadReturnsCard

/-- THE TIED CARD OF 'ipsecgatelaw12.AeadJoins'. -/
def aeadJoinsCard : Claim7 := { stood := { row := aeadJoinsRow, standIns := [], harness := (true, "ef63d1b1d37f6242105cb3f8023d10c3bab0334a6dd6f6177dcb36a780945861"), looks := false }, kinds := [], alts := [], laidByText := true, laidKinds := [.data], laidTests := true, laidLooks := .later }
def AeadJoinsCardSaid : Prop := Claim7.holds Tryd.pinned (.plain (OpenSpec.ofChange aeadJoinsSpec)) aeadJoinsCard

/-- THE SECOND FORM's CARD OF 'ipsecgatelaw06.PayloadReturns'. -/
def payloadReturnsUptoCard : Claim7 := { stood := { row := payloadReturnsUptoRow, standIns := [], harness := (true, "ef63d1b1d37f6242105cb3f8023d10c3bab0334a6dd6f6177dcb36a780945861"), looks := false }, kinds := [], alts := [], laidByText := true, laidKinds := [.data], laidTests := true, laidLooks := .later }
def PayloadReturnsUptoCardSaid : Prop := Claim7.holds Tryd.pinned (.plain (OpenSpec.upto payloadReturnsSpec)) payloadReturnsUptoCard

/-- THE SECOND FORM's CARD OF 'ipsecgatelaw12.AeadSeals'. -/
def aeadSealsUptoCard : Claim7 := { stood := { row := aeadSealsUptoRow, standIns := [], harness := (true, "ef63d1b1d37f6242105cb3f8023d10c3bab0334a6dd6f6177dcb36a780945861"), looks := false }, kinds := [], alts := [], laidByText := true, laidKinds := [.data], laidTests := true, laidLooks := .later }
def AeadSealsUptoCardSaid : Prop := Claim7.holds Tryd.pinned (.plain (OpenSpec.upto aeadSealsSpec)) aeadSealsUptoCard

/-- THE SECOND FORM's CARD OF 'ipsecgatelaw12.AeadOpens'. -/
def aeadOpensUptoCard : Claim7 := { stood := { row := aeadOpensUptoRow, standIns := [], harness := (true, "ef63d1b1d37f6242105cb3f8023d10c3bab0334a6dd6f6177dcb36a780945861"), looks := false }, kinds := [], alts := [], laidByText := true, laidKinds := [.data], laidTests := true, laidLooks := .later }
def AeadOpensUptoCardSaid : Prop := Claim7.holds Tryd.pinned (.plain (OpenSpec.upto aeadOpensSpec)) aeadOpensUptoCard

/-- THE SECOND FORM's CARD OF 'ipsecgatelaw12.AeadReturns'. -/
def aeadReturnsUptoCard : Claim7 := { stood := { row := aeadReturnsUptoRow, standIns := [], harness := (true, "ef63d1b1d37f6242105cb3f8023d10c3bab0334a6dd6f6177dcb36a780945861"), looks := false }, kinds := [], alts := [], laidByText := true, laidKinds := [.data], laidTests := true, laidLooks := .later }
def AeadReturnsUptoCardSaid : Prop := Claim7.holds Tryd.pinned (.plain (OpenSpec.upto aeadReturnsSpec)) aeadReturnsUptoCard

/-- THE SECOND FORM's CARD OF 'ipsecgatelaw12.AeadJoins'. -/
def aeadJoinsUptoCard : Claim7 := { stood := { row := aeadJoinsUptoRow, standIns := [], harness := (true, "ef63d1b1d37f6242105cb3f8023d10c3bab0334a6dd6f6177dcb36a780945861"), looks := false }, kinds := [], alts := [], laidByText := true, laidKinds := [.data], laidTests := true, laidLooks := .later }
def AeadJoinsUptoCardSaid : Prop := Claim7.holds Tryd.pinned (.plain (OpenSpec.upto aeadJoinsSpec)) aeadJoinsUptoCard
end Rows
end Go.Proofs.YtpocehpejbnemaaDoor
