/-
  DERIVED. GIVEN WITH THE SEED: THE CARDS: each row of YtmjagbghgbemaaaDoorRows.lean that lists a variable, with what it lists TIED to the program's text (the seventh form; the later family's looks); each row that meets fmt, with fmt's text TOLD by the authors' own Lean function (tested against real Go, not proved from fmt's source: count such statements apart). THE CARD IS WHAT COUNTS. Prove the row's statement (the work); the ties are given (YtmjagbghgbemaaaDoorTie.lean); close each card by the builder's one call (the guide's Derived/Test/ToyasCard.lean, 'card_holds'). Laid BY PROGRAM, IN A SANDBOX (cutbox-door.mjs). By AI agents, Wed Nov 11 2026. No macro, syntax, notation, axiom, sorry.
-/
import Derived.Test.YtmjagbghgbemaaaDoorRows
import GoSem.ClaimSeven
namespace Go.Proofs.YtmjagbghgbemaaaDoor
namespace Rows

/-- THE TIED CARD OF 'ipsecgatelaw06.PayloadCompares'. -/
def payloadComparesCard : Claim7 := { stood := { row := payloadComparesRow, standIns := [], harness := (true, "c5ce0d923a81b5f41599e96c77fe1fedef8ac257776ab0df0889de6283cad4bc"), looks := false }, kinds := [], alts := [], laidByText := true, laidKinds := [.data], laidTests := true, laidLooks := .later }
def PayloadComparesCardSaid : Prop := Claim7.holds Tryd.pinned (.plain (OpenSpec.ofChange payloadComparesSpec)) payloadComparesCard

/-- THE TIED CARD OF 'ipsecgatelaw08.Sha256Sums'. -/
def sha256SumsCard : Claim7 := { stood := { row := sha256SumsRow, standIns := [], harness := (true, "c5ce0d923a81b5f41599e96c77fe1fedef8ac257776ab0df0889de6283cad4bc"), looks := false }, kinds := [], alts := [], laidByText := true, laidKinds := [.data], laidTests := true, laidLooks := .later }
def Sha256SumsCardSaid : Prop := Claim7.holds Tryd.pinned (.plain (OpenSpec.ofChange sha256SumsSpec)) sha256SumsCard

/-- THE TIED CARD OF 'ipsecgatelaw08.Sha256Grows'. -/
def sha256GrowsCard : Claim7 := { stood := { row := sha256GrowsRow, standIns := [], harness := (true, "c5ce0d923a81b5f41599e96c77fe1fedef8ac257776ab0df0889de6283cad4bc"), looks := false }, kinds := [], alts := [], laidByText := true, laidKinds := [.data], laidTests := true, laidLooks := .later }
def Sha256GrowsCardSaid : Prop := Claim7.holds Tryd.pinned (.plain (OpenSpec.ofChange sha256GrowsSpec)) sha256GrowsCard

/-- THE TIED CARD OF 'ipsecgatelaw08.Sha256Pads'. -/
def sha256PadsCard : Claim7 := { stood := { row := sha256PadsRow, standIns := [], harness := (true, "c5ce0d923a81b5f41599e96c77fe1fedef8ac257776ab0df0889de6283cad4bc"), looks := false }, kinds := [], alts := [], laidByText := true, laidKinds := [.data], laidTests := true, laidLooks := .later }
def Sha256PadsCardSaid : Prop := Claim7.holds Tryd.pinned (.plain (OpenSpec.ofChange sha256PadsSpec)) sha256PadsCard

/-- THE SECOND FORM's CARD OF 'ipsecgatelaw06.PayloadCompares'. -/
def payloadComparesUptoCard : Claim7 := { stood := { row := payloadComparesUptoRow, standIns := [], harness := (true, "c5ce0d923a81b5f41599e96c77fe1fedef8ac257776ab0df0889de6283cad4bc"), looks := false }, kinds := [], alts := [], laidByText := true, laidKinds := [.data], laidTests := true, laidLooks := .later }
def PayloadComparesUptoCardSaid : Prop := Claim7.holds Tryd.pinned (.plain (OpenSpec.upto payloadComparesSpec)) payloadComparesUptoCard

/-- THE SECOND FORM's CARD OF 'ipsecgatelaw08.Sha256Sums'. -/
def sha256SumsUptoCard : Claim7 := { stood := { row := sha256SumsUptoRow, standIns := [], harness := (true, "c5ce0d923a81b5f41599e96c77fe1fedef8ac257776ab0df0889de6283cad4bc"), looks := false }, kinds := [], alts := [], laidByText := true, laidKinds := [.data], laidTests := true, laidLooks := .later }
def Sha256SumsUptoCardSaid : Prop := Claim7.holds Tryd.pinned (.plain (OpenSpec.upto sha256SumsSpec)) sha256SumsUptoCard

/-- THE SECOND FORM's CARD OF 'ipsecgatelaw08.Sha256Grows'. -/
def sha256GrowsUptoCard : Claim7 := { stood := { row := sha256GrowsUptoRow, standIns := [], harness := (true, "c5ce0d923a81b5f41599e96c77fe1fedef8ac257776ab0df0889de6283cad4bc"), looks := false }, kinds := [], alts := [], laidByText := true, laidKinds := [.data], laidTests := true, laidLooks := .later }
def Sha256GrowsUptoCardSaid : Prop := Claim7.holds Tryd.pinned (.plain (OpenSpec.upto sha256GrowsSpec)) sha256GrowsUptoCard

/-- THE SECOND FORM's CARD OF 'ipsecgatelaw08.Sha256Pads'. -/
def sha256PadsUptoCard : Claim7 := { stood := { row := sha256PadsUptoRow, standIns := [], harness := (true, "c5ce0d923a81b5f41599e96c77fe1fedef8ac257776ab0df0889de6283cad4bc"), looks := false }, kinds := [], alts := [], laidByText := true, laidKinds := [.data], laidTests := true, laidLooks := .later }
def Sha256PadsUptoCardSaid : Prop := Claim7.holds Tryd.pinned (.plain (OpenSpec.upto sha256PadsSpec)) sha256PadsUptoCard
end Rows
end Go.Proofs.YtmjagbghgbemaaaDoor
