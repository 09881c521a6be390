/-
  DERIVED. GIVEN WITH THE SEED: THE CARDS: each row of YtgpigjoonhghhaaDoorRows.lean that lists a variable, with what it lists TIED to the program's text (the seventh form; the later family's looks); each row that meets fmt, with fmt's text TOLD by the authors' own Lean function (tested against real Go, not proved from fmt's source: count such statements apart). THE CARD IS WHAT COUNTS. Prove the row's statement (the work); the ties are given (YtgpigjoonhghhaaDoorTie.lean); close each card by the builder's one call (the guide's Derived/Test/ToyasCard.lean, 'card_holds'). Laid BY PROGRAM, IN A SANDBOX (cutbox-door.mjs). By AI agents, Wed Nov 11 2026. No macro, syntax, notation, axiom, sorry.
-/
import Derived.Test.YtgpigjoonhghhaaDoorRows
import GoSem.ClaimSeven
namespace Go.Proofs.YtgpigjoonhghhaaDoor
namespace Rows

/-- THE TIED CARD OF 'ipsecgatelaw16.KeysDerive'. -/
def keysDeriveCard : Claim7 := { stood := { row := keysDeriveRow, standIns := [], harness := (true, "5a2c5a02bb413f4fdcd97d29d1e47b0f8fc907ce32f8f8fc80450ee4df563770"), looks := false }, kinds := [], alts := [], laidByText := true, laidKinds := [.data], laidTests := true, laidLooks := .later }
def KeysDeriveCardSaid : Prop := Claim7.holds Tryd.pinned (.plain (OpenSpec.ofChange keysDeriveSpec)) keysDeriveCard

/-- THE TIED CARD OF 'ipsecgatelaw16.KeysProve'. -/
def keysProveCard : Claim7 := { stood := { row := keysProveRow, standIns := [], harness := (true, "5a2c5a02bb413f4fdcd97d29d1e47b0f8fc907ce32f8f8fc80450ee4df563770"), looks := false }, kinds := [], alts := [], laidByText := true, laidKinds := [.data], laidTests := true, laidLooks := .later }
def KeysProveCardSaid : Prop := Claim7.holds Tryd.pinned (.plain (OpenSpec.ofChange keysProveSpec)) keysProveCard

/-- THE TIED CARD OF 'ipsecgatelaw16.KeysAgree'. -/
def keysAgreeCard : Claim7 := { stood := { row := keysAgreeRow, standIns := [], harness := (true, "5a2c5a02bb413f4fdcd97d29d1e47b0f8fc907ce32f8f8fc80450ee4df563770"), looks := false }, kinds := [], alts := [], laidByText := true, laidKinds := [.data], laidTests := true, laidLooks := .later }
def KeysAgreeCardSaid : Prop := Claim7.holds Tryd.pinned (.plain (OpenSpec.ofChange keysAgreeSpec)) keysAgreeCard

/-- THE TIED CARD OF 'ipsecgatelaw16.KeysChains'. -/
def keysChainsCard : Claim7 := { stood := { row := keysChainsRow, standIns := [], harness := (true, "5a2c5a02bb413f4fdcd97d29d1e47b0f8fc907ce32f8f8fc80450ee4df563770"), looks := false }, kinds := [], alts := [], laidByText := true, laidKinds := [.data], laidTests := true, laidLooks := .later }
def KeysChainsCardSaid : Prop := Claim7.holds Tryd.pinned (.plain (OpenSpec.ofChange keysChainsSpec)) keysChainsCard

/-- THE SECOND FORM's CARD OF 'ipsecgatelaw16.KeysDerive'. -/
def keysDeriveUptoCard : Claim7 := { stood := { row := keysDeriveUptoRow, standIns := [], harness := (true, "5a2c5a02bb413f4fdcd97d29d1e47b0f8fc907ce32f8f8fc80450ee4df563770"), looks := false }, kinds := [], alts := [], laidByText := true, laidKinds := [.data], laidTests := true, laidLooks := .later }
def KeysDeriveUptoCardSaid : Prop := Claim7.holds Tryd.pinned (.plain (OpenSpec.upto keysDeriveSpec)) keysDeriveUptoCard

/-- THE SECOND FORM's CARD OF 'ipsecgatelaw16.KeysProve'. -/
def keysProveUptoCard : Claim7 := { stood := { row := keysProveUptoRow, standIns := [], harness := (true, "5a2c5a02bb413f4fdcd97d29d1e47b0f8fc907ce32f8f8fc80450ee4df563770"), looks := false }, kinds := [], alts := [], laidByText := true, laidKinds := [.data], laidTests := true, laidLooks := .later }
def KeysProveUptoCardSaid : Prop := Claim7.holds Tryd.pinned (.plain (OpenSpec.upto keysProveSpec)) keysProveUptoCard

/-- THE SECOND FORM's CARD OF 'ipsecgatelaw16.KeysAgree'. -/
def keysAgreeUptoCard : Claim7 := { stood := { row := keysAgreeUptoRow, standIns := [], harness := (true, "5a2c5a02bb413f4fdcd97d29d1e47b0f8fc907ce32f8f8fc80450ee4df563770"), looks := false }, kinds := [], alts := [], laidByText := true, laidKinds := [.data], laidTests := true, laidLooks := .later }
def KeysAgreeUptoCardSaid : Prop := Claim7.holds Tryd.pinned (.plain (OpenSpec.upto keysAgreeSpec)) keysAgreeUptoCard

/-- THE SECOND FORM's CARD OF 'ipsecgatelaw16.KeysChains'. -/
def keysChainsUptoCard : Claim7 := { stood := { row := keysChainsUptoRow, standIns := [], harness := (true, "5a2c5a02bb413f4fdcd97d29d1e47b0f8fc907ce32f8f8fc80450ee4df563770"), looks := false }, kinds := [], alts := [], laidByText := true, laidKinds := [.data], laidTests := true, laidLooks := .later }
def KeysChainsUptoCardSaid : Prop := Claim7.holds Tryd.pinned (.plain (OpenSpec.upto keysChainsSpec)) keysChainsUptoCard
end Rows
end Go.Proofs.YtgpigjoonhghhaaDoor
